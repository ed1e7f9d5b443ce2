/- The function values that the rules hand on. -/
import Derived.Test.YtedfjacmaidhkaaGreatG21
import Derived.Laws.EntriesVeiled
import Derived.Shelf.Abstract
import Derived.Test.YtedfjacmaidhkaaGreatG17
namespace Go.Proofs.YtedfjacmaidhkaaGreat
open Go.RowKit Go.Maps
set_option linter.unusedVariables false
set_option maxRecDepth 100000

section
variable {x : Nat} {d : PL} {p : PD} {w : World}
theorem is_lives (h : Pln x d p w) : Is w (.func (.func 62) #[.pointer (some ⟨x, 0, none⟩)] #[]) (livF p.ss) :=
  ⟨62, #[.pointer (some ⟨x, 0, none⟩)], ⟨rfl, enters_of Tryz.func62 (by kernel_rfl) rfl, .inr ⟨_, rfl⟩⟩, fun a W hW => lives_any (p0 := a.1) (p1 := a.2.1) (p2 := a.2.2) (h.below hW)⟩
theorem is_lost (h : Pln x d p w) : Is w (.func (.func 66) #[.pointer (some ⟨x, 0, none⟩)] #[]) (fun q => !livF p.ss q) :=
  ⟨66, #[.pointer (some ⟨x, 0, none⟩)], ⟨rfl, enters_of Tryz.func66 (by kernel_rfl) rfl, .inr ⟨_, rfl⟩⟩, fun a W hW => lost_any (p0 := a.1) (p1 := a.2.1) (p2 := a.2.2) (h.below hW)⟩
theorem ah_emptier (h : Pln x d p w) : Ahead w (.func (.func 82) #[.pointer (some ⟨x, 0, none⟩)] #[]) (lesF p.ld) :=
  ⟨82, #[.pointer (some ⟨x, 0, none⟩)], ⟨rfl, enters_of Tryz.func82 (by kernel_rfl) rfl, .inr ⟨_, rfl⟩⟩, fun a b W d1 d2 hW => emptier_any (p0 := a.1) (p1 := a.2.1) (p2 := a.2.2) (q0 := b.1) (q1 := b.2.1) (q2 := b.2.2) (h.below hW) d1 d2⟩
theorem ah_fuller (h : Pln x d p w) : Ahead w (.func (.func 67) #[.pointer (some ⟨x, 0, none⟩)] #[]) (fun a b => lesF p.ld b a) :=
  ⟨67, #[.pointer (some ⟨x, 0, none⟩)], ⟨rfl, enters_of Tryz.func67 (by kernel_rfl) rfl, .inr ⟨_, rfl⟩⟩, fun a b W d1 d2 hW => fuller_any (p0 := a.1) (p1 := a.2.1) (p2 := a.2.2) (q0 := b.1) (q1 := b.2.1) (q2 := b.2.2) (h.below hW) d1 d2⟩
theorem ah_idler (h : Pln x d p w) : Ahead w (.func (.func 71) #[.pointer (some ⟨x, 0, none⟩)] #[]) (lesF p.le) :=
  ⟨71, #[.pointer (some ⟨x, 0, none⟩)], ⟨rfl, enters_of Tryz.func71 (by kernel_rfl) rfl, .inr ⟨_, rfl⟩⟩, fun a b W d1 d2 hW => idler_any (p0 := a.1) (p1 := a.2.1) (p2 := a.2.2) (q0 := b.1) (q1 := b.2.1) (q2 := b.2.2) (h.below hW) d1 d2⟩
end
theorem is_votes (w : World) : Is w (.func (.func 26) #[] #[]) (fun q => !q.2.2) :=
  ⟨26, #[], ⟨rfl, enters_of Tryz.func26 (by kernel_rfl) rfl, .inl rfl⟩, fun a W hW => votes_any (p0 := a.1) (p1 := a.2.1) (p2 := a.2.2) W⟩
theorem is_learns (w : World) : Is w (.func (.func 63) #[] #[]) (fun q => q.2.2) :=
  ⟨63, #[], ⟨rfl, enters_of Tryz.func63 (by kernel_rfl) rfl, .inl rfl⟩, fun a W hW => learns_any (p0 := a.1) (p1 := a.2.1) (p2 := a.2.2) W⟩
theorem ah_older (w : World) : Ahead w (.func (.func 64) #[] #[]) oldF :=
  ⟨64, #[], ⟨rfl, enters_of Tryz.func64 (by kernel_rfl) rfl, .inl rfl⟩, fun a b W _ _ hW => older_any (p0 := a.1) (p1 := a.2.1) (p2 := a.2.2) (q0 := b.1) (q1 := b.2.1) (q2 := b.2.2) W⟩
end Go.Proofs.YtedfjacmaidhkaaGreat
