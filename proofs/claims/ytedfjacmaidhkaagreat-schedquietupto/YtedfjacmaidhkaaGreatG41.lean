/- The seven rules as decide meets them: where nothing is to be merged. -/
import Derived.Test.YtedfjacmaidhkaaGreatG37
import Derived.Test.YtedfjacmaidhkaaGreatG34
import Derived.Test.YtedfjacmaidhkaaGreatG26
import Derived.Test.YtedfjacmaidhkaaGreatG35
import Derived.Test.YtedfjacmaidhkaaGreatG38
import Derived.Test.YtedfjacmaidhkaaGreatG40
import Derived.Test.YtedfjacmaidhkaaGreatG28
import Derived.Test.YtedfjacmaidhkaaGreatG27
namespace Go.Proofs.YtedfjacmaidhkaaGreat
open Go.RowKit Go.Maps
set_option linter.unusedVariables false
set_option linter.unusedSimpArgs false
set_option maxRecDepth 100000
def seven (d : PL) (p : PD) (r : RV) (MM : Or → Bool → Prop) : List (Or → Bool → Prop) := [PromP d p r, AddP d p r, RemP d p r, SplP d r, MM, BalP p r, LeadP p r]
section
variable {K x : Nat} {d : PL} {p : PD} {os : List Or} {w0 w : World} {r : RV} {g : Nat} {MM : Or → Bool → Prop}
theorem seven_rd (h : Ful K w0 x d p os w) (hg : w.heap[g]? = some (.cells (rul x) 92 (0, 0))) (hr : It9 w0 r) (hdm : ∀ e ∈ r.ps, i64 e.2.1) (hl : r.ps.length ≤ 1099511627000) (hsm : ∀ s ∈ p.ss, i64 s.1) (hsl : p.ss.length ≤ 1099511627000) (hlo : sm62 p.ld) (hrl : i64 r.ld) (hle : sm62 p.le)
    (hmm : ∀ W, Below w.heap.size w W → Calls Tryz.prog 42 #[.pointer (some ⟨x, 0, none⟩), .agg (r9 r)] W fun e w' => RuA W MM e w') : RdRu w x r (.slice (some ⟨g, 0, none⟩) 7 7) (seven d p r MM) := by
  have hP : ∀ W, Below w.heap.size w W → Pln x d p W := fun W hW => (h.below hW).pln
  have hI : ∀ W, Below w.heap.size w W → It9 W r := fun W hW => hr.below (h.below hW).bl (Nat.le_refl _)
  have hc : ∀ (i : Nat) u, (rul x)[i]? = some u → w.cell? ((⟨g, 0, none⟩ : Addr).add i) = some u := fun i u hu => by
    rw [Addr.add_lit, Nat.zero_add, cell_of_row _ _ _ _ _ _ hg]; exact hu
  refine ⟨⟨g, 0, none⟩, 7, rfl, Nat.le_refl 7, by decide, fun i S hS => ?_⟩
  match i with
  | 0 => obtain rfl := Option.some.inj hS; exact ⟨_, hc 0 _ rfl, fun _ _ => rfl, fun W hW => promote_any (hP W hW) (hI W hW) hdm hl⟩
  | 1 => obtain rfl := Option.some.inj hS; exact ⟨_, hc 1 _ rfl, fun _ _ => rfl, fun W hW => add_any (hP W hW) (hI W hW) hdm hl hsm hsl⟩
  | 2 => obtain rfl := Option.some.inj hS; exact ⟨_, hc 2 _ rfl, fun _ _ => rfl, fun W hW => remove_any (hP W hW) (hI W hW) hdm hl⟩
  | 3 => obtain rfl := Option.some.inj hS; exact ⟨_, hc 3 _ rfl, fun _ _ => rfl, fun W hW => split_any (hP W hW) (hI W hW)⟩
  | 4 => obtain rfl := Option.some.inj hS; exact ⟨_, hc 4 _ rfl, fun _ _ => rfl, fun W hW => hmm W hW⟩
  | 5 => obtain rfl := Option.some.inj hS; exact ⟨_, hc 5 _ rfl, fun _ _ => rfl, fun W hW => balance_any (hP W hW) (hI W hW) hdm hl hsm hsl hlo⟩
  | 6 => obtain rfl := Option.some.inj hS; exact ⟨_, hc 6 _ rfl, fun _ _ => rfl, fun W hW => lead_any (hP W hW) (hI W hW) hdm hl hrl hle⟩
  | i + 7 => simp [seven] at hS
end
end Go.Proofs.YtedfjacmaidhkaaGreat
