/- clone: a region in new memory. -/
import Derived.Test.YtlfdcnojbbigbaaG26
import Derived.Test.YtlfdcnojbbigbaaG9
import Derived.Lib.SliceRun
namespace Go.Proofs.Ytlfdcnojbbigbaa
open Go.RowKit
set_option linter.unusedVariables false
set_option maxRecDepth 100000

theorem OwPe.lit0 (B : Nat) (w : World) (hB : B ≤ w.heap.size) : OwPe B (w.alloc (.cells #[] 31)) (.slice (some ⟨w.heap.size, 0, none⟩) 0 0) [] := World.ownsRow_made w #[] 0 hB (by simp) rfl
theorem OwPe.mono {B B' : Nat} {w : World} {v : Value} {ps : List Pe} (h : OwPe B w v ps) (hB : B' ≤ B) : OwPe B' w v ps := by
  obtain ⟨h1, h2⟩ := h
  refine ⟨h1, ?_⟩
  rcases h2 with h2 | ⟨g, cap, cur, hv, hg, r⟩
  · exact .inl h2
  · exact .inr ⟨g, cap, cur, hv, by omega, r⟩
theorem cloneP_any {v : Value} {ps : List Pe} {w : World} (hr : RdPe w v ps) (hl : ps.length ≤ 1099511627776) :
    Calls Try.prog 23 #[v] w fun e w' => ∃ v', e = .returned v' ∧ OwPe w.heap.size w' v' ps ∧ Below w.heap.size w w' := by
  have q : ∀ (w : World) (a : Option Addr) (n c n' c' : Nat), (binOp .eql 32 (.slice a n c) (.slice none n' c')).run Try.prog w = .ok (.bool a.isNone) w := fun w a n c n' c' => Lib.run_eql_slice_nil w _ _ a n c n' c' Try.underlying32
  have hr' := hr
  obtain ⟨ao, c, rfl, h1, h2, h3, h4⟩ := hr
  cases ao with
  | none =>
    have hc := h3 rfl
    have hl0 : ps = [] := List.length_eq_zero_iff.1 (by omega)
    subst hl0; subst hc
    go_enter Try.func23, Try.ntmps23
    go_wp2
    go_ret
    exact ⟨_, rfl, OwPe.nil _ _, Below.refl _ _⟩
  | some a =>
    clear h4 h3
    go_enter Try.func23, Try.ntmps23
    go_wp2_with (first | (at_builtin; refine wpList_appPe rfl _ _ rfl w.heap.size _ [] rfl (OwPe.lit0 _ _ (Nat.le_refl _)) _ ps rfl (hr'.below (g_al _ _) (Nat.le_refl _)) (by simp) (by simp; omega) ?_; intro v' w' ho' hg' hw') | fail)
    go_ret
    exact ⟨_, rfl, ho', (g_al w _).trans ((Below.refl _ _).grown hg' (by simp) (fun k hk => Nat.le_of_eq (Option.some.inj hk)))⟩
/-- A region's lists are in memory of their own, apart. -/
structure OwR (B : Nat) (w : World) (sv ev pv : Value) (s e : List UInt8) (ps : List Pe) : Prop where
  s : Ow B w sv s
  e : Ow B w ev e
  p : OwPe B w pv ps
  se : ∀ b, sv.ownBlock = some b → ev.ownBlock ≠ some b
  sp : ∀ b, sv.ownBlock = some b → pv.ownBlock ≠ some b
  ep : ∀ b, ev.ownBlock = some b → pv.ownBlock ≠ some b
theorem OwR.below {B C : Nat} {w w' : World} {sv ev pv : Value} {s e : List UInt8} {ps : List Pe} (h : OwR B w sv ev pv s e ps) (hb : Below C w w') (hC : w.heap.size ≤ C) : OwR B w' sv ev pv s e ps := ⟨h.s.below hb hC, h.e.below hb hC, h.p.below hb hC, h.se, h.sp, h.ep⟩
end Go.Proofs.Ytlfdcnojbbigbaa
