/- The document's Put, whole. -/
import Derived.Test.YtlajncjamafomaaG38
import Derived.Test.YtlajncjamafomaaG40
import Derived.Test.YtlajncjamafomaaG41
import Derived.Test.YtlajncjamafomaaG28
namespace Go.Proofs.Ytlajncjamafomaa
open Go.RowKit Go.Maps
set_option linter.unusedVariables false
set_option maxRecDepth 100000

section
variable {T : Nat → Prop} {E x s n k : Nat} {ps : List (Nat × List UInt8)} {w w' : World}
theorem Rb.kb (h : Rb T E x s n k ps w) : RsP ps ∧ (∀ y ∈ ps, y.1 < k ∧ y.2.length ≤ n) := by
  obtain ⟨pv, us, h⟩ := h
  exact ⟨h.rs, h.kb⟩
theorem rput_any (h : Rb T E x s n k ps w) (hE : E ≤ w.heap.size) (hTT : Hid (∀ b, w.heap.size ≤ b → T b)) {v : Value} {l : List UInt8} (hr : Rd w v l) (hl : l.length ≤ 1099511627776) (hN : ps.length ≤ 1073741824) :
    Calls Try.prog 20 #[.pointer (some ⟨x, 0, none⟩), v] w (RpQ T E x s n w (bxPut s n k ps (pkR l))) := by
  by_cases hb : (pkR l).2 = 0
  · obtain ⟨body, f0, f1, f2, f3, f4, ht1, ht2, hp0, hp1, hp2, hp3, hN3, hR⟩ := pkR_ok hb
    rw [hR]
    unfold bxPut
    rw [if_neg (by simp)]
    simp only []
    by_cases g1 : ¬ ((M.tv f0).1 = s ∧ (M.tv f1).1 = n) ∨ (0 < k ∧ (M.tv f2).1 ≠ k) ∨ n < f4.length
    · have e : ¬ blg s n k ps (M.tv f0).1 (M.tv f1).1 (M.tv f2).1 (M.tv f3).1 f4 = true := fun q => by
        obtain ⟨q1, q2, q3, q4, _⟩ := blg_true q
        rcases g1 with g | g | g
        · exact g ⟨q1, q2⟩
        · exact g.2 (q4 g.1)
        · omega
      rw [if_neg e]
      exact rput_head h hE hr hl hN ht1 ht2 hp0 hp1 hp2 hp3 hN3 g1
    · have q12 : (M.tv f0).1 = s ∧ (M.tv f1).1 = n := Decidable.not_not.1 (fun q => g1 (.inl q))
      have q3 : 0 < k → (M.tv f2).1 = k := fun hk => Decidable.not_not.1 (fun q => g1 (.inr (.inl ⟨hk, q⟩)))
      have q4 : f4.length ≤ n := Nat.le_of_not_lt (fun q => g1 (.inr (.inr q)))
      have q3' : ¬ (0 < k ∧ (M.tv f2).1 ≠ k) := fun q => q.2 (q3 q.1)
      cases hlk : lkP ps (M.tv f3).1 with
      | some q =>
        have hk0 : 0 < k := by have := (h.kb.2 _ (lkP_mem hlk)).1; omega
        have e : blg s n k ps (M.tv f0).1 (M.tv f1).1 (M.tv f2).1 (M.tv f3).1 f4 = decide (q = f4) := by
          unfold blg
          rw [if_neg (fun g => g q12), if_neg (Nat.not_lt.2 q4), if_neg q3', hlk]
        have hp : putP ps (M.tv f3).1 f4 = ps := by unfold putP; rw [hlk]; rfl
        have hf := rput_found h hE hr hl hN ht1 ht2 hp0 hp1 hp2 hp3 hN3 q12.1 q12.2 hk0 (q3 hk0) q4 hlk
        rw [e, hp, q3 hk0]
        by_cases c : q = f4
        · rw [if_pos (by simp [c])]
          rw [if_pos c] at hf
          exact hf
        · rw [if_neg (by simp [c])]
          rw [if_neg c] at hf
          exact hf
      | none =>
        have e : blg s n k ps (M.tv f0).1 (M.tv f1).1 (M.tv f2).1 (M.tv f3).1 f4 = true := by
          unfold blg
          rw [if_neg (fun g => g q12), if_neg (Nat.not_lt.2 q4), if_neg q3', hlk]
        rw [if_pos e]
        by_cases hk0 : 0 < k
        · exact rput_new1 h hE hTT hr hl hN ht1 ht2 hp0 hp1 hp2 hp3 hN3 q12.1 q12.2 hk0 (q3 hk0) q4 hlk
        · exact rput_new0 h hE hTT hr hl hN ht1 ht2 hp0 hp1 hp2 hp3 hN3 q12.1 q12.2 hk0 q4 hlk
  · have e : bxPut s n k ps (pkR l) = ((k, ps), (pkR l).2) := by
      unfold bxPut
      rw [if_pos hb]
    rw [e]
    exact rput_bad h hE hr hl hN hb
end
end Go.Proofs.Ytlajncjamafomaa
