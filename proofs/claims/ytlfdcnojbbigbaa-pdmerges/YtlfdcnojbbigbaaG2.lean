/- What 'Same' of two byte slices answers: whether they read as the same bytes. -/
import Derived.Test.YtlfdcnojbbigbaaG1
namespace Go.Proofs.Ytlfdcnojbbigbaa
open Go.RowKit
set_option linter.unusedVariables false

set_option maxHeartbeats 400000 in
theorem same_core (a b : Addr) (n ca cb : Nat) (f g : Nat → UInt8) (w : World) (hl : n ≤ maxLen)
    (ha : ∀ i, i < n → w.cell? (a.add i) = some (.int .u8 ((f i).toNat : Int))) (hb : ∀ i, i < n → w.cell? (b.add i) = some (.int .u8 ((g i).toNat : Int))) :
    Calls Try.prog 16 #[.slice (some a) n ca, .slice (some b) n cb] w fun e w' => (∃ r, e = .returned (.bool r) ∧ (r = true ↔ ∀ i, i < n → f i = g i)) ∧ ∃ k, w' = w.drewN k := by
  unfold maxLen at hl
  go_enter Try.func16, Try.ntmps16
  go_wp2
  go_loopw [5] (fun i wr => ∃ k : Nat, k ≤ n ∧ i = .int .i64 k ∧ (∀ j, j < k → f j = g j) ∧ ∃ m, wr = w.drewN m) (fun i _ => n - (intOf i).toNat)
  case atStart => exact ⟨0, Nat.zero_le _, rfl, fun j hj => by omega, 0, rfl⟩
  case round =>
    obtain ⟨k, hk, rfl, hs, m, rfl⟩ := hrel
    by_cases hlt : k < n
    · have h1 := ha k hlt
      have h2 := hb k hlt
      clear ha hb
      go_wp2
      go_region
      all_goals go_wp2
      · go_ret
        refine ⟨⟨false, rfl, ?_⟩, _, rfl⟩
        simp only [Bool.false_eq_true, false_iff]
        intro hh
        have := hh k hlt
        simp_all
      · rename_i hne
        have he : f k = g k := by
          have : ((f k).toNat : Int) = ((g k).toNat : Int) := by simpa using hne
          exact UInt8.toNat_inj.1 (by omega)
        refine ⟨⟨k + 1, by omega, by go_num, fun j hj => ?_, _, rfl⟩, by simp [intOf]; omega⟩
        by_cases hj' : j < k
        · exact hs j hj'
        · obtain rfl : j = k := by omega
          exact he
    · go_wp2
      go_ret
      exact ⟨⟨true, rfl, by simp; intro i hi; exact hs i (by omega)⟩, _, rfl⟩

/-- 'Same' of two byte slices: whether they are the same bytes; memory stands. -/
theorem same_any {va vb : Value} {la lb : List UInt8} {w : World} (ha : Rd w va la) (hb : Rd w vb lb) :
    Calls Try.prog 16 #[va, vb] w fun e w' => e = .returned (.bool (decide (la = lb))) ∧ ∃ n, w' = w.drewN n := by
  by_cases hn : la.length = lb.length
  · rcases ha.two with ⟨rfl, rfl⟩ | ⟨a, ca, rfl, h1, h2, h3⟩
    · obtain rfl : lb = [] := List.length_eq_zero_iff.1 (by simpa using hn.symm)
      obtain ⟨b, cb, rfl⟩ : ∃ b cb, vb = .slice b 0 cb := by
        rcases hb.two with ⟨rfl, _⟩ | ⟨b, cb, rfl, _⟩
        · exact ⟨_, _, rfl⟩
        · exact ⟨_, _, rfl⟩
      clear hb hn
      go_enter Try.func16, Try.ntmps16
      go_wp2
      refine wp_loop_rounds 1 ?_
      rw [rounds_succ]
      go_wp2
      go_ret
      exact ⟨by simp, 0, rfl⟩
    · rcases hb.two with ⟨rfl, rfl⟩ | ⟨b, cb, rfl, k1, k2, k3⟩
      · obtain rfl : la = [] := List.length_eq_zero_iff.1 (by simpa using hn)
        clear h1 h2 h3 hn
        go_enter Try.func16, Try.ntmps16
        go_wp2
        refine wp_loop_rounds 1 ?_
        rw [rounds_succ]
        go_wp2
        go_ret
        exact ⟨by simp, 0, rfl⟩
      · rw [← hn]
        refine (same_core a b la.length ca cb (fun i => la.getD i 0) (fun i => lb.getD i 0) w (by omega) (fun i hi => ?_) (fun i hi => ?_)).mono ?_
        · rw [h3 i hi]; simp [hi]
        · rw [k3 i (by omega)]; simp [show i < lb.length by omega]
        · rintro e w' ⟨⟨r, rfl, hr⟩, hw⟩
          refine ⟨?_, hw⟩
          have : r = decide (la = lb) := by
            rw [Bool.eq_iff_iff, hr, decide_eq_true_iff]
            constructor
            · intro h
              refine List.ext_getElem hn fun i hi hi' => ?_
              have := h i hi
              simpa [hi, hi'] using this
            · rintro rfl i _; rfl
          rw [this]
  · have hd : decide (la = lb) = false := by
      simp only [decide_eq_false_iff_not]; rintro rfl; exact hn rfl
    rw [hd]
    obtain ⟨a, ca, rfl⟩ : ∃ a ca, va = .slice a la.length ca := by
      rcases ha.two with ⟨rfl, rfl⟩ | ⟨a, ca, rfl, _⟩
      · exact ⟨_, _, rfl⟩
      · exact ⟨_, _, rfl⟩
    obtain ⟨b, cb, rfl⟩ : ∃ a ca, vb = .slice a lb.length ca := by
      rcases hb.two with ⟨rfl, rfl⟩ | ⟨a, ca, rfl, _⟩
      · exact ⟨_, _, rfl⟩
      · exact ⟨_, _, rfl⟩
    clear ha hb hd
    have hne : (((la.length : Nat) : Int) != ((lb.length : Nat) : Int)) = true := by simp; omega
    clear hn
    go_enter Try.func16, Try.ntmps16
    go_wp2
    go_ret
    exact ⟨rfl, 0, rfl⟩
end Go.Proofs.Ytlfdcnojbbigbaa
