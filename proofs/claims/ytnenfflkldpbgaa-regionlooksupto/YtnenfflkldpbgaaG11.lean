/- The document's Covers, empty, Newer, Stale. -/
import Derived.Test.YtnenfflkldpbgaaG10
import Derived.Test.YtnenfflkldpbgaaG2
namespace Go.Proofs.Ytnenfflkldpbgaa
open Go.RowKit
set_option linter.unusedVariables false
set_option maxRecDepth 100000

theorem within_any {kv sv ev : Value} {s e k : List UInt8} {w : World} (hk : Rd w kv k) (hs : Rd w sv s) (he : Rd w ev e) :
    Calls Try.prog 49 #[kv, sv, ev] w fun x w' => x = .returned (.bool (cov s e k)) ∧ Below w.heap.size w w' := by
  have q1 := rcmp_any hk hs
  have q2 := fun n => rcmp_any (hk.drewN n) (he.drewN n)
  have hcv : cov s e k = (decide (0 ≤ M.cmpL k s) && (decide (e.length = 0) || decide (M.cmpL k e < 0))) := rfl
  obtain ⟨ea, ec, rfl⟩ := he.shp
  have hel := he.len
  unfold maxLen at hel
  generalize M.cmpL k s = x1 at *
  generalize M.cmpL k e = x2 at *
  generalize cov s e k = res at *
  generalize e.length = en at *
  clear hs he hk
  have HC : Hid _ := hcv
  clear hcv
  go_enter Try.func49, Try.ntmps49
  go_wp2_with fail
  refine q1.mono ?_
  rintro x w1 ⟨rfl, n1, rfl⟩
  by_cases h1 : 0 ≤ x1
  · by_cases h2 : en < 1
    · obtain rfl : en = 0 := by omega
      go_wp2_with fail
      go_ret
      exact ⟨by rw [HC.out, decide_eq_true h1]; rfl, Below.dN _ _⟩
    · have h3 : ¬ (en : Int) = 0 := by omega
      have h4 : ¬ en = 0 := by omega
      have h5 : ((en : Int) == 0) = false := by simp; omega
      go_wp2_with fail
      refine (q2 n1).mono ?_
      rintro x w2 ⟨rfl, n2, rfl⟩
      go_wp2_with fail
      go_ret
      exact ⟨by rw [HC.out, decide_eq_true h1, decide_eq_false h4]; rfl, Below.dN w _⟩
  · go_wp2_with fail
    go_ret
    exact ⟨by rw [HC.out, decide_eq_false (show ¬ 0 ≤ x1 by omega)]; rfl, Below.dN _ _⟩
theorem rcovers_any {i c r : Int} {sv ev kv : Value} {pa : Option Addr} {pn pk : Nat} {s e k : List UInt8} {w : World} (hs : Rd w sv s) (he : Rd w ev e) (hk : Rd w kv k) :
    Calls Try.prog 22 #[.agg #[.int .u64 i, sv, ev, .int .u64 c, .int .u64 r, .slice pa pn pk], kv] w fun x w' => x = .returned (.bool (cov s e k)) ∧ Below w.heap.size w w' := by
  have q1 := fun o => within_any (hk.alloc o) (hs.alloc o) (he.alloc o)
  obtain ⟨sa, sc, rfl⟩ := hs.shp
  obtain ⟨ea, ec, rfl⟩ := he.shp
  generalize cov s e k = res at *
  clear hs he hk
  go_enter Try.func22, Try.ntmps22
  go_wp2_with fail
  refine (q1 _).mono ?_
  rintro x w1 ⟨rfl, hb1⟩
  go_wp2_with fail
  go_ret
  exact ⟨rfl, (g_al w _).trans (hb1.mono (g_al w _).size)⟩
theorem rempty_any {i c r : Int} {sv ev : Value} {pa : Option Addr} {pn pk : Nat} {s e : List UInt8} {w : World} (hs : Rd w sv s) (he : Rd w ev e) :
    Calls Try.prog 50 #[.agg #[.int .u64 i, sv, ev, .int .u64 c, .int .u64 r, .slice pa pn pk]] w fun x w' => x = .returned (.bool (emp s e)) ∧ Below w.heap.size w w' := by
  have q1 := fun o => rcmp_any (he.alloc o) (hs.alloc o)
  have hem : emp s e = (decide (0 < e.length) && decide (M.cmpL e s ≤ 0)) := rfl
  obtain ⟨sa, sc, rfl⟩ := hs.shp
  obtain ⟨ea, ec, rfl⟩ := he.shp
  have hel := he.len
  unfold maxLen at hel
  generalize M.cmpL e s = x1 at *
  generalize emp s e = res at *
  generalize e.length = en at *
  clear hs he
  have HC : Hid _ := hem
  clear hem
  go_enter Try.func50, Try.ntmps50
  by_cases h1 : 0 < en
  · have g1 : (0 : Int) < (en : Int) := by omega
    have HR : Hid (decide (x1 ≤ 0) = res) := by show _ = _; rw [HC.out, decide_eq_true h1]; rfl
    go_wp2_with fail
    refine (q1 _).mono ?_
    rintro x w1 ⟨rfl, n1, rfl⟩
    go_wp2_with fail
    go_ret
    exact ⟨by rw [← HR.out]; rfl, (g_al w _).trans ((Below.dN _ n1).mono (g_al w _).size)⟩
  · have g1 : ¬ (0 : Int) < (en : Int) := by omega
    have HR : Hid (false = res) := by show _ = _; rw [HC.out, decide_eq_false h1]; rfl
    go_wp2_with fail
    go_ret
    exact ⟨by rw [← HR.out]; rfl, g_al w _⟩
theorem rnewer_any (cf vr cf' vr' : UInt64) (w : World) : Calls Try.prog 26 #[.agg #[.int .u64 (cf.toNat : Int), .int .u64 (vr.toNat : Int)], .agg #[.int .u64 (cf'.toNat : Int), .int .u64 (vr'.toNat : Int)]] w fun e w' => e = .returned (.bool (nwr cf vr cf' vr')) ∧ Below w.heap.size w w' := by
  have hb : ∀ o o', Below w.heap.size w ((w.alloc o).alloc o') := fun o o' => (g_al w o).alloc (g_al w o).size o'
  have hn := nwr_iff (cf := cf) (vr := vr) (cf' := cf') (vr' := vr')
  generalize nwr cf vr cf' vr' = res at *
  have HN : Hid _ := hn
  clear hn
  generalize cf.toNat = a at *
  generalize vr.toNat = b at *
  generalize cf'.toNat = c at *
  generalize vr'.toNat = d at *
  go_enter Try.func26, Try.ntmps26
  by_cases h1 : d < b
  · have g1 : (d : Int) < (b : Int) := by omega
    have HR : Hid (true = res) := (HN.out.2 (.inl h1)).symm
    go_wp2_with fail
    go_ret
    exact ⟨by rw [← HR.out]; rfl, hb _ _⟩
  · have g1 : ¬ (d : Int) < (b : Int) := by omega
    by_cases h2 : b = d
    · subst h2
      by_cases h3 : c < a
      · have g3 : (c : Int) < (a : Int) := by omega
        have HR : Hid (true = res) := (HN.out.2 (.inr ⟨rfl, h3⟩)).symm
        go_wp2_with fail
        go_ret
        exact ⟨by rw [← HR.out]; rfl, hb _ _⟩
      · have g3 : ¬ (c : Int) < (a : Int) := by omega
        have HR : Hid (false = res) := by
          show _ = _
          cases hr : res with
          | false => rfl
          | true => have := HN.out.1 hr; omega
        go_wp2_with fail
        go_ret
        exact ⟨by rw [← HR.out]; rfl, hb _ _⟩
    · have g2 : ((b : Int) == (d : Int)) = false := beq_eq_false_iff_ne.2 (by omega)
      have HR : Hid (false = res) := by
        show _ = _
        cases hr : res with
        | false => rfl
        | true => have := HN.out.1 hr; omega
      go_wp2_with fail
      go_ret
      exact ⟨by rw [← HR.out]; rfl, hb _ _⟩
theorem rstale_any {i : Int} {sv ev pv : Value} (cf vr cf' vr' : UInt64) {w : World} (hs : Sl sv) (he : Sl ev) (hp : Sl pv) : Calls Try.prog 28 #[.agg #[.int .u64 i, sv, ev, .int .u64 (cf.toNat : Int), .int .u64 (vr.toNat : Int), pv], .agg #[.int .u64 (cf'.toNat : Int), .int .u64 (vr'.toNat : Int)]] w fun e w' => e = .returned (.bool (stl cf vr cf' vr')) ∧ Below w.heap.size w w' := by
  obtain ⟨sa, sn, sc, rfl⟩ := hs
  obtain ⟨ea, en, ec, rfl⟩ := he
  obtain ⟨pa, pn, pc, rfl⟩ := hp
  have hb : ∀ o o', Below w.heap.size w ((w.alloc o).alloc o') := fun o o' => (g_al w o).alloc (g_al w o).size o'
  have hn : stl cf vr cf' vr' = (decide (cf'.toNat < cf.toNat) || decide (vr'.toNat < vr.toNat)) := rfl
  generalize stl cf vr cf' vr' = res at *
  have HN : Hid _ := hn
  clear hn
  generalize cf.toNat = a at *
  generalize vr.toNat = b at *
  generalize cf'.toNat = c at *
  generalize vr'.toNat = d at *
  go_enter Try.func28, Try.ntmps28
  by_cases h1 : d < b
  · have g1 : (d : Int) < (b : Int) := by omega
    have HR : Hid (true = res) := by show _ = _; rw [HN.out, decide_eq_true h1, Bool.or_true]
    go_wp2_with fail
    go_ret
    exact ⟨by rw [← HR.out]; rfl, hb _ _⟩
  · have g1 : ¬ (d : Int) < (b : Int) := by omega
    by_cases h2 : c < a
    · have g2 : (c : Int) < (a : Int) := by omega
      have HR : Hid (true = res) := by show _ = _; rw [HN.out, decide_eq_true h2]; rfl
      go_wp2_with fail
      go_ret
      exact ⟨by rw [← HR.out]; rfl, hb _ _⟩
    · have g2 : ¬ (c : Int) < (a : Int) := by omega
      have HR : Hid (false = res) := by show _ = _; rw [HN.out, decide_eq_false h2, decide_eq_false h1]; rfl
      go_wp2_with fail
      go_ret
      exact ⟨by rw [← HR.out]; rfl, hb _ _⟩
end Go.Proofs.Ytnenfflkldpbgaa
