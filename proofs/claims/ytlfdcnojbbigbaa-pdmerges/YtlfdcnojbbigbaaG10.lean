/- Covers, On's look, rises, numbers. -/
import Derived.Test.YtlfdcnojbbigbaaG9
import Derived.Test.YtlfdcnojbbigbaaG7
namespace Go.Proofs.Ytlfdcnojbbigbaa
open Go.RowKit
set_option linter.unusedVariables false
set_option maxRecDepth 100000

theorem g_al (w : World) (o : Obj) : Below w.heap.size w (w.alloc o) := (Below.refl _ _).alloc (Nat.le_refl _) o
theorem Rd.shp {w : World} {v : Value} {l : List UInt8} (h : Rd w v l) : ∃ a c, v = .slice a l.length c := by
  obtain ⟨a, c, e, _⟩ := h; exact ⟨a, c, e⟩
theorem covers_any {i c r : Int} {sv ev kv : Value} {pa : Option Addr} {pn pk : Nat} {s e k : List UInt8} {w : World} (hs : Rd w sv s) (he : Rd w ev e) (hk : Rd w kv k) :
    Calls Try.prog 19 #[.agg #[.int .u64 i, sv, ev, .int .u64 c, .int .u64 r, .slice pa pn pk], kv] w fun x w' => x = .returned (.bool (cov s e k)) ∧ Below w.heap.size w w' := by
  have q1 := fun o => bcompare_any (hk.alloc o) (hs.alloc o)
  have q2 := fun o => bcompare_any (hk.alloc o) (he.alloc o)
  have hcv : cov s e k = (decide (0 ≤ M.cmpL k s) && (decide (e.length = 0) || decide (M.cmpL k e < 0))) := rfl
  obtain ⟨sa, sc, rfl⟩ := hs.shp
  obtain ⟨ea, ec, rfl⟩ := he.shp
  have hel := he.len
  unfold maxLen at hel
  generalize M.cmpL k s = x1 at *
  generalize M.cmpL k e = x2 at *
  generalize cov s e k = res at *
  generalize s.length = sn at *
  generalize e.length = en at *
  clear hs he hk
  have HC : Hid _ := hcv
  clear hcv
  go_enter Try.func19, Try.ntmps19
  go_wp2_with fail
  refine (q1 _).mono ?_
  rintro x w1 ⟨rfl, rfl⟩
  by_cases h1 : 0 ≤ x1
  · by_cases h2 : en < 1
    · obtain rfl : en = 0 := by omega
      go_wp2_with fail
      go_ret
      exact ⟨by rw [HC.out, decide_eq_true h1]; rfl, g_al _ _⟩
    · have h3 : ¬ (en : Int) = 0 := by omega
      have h4 : ¬ en = 0 := by omega
      have h5 : ((en : Int) == 0) = false := by simp; omega
      go_wp2_with fail
      refine (q2 _).mono ?_
      rintro x w2 ⟨rfl, rfl⟩
      go_wp2_with fail
      go_ret
      exact ⟨by rw [HC.out, decide_eq_true h1, decide_eq_false h4]; rfl, g_al _ _⟩
  · go_wp2_with fail
    go_ret
    exact ⟨by rw [HC.out, decide_eq_false (show ¬ 0 ≤ x1 by omega)]; rfl, g_al _ _⟩
/-- Do the numbers rise, above the last one? -/
def risF : UInt64 → List UInt64 → Bool
  | _, [] => true
  | a, x :: l => decide (a < x) && risF x l
theorem rises_any {v : Value} {l : List UInt64} {w : World} (hr : Ru w v l) :
    Calls Try.prog 21 #[v] w fun x w' => x = .returned (.bool (risF 0 l)) ∧ w' = w := by
  obtain ⟨ao, c, rfl, h1, h2, h3, h4⟩ := hr
  unfold maxLen at h2
  generalize hres : risF 0 l = res
  have HR : Hid (risF 0 (l.drop 0) = res) := hres
  go_enter Try.func21, Try.ntmps21
  go_wp2_with fail
  go_loopw [3, 5, 8] (fun a _ i wr => ∃ (k : Nat) (y : UInt64), k ≤ l.length ∧ a = .int .u64 (y.toNat : Int) ∧ i = .int .i64 k ∧ Hid (risF y (l.drop k) = res) ∧ wr = w) (fun _ _ i _ => l.length - (intOf i).toNat)
  case atStart => exact ⟨0, 0, Nat.zero_le _, rfl, rfl, HR, rfl⟩
  case round =>
    obtain ⟨k, y, hk, rfl, rfl, HX, rfl⟩ := hrel
    clear HR hres
    by_cases hlt : k < l.length
    · obtain ⟨a, rfl, hc⟩ := h4 k hlt
      have HT : Hid (l.drop k = l[k] :: l.drop (k + 1)) := List.drop_eq_getElem_cons hlt
      clear h4 h3
      generalize l[k] = x at *
      by_cases hxy : y < x
      · have hq2 : ¬ x.toNat ≤ y.toNat := by have := UInt64.lt_iff_toNat_lt.1 hxy; omega
        have hq : ¬ ((x.toNat : Int) ≤ (y.toNat : Int)) := by omega
        go_wp2_with fail
        refine ⟨⟨k + 1, x, by omega, rfl, by go_num, ?_, trivial⟩, by simp [intOf]; omega⟩
        have := HX.out
        rw [HT.out] at this
        unfold risF at this
        rw [decide_eq_true hxy, Bool.true_and] at this
        exact this
      · have hq2 : x.toNat ≤ y.toNat := by have : ¬ y.toNat < x.toNat := fun q => hxy (UInt64.lt_iff_toNat_lt.2 q); omega
        have hq : ((x.toNat : Int) ≤ (y.toNat : Int)) := by omega
        go_wp2_with fail
        go_ret
        refine ⟨?_, rfl⟩
        have := HX.out
        rw [HT.out] at this
        unfold risF at this
        rw [decide_eq_false hxy, Bool.false_and] at this
        rw [← this]; rfl
    · obtain rfl : k = l.length := by omega
      have HX2 : Hid (true = res) := by have := HX.out; rw [List.drop_length] at this; exact this
      clear h4 HX
      go_wp2_with fail
      go_ret
      exact ⟨by rw [← HX2.out]; rfl, rfl⟩
theorem greatest_any (x : UInt64) (w : World) : Calls Try.prog 22 #[.int .u64 (x.toNat : Int)] w fun e w' => e = .returned (.bool (decide (x.toNat = 18446744073709551615))) ∧ w' = w := by
  go_enter Try.func22, Try.ntmps22
  go_wp2_with fail
  go_ret
  refine ⟨?_, rfl⟩
  by_cases h : x.toNat = 18446744073709551615
  · simp [h]
  · have : ¬ ((x.toNat : Int) = 18446744073709551615) := by omega
    simp [h, this]
end Go.Proofs.Ytlfdcnojbbigbaa
