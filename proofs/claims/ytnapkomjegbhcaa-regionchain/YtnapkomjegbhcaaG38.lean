/- Split of a region of the chain. -/
import Derived.Test.YtnapkomjegbhcaaG37
namespace Go.Proofs.Ytnapkomjegbhcaa
open Go.RowKit
set_option linter.unusedVariables false
set_option maxRecDepth 100000

theorem u_add (x : UInt64) (n : Nat) (hn : n ≤ 10) (hx : x.toNat ≤ 1000000) : (x + UInt64.ofNat n).toNat = x.toNat + n := by
  rw [UInt64.toNat_add, UInt64.toNat_ofNat_of_lt' (by simp [UInt64.size]; omega)]
  omega
/-- What Split answers of a region of the chain. -/
structure SpQ (r : Rg) (key : List UInt8) (nx : UInt64) (ia ca va : Int) (s1 e1 : List UInt8) (p1 : List Pe) (ib cb vb : Int) (s2 e2 : List UInt8) (p2 : List Pe) (ec : Int) : Prop where
  bad : ec ≠ 0 → key = r.s ∨ 64 < key.length
  good : ec = 0 → ia = (r.id.toNat : Int) ∧ ca = 1 ∧ va = (r.vr.toNat : Int) + 1 ∧ s1 = r.s ∧ e1 = key ∧ p1 = r.pe ∧ ib = (nx.toNat : Int) ∧ cb = 1 ∧ vb = (r.vr.toNat : Int) + 1 ∧ s2 = key ∧ e2 = r.e ∧ p2 = pe3 (nx + 1) (nx + 2) (nx + 3) ∧ key ≠ r.s ∧ key.length ≤ 64
theorem ru3 {W : World} {g : Nat} {a b c : UInt64} (h : W.heap[g]? = some (.cells #[.int .u64 (a.toNat : Int), .int .u64 (b.toNat : Int), .int .u64 (c.toNat : Int)] 28 (0, 0))) : Ru W (.slice (some ⟨g, 0, none⟩) 3 3) [a, b, c] := by
  have hO : Ou 0 W (.slice (some ⟨g, 0, none⟩) 3 3) [a, b, c] := ⟨by rfl, .inr ⟨g, 3, _, rfl, Nat.zero_le _, h, Nat.le_refl _, by unfold maxLen; omega, rfl, rfl⟩⟩
  exact hO.ru
theorem CI.split_call {B V : Nat} {v : Value} {rs : List Rg} {w : World} {nx : UInt64} (h : CI B nx.toNat V v rs w) (hN1 : 10 ≤ nx.toNat) (hN : nx.toNat ≤ 1000000) (hV : V ≤ 1000000) {r : Rg} (hr : r ∈ rs) {key : List UInt8} (hcov : cov r.s r.e key = true) {kv : Value} (hkv : Rd w kv key) (W : World) (gB : Nat) (hW : Below w.heap.size w W) (hL : W.heap[gB]? = some (.cells #[.int .u64 ((nx.toNat : Int) + 1), .int .u64 ((nx.toNat : Int) + 2), .int .u64 ((nx.toNat : Int) + 3)] 28 (0, 0))) :
    Calls Try.prog 7 #[.agg #[.int .u64 (r.id.toNat : Int), r.sv, r.ev, .int .u64 1, .int .u64 (r.vr.toNat : Int), r.pv], kv, .int .u64 (nx.toNat : Int), .slice (some ⟨gB, 0, none⟩) 3 3] W fun x w1 => ∃ ia ca va x1 y1 z1 x2 y2 z2 x3 y3 z3 s1 e1 p1 ib cb vb x4 y4 z4 x5 y5 z5 x6 y6 z6 s2 e2 p2 ec, x = .returned (.tuple #[.agg #[.int .u64 ia, .slice x1 y1 z1, .slice x2 y2 z2, .int .u64 ca, .int .u64 va, .slice x3 y3 z3], .agg #[.int .u64 ib, .slice x4 y4 z4, .slice x5 y5 z5, .int .u64 cb, .int .u64 vb, .slice x6 y6 z6], .int .i64 ec]) ∧ OwR W.heap.size w1 (.slice x1 y1 z1) (.slice x2 y2 z2) (.slice x3 y3 z3) s1 e1 p1 ∧ OwR W.heap.size w1 (.slice x4 y4 z4) (.slice x5 y5 z5) (.slice x6 y6 z6) s2 e2 p2 ∧ Below W.heap.size W w1 ∧ Hid (SpQ r key nx ia ca va s1 e1 p1 ib cb vb s2 e2 p2 ec) := by
  have ho := h.all.own r hr
  have ok := h.ok r hr
  have hck := h.chk hr
  have t1 : (nx + 1).toNat = nx.toNat + 1 := u_add nx 1 (by omega) hN
  have t2 : (nx + 2).toNat = nx.toNat + 2 := u_add nx 2 (by omega) hN
  have t3 : (nx + 3).toNat = nx.toNat + 3 := u_add nx 3 (by omega) hN
  have hru : Ru W (.slice (some ⟨gB, 0, none⟩) 3 3) [nx + 1, nx + 2, nx + 3] := ru3 (by rw [t1, t2, t3]; exact hL)
  have l1 : (0 : UInt64) < nx + 1 := by rw [UInt64.lt_iff_toNat_lt, t1]; simp
  have l2 : nx + 1 < nx + 2 := by rw [UInt64.lt_iff_toNat_lt, t1, t2]; omega
  have l3 : nx + 2 < nx + 3 := by rw [UInt64.lt_iff_toNat_lt, t2, t3]; omega
  have hris : risF 0 [nx + 1, nx + 2, nx + 3] = true := by simp only [risF, l1, l2, l3, decide_true, Bool.and_self]
  have hid0 : nx ≠ 0 := fun e => by rw [e] at hN1; simp at hN1
  have hidn : nx ≠ r.id := fun e => by have := ok.idn; rw [← e] at this; omega
  have hcs : cspE r.id nx r.vr r.s r.e key r.pe [nx + 1, nx + 2, nx + 3] = if key = r.s then 101 else if 64 < key.length then 1 else 0 := by
    unfold cspE
    rw [hck]
    simp only [ne_eq, not_true_eq_false, if_false]
    rw [hcov]
    simp only [Bool.true_eq_false, if_false]
    by_cases hk : key = r.s
    · rw [if_pos hk, if_pos hk]
    · rw [if_neg hk, if_neg hk]
      by_cases hk2 : 64 < key.length
      · rw [if_pos (.inl hk2), if_pos hk2]
      · rw [if_neg hk2, if_neg]
        rintro (q | q | q | q | q | q)
        · exact hk2 q
        · exact hid0 q
        · exact hidn q
        · exact q rfl
        · rw [hris] at q; cases q
        · have := ok.vb; omega
  by_cases hz : cspE r.id nx r.vr r.s r.e key r.pe [nx + 1, nx + 2, nx + 3] = 0
  · have hk1 : key ≠ r.s := fun e => by rw [hcs, if_pos e] at hz; cases hz
    have hk2 : key.length ≤ 64 := by
      rw [hcs, if_neg hk1] at hz
      by_cases q : 64 < key.length
      · rw [if_pos q] at hz; cases hz
      · omega
    refine (split_ok (id := r.id) (nid := nx) (vr := r.vr) (cf := 1) (ho.s.rd.below hW (Nat.le_refl _)) (ho.e.rd.below hW (Nat.le_refl _)) (ho.p.rd.below hW (Nat.le_refl _)) (hkv.below hW (Nat.le_refl _)) hru hz ok.s64 ok.e64 (by simp [Rg.pe, pe3]) hk2 (by have := ok.vb; omega) rfl).mono ?_
    rintro x w1 ⟨sv1, kv1, pv1, kv2, ev2, pv2, rfl, q1, q2, q3⟩
    obtain ⟨x1, z1, e1⟩ := q1.s.rd.shp
    obtain ⟨x2, z2, e2⟩ := q1.e.rd.shp
    obtain ⟨x3, z3, e3⟩ := q1.p.shape
    obtain ⟨x4, z4, e4⟩ := q2.s.rd.shp
    obtain ⟨x5, z5, e5⟩ := q2.e.rd.shp
    obtain ⟨x6, z6, e6⟩ := q2.p.shape
    subst e1; subst e2; subst e3; subst e4; subst e5; subst e6
    exact ⟨_, _, _, _, _, _, _, _, _, _, _, _, _, _, _, _, _, _, _, _, _, _, _, _, _, _, _, _, _, _, _, rfl, q1, q2, q3, ⟨fun q => absurd rfl q, fun _ => ⟨rfl, rfl, rfl, rfl, rfl, rfl, rfl, rfl, rfl, rfl, rfl, rfl, hk1, hk2⟩⟩⟩
  · refine (split_err (id := r.id) (nid := nx) (vr := r.vr) (cf := 1) (ho.s.rd.below hW (Nat.le_refl _)) (ho.e.rd.below hW (Nat.le_refl _)) (ho.p.rd.below hW (Nat.le_refl _)) (hkv.below hW (Nat.le_refl _)) hru hz).mono ?_
    rintro x w1 ⟨rfl, q3⟩
    have hn : OwR W.heap.size w1 (.slice none 0 0) (.slice none 0 0) (.slice none 0 0) [] [] [] := ⟨Ow.nil _ _, Ow.nil _ _, OwPe.nil _ _, (fun b e => by cases e), (fun b e => by cases e), fun b e => by cases e⟩
    refine ⟨_, _, _, _, _, _, _, _, _, _, _, _, _, _, _, _, _, _, _, _, _, _, _, _, _, _, _, _, _, _, _, rfl, hn, hn, q3, ⟨fun _ => ?_, fun q => absurd q hz⟩⟩
    rw [hcs] at hz
    by_cases hk : key = r.s
    · exact .inl hk
    · rw [if_neg hk] at hz
      by_cases q : 64 < key.length
      · exact .inr q
      · rw [if_neg q] at hz; exact absurd rfl hz
end Go.Proofs.Ytnapkomjegbhcaa
