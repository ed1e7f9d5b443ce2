/- breakPatterns at uint64: a permutation within the range. -/
import Derived.Test.YtefhinopppdjbaaGreatG39
import Derived.Test.YtefhinopppdjbaaGreatG32
import Derived.Laws.Bits64
namespace Go.Proofs.YtefhinopppdjbaaGreat
open Go.RowKit Go.Sort
set_option linter.unusedVariables false
set_option maxRecDepth 100000

set_option maxHeartbeats 2000000 in
theorem xnext_any {g : Nat} {w : World} (q : Nat) (hq : q < 18446744073709551616) (hc : w.heap[g]? = some (.cells #[.int .u64 (q : Int)] 127 (0, 0))) :
    Calls Tryz.prog 83 #[.pointer (some ⟨g, 0, none⟩)] w fun e w' => (∃ r : Nat, r < 18446744073709551616 ∧ e = .returned (.int .u64 r) ∧ w'.heap[g]? = some (.cells #[.int .u64 (r : Int)] 127 (0, 0))) ∧ Chg (fun b => b = g) w w' := by
  have x64 : ∀ x y : Nat, x < 18446744073709551616 → y < 18446744073709551616 → x ^^^ y < 18446744073709551616 := fun x y h1 h2 => Nat.xor_lt_two_pow (n := 64) (by omega) (by omega)
  obtain ⟨A, hA⟩ : ∃ A : Nat, A = q ^^^ (q * 8192 % 18446744073709551616) := ⟨_, rfl⟩
  have lA : A < 18446744073709551616 := by rw [hA]; exact x64 _ _ hq (by omega)
  obtain ⟨C, hC⟩ : ∃ C : Nat, C = A ^^^ (A / 128) := ⟨_, rfl⟩
  have lC : C < 18446744073709551616 := by rw [hC]; exact x64 _ _ lA (by omega)
  obtain ⟨E, hE⟩ : ∃ E : Nat, E = C ^^^ (C * 131072 % 18446744073709551616) := ⟨_, rfl⟩
  have lE : E < 18446744073709551616 := by rw [hE]; exact x64 _ _ lC (by omega)
  have e1 : bits .xor .u64 (q : Int) (IntKind.u64.wrap ((q : Int) * 8192)) = (A : Int) := by
    have e : ((q : Int) * 8192 % 18446744073709551616) = ((q * 8192 % 18446744073709551616 : Nat) : Int) := by omega
    rw [IntKind.wrap_u64, e, bits_xor_u64_nat _ _ hq (by omega), hA]
  have e2 : bits .xor .u64 (A : Int) ((A : Int) / 128) = (C : Int) := by
    have e : ((A : Int) / 128) = ((A / 128 : Nat) : Int) := by omega
    rw [e, bits_xor_u64_nat _ _ lA (by omega), hC]
  have e3 : bits .xor .u64 (C : Int) (IntKind.u64.wrap ((C : Int) * 131072)) = (E : Int) := by
    have e : ((C : Int) * 131072 % 18446744073709551616) = ((C * 131072 % 18446744073709551616 : Nat) : Int) := by omega
    rw [IntKind.wrap_u64, e, bits_xor_u64_nat _ _ lC (by omega), hE]
  clear hA hC hE x64
  have c0 : w.cell? ⟨g, 0, none⟩ = some (.int .u64 (q : Int)) := by rw [cell_of_row _ _ _ _ _ _ hc]; rfl
  have f0 : w.frozen? ⟨g, 0, none⟩ = false := frozen_of_row _ _ _ _ _ hc
  have stp : ∀ (W : World) (u v : Nat), W.heap[g]? = some (.cells #[.int .u64 (u : Int)] 127 (0, 0)) → Chg (fun b => b = g) w W → ∀ n, ((W.drewN n).setCell ⟨g, 0, none⟩ (.int .u64 (v : Int))).heap[g]? = some (.cells #[.int .u64 (v : Int)] 127 (0, 0)) ∧ Chg (fun b => b = g) w ((W.drewN n).setCell ⟨g, 0, none⟩ (.int .u64 (v : Int))) := fun W u v h1 h2 n => ⟨by rw [heap_setCell_same (W.drewN n) g 0 _ _ _ h1]; rfl, (h2.dq n).put g 0 _ rfl⟩
  have HST : Hid _ := stp
  clear stp
  go_enter Tryz.func83, Tryz.ntmps83
  go_wp2_with fail
  go_region
  go_wp2_with fail
  have hcP := hc
  have hgP := Chg.refl (fun b => b = g) w
  have hc1 : (w.setCell ⟨g, 0, none⟩ (.int .u64 (A : Int))).drew.heap[g]? = some (.cells #[.int .u64 (A : Int)] 127 (0, 0)) := (HST.out w q A hcP hgP 1).1
  have hg1 : Chg (fun b => b = g) w (w.setCell ⟨g, 0, none⟩ (.int .u64 (A : Int))).drew := (HST.out w q A hcP hgP 1).2
  clear hcP hgP
  generalize (w.setCell ⟨g, 0, none⟩ (.int .u64 (A : Int))).drew = W1 at *
  have hcP := hc1
  have hgP := hg1
  have k1 : W1.cell? ⟨g, 0, none⟩ = some (.int .u64 (A : Int)) := by rw [cell_of_row _ _ _ _ _ _ hcP]; rfl
  have f1 : W1.frozen? ⟨g, 0, none⟩ = false := frozen_of_row _ _ _ _ _ hcP
  go_region
  go_wp2_with fail
  have hc2 : (W1.setCell ⟨g, 0, none⟩ (.int .u64 (C : Int))).drew.heap[g]? = some (.cells #[.int .u64 (C : Int)] 127 (0, 0)) := (HST.out W1 A C hcP hgP 1).1
  have hg2 : Chg (fun b => b = g) w (W1.setCell ⟨g, 0, none⟩ (.int .u64 (C : Int))).drew := (HST.out W1 A C hcP hgP 1).2
  clear hcP hgP
  generalize (W1.setCell ⟨g, 0, none⟩ (.int .u64 (C : Int))).drew = W2 at *
  have hcP := hc2
  have hgP := hg2
  have k2 : W2.cell? ⟨g, 0, none⟩ = some (.int .u64 (C : Int)) := by rw [cell_of_row _ _ _ _ _ _ hcP]; rfl
  have f2 : W2.frozen? ⟨g, 0, none⟩ = false := frozen_of_row _ _ _ _ _ hcP
  go_region
  go_wp2_with fail
  have hc3 : (W2.setCell ⟨g, 0, none⟩ (.int .u64 (E : Int))).drew.heap[g]? = some (.cells #[.int .u64 (E : Int)] 127 (0, 0)) := (HST.out W2 C E hcP hgP 1).1
  have hg3 : Chg (fun b => b = g) w (W2.setCell ⟨g, 0, none⟩ (.int .u64 (E : Int))).drew := (HST.out W2 C E hcP hgP 1).2
  clear hcP hgP
  generalize (W2.setCell ⟨g, 0, none⟩ (.int .u64 (E : Int))).drew = W3 at *
  have hcP := hc3
  have hgP := hg3
  have k3 : W3.cell? ⟨g, 0, none⟩ = some (.int .u64 (E : Int)) := by rw [cell_of_row _ _ _ _ _ _ hcP]; rfl
  have f3 : W3.frozen? ⟨g, 0, none⟩ = false := frozen_of_row _ _ _ _ _ hcP
  go_wp2_with fail
  go_ret
  exact ⟨⟨E, lE, rfl, hcP⟩, hgP⟩

theorem pow_bitLen : ∀ f n : Nat, 0 < n → 2 ^ Lib.bitLenAux f n ≤ 2 * n
  | 0, n, h => by simp [Lib.bitLenAux]; omega
  | f + 1, n, h => by
    rw [Lib.bitLenAux, if_neg (by omega)]
    by_cases h2 : n / 2 = 0
    · have e : Lib.bitLenAux f 0 = 0 := by cases f <;> simp [Lib.bitLenAux]
      rw [h2, e]; omega
    · have := pow_bitLen f (n / 2) (by omega)
      rw [Nat.pow_add]; omega

set_option maxHeartbeats 1000000 in
theorem npow_any (n : Nat) (hn : n ≤ 1152921504606846976) (h0 : 0 < n) (w : World) : Calls Tryz.prog 82 #[.int .i64 n] w fun e w' => ∃ M : Nat, 0 < M ∧ M ≤ 2 * n ∧ e = .returned (.int .u64 M) ∧ w' = w := by
  have hl := Tryz.bits_Len (n : Int) w (by omega) (by omega)
  have hp := pow_bitLen 64 n h0
  obtain ⟨r, hr⟩ : ∃ r, r = Lib.bitLenAux 64 n := ⟨_, rfl⟩
  have er : Lib.bitLen (n : Int).toNat = r := by rw [hr]; rfl
  rw [er] at hl
  rw [← hr] at hp
  obtain ⟨M, hM⟩ : ∃ M, M = 2 ^ r := ⟨_, rfl⟩
  have hMp : 0 < M := by rw [hM]; exact Nat.pow_pos (by decide)
  rw [← hM] at hp
  have hr62 : r < 62 := by
    by_cases h : r < 62
    · exact h
    · have h1 : 2 ^ 62 ≤ 2 ^ r := Nat.pow_le_pow_right (by decide) (by omega)
      rw [← hM] at h1
      have : (2 : Nat) ^ 62 = 4611686018427387904 := by decide
      omega
  clear hr er
  go_enter Tryz.func82, Tryz.ntmps82
  go_wp2_with fail
  refine hl.mono ?_
  rintro e w1 ⟨rfl, rfl⟩
  have hsh : IntKind.u64.wrap (1 * 2 ^ r) = (M : Int) := by
    rw [IntKind.wrap_u64, hM]
    have h1 : (2 : Nat) ^ r ≤ 2 ^ 62 := Nat.pow_le_pow_right (by decide) (by omega)
    have e : ((2 ^ r : Nat) : Int) = (2 : Int) ^ r := by simp
    have : (2 : Nat) ^ 62 = 4611686018427387904 := by decide
    rw [Int.one_mul, ← e]; omega
  rw [Int.one_mul] at hsh
  go_wp2_with fail
  go_ret
  exact ⟨M, hMp, hp, by show Ending.returned (.int .u64 ((2 : Int) ^ r)) = _; rw [hM]; simp, rfl⟩

theorem and_u64 (x y : Nat) (hx : x < 18446744073709551616) (hy : y < 18446744073709551616) : bits .and .u64 (x : Int) (y : Int) = ((x &&& y : Nat) : Int) := by
  have hle : x &&& y ≤ y := Nat.and_le_right
  have h1 : (BitVec.ofInt 64 (x : Int)).toNat = x := by
    rw [BitVec.ofInt_natCast, BitVec.toNat_ofNat]; exact Nat.mod_eq_of_lt (by omega)
  have h2 : (BitVec.ofInt 64 (y : Int)).toNat = y := by
    rw [BitVec.ofInt_natCast, BitVec.toNat_ofNat]; exact Nat.mod_eq_of_lt (by omega)
  show IntKind.u64.wrap ((BitVec.ofInt 64 (x : Int) &&& BitVec.ofInt 64 (y : Int)).toNat : Int) = _
  rw [BitVec.toNat_and, h1, h2, IntKind.wrap_u64]
  omega

theorem chg_two {g s : Nat} {w W W' : World} (h : Chg (fun x => x = g) w W) (k : Chg (fun b => b = s) W W') (hs : w.heap.size ≤ s) : Chg (fun x => x = g) w W' := h.trans (k.mono (fun b _ q => .inr (by omega)))

set_option maxHeartbeats 8000000 in
theorem ubreak_any {B g c : Nat} {d : Array UInt64} {w : World} (h : Rw B g c d w) (a b : Nat) (hb : b ≤ d.size) (ha : a + 13 ≤ b) (hsz : d.size ≤ 1152921504606846976) :
    Calls Tryz.prog 53 #[.slice (some ⟨g, 0, none⟩) d.size c, .int .i64 a, .int .i64 b] w fun e w' => e = .returned (.tuple #[]) ∧ (∃ d', Rw B g c d' w' ∧ PermIn a b d d') ∧ Chg (fun x => x = g) w w' := by
  obtain ⟨z1, z2, z3, z4⟩ := h.sz
  obtain ⟨l, hl⟩ : ∃ k, k = b - a := ⟨_, rfl⟩
  obtain ⟨m, hm⟩ : ∃ k, k = l / 4 := ⟨_, rfl⟩
  obtain ⟨i0, hi0⟩ : ∃ k, k = a + m * 2 - 1 := ⟨_, rfl⟩
  obtain ⟨i1, hi1⟩ : ∃ k, k = a + m * 2 := ⟨_, rfl⟩
  have e1 : (b : Int) - (a : Int) = (l : Int) := by omega
  have e2 : (l : Int) / 4 = (m : Int) := by omega
  have e3 : (a : Int) + (m : Int) * 2 = (i1 : Int) := by omega
  have e4 : (i1 : Int) - 1 = (i0 : Int) := by omega
  have bi : a ≤ i0 ∧ i0 + 2 < b := by omega
  have b01 : i1 = i0 + 1 := by omega
  have hl8 : 8 ≤ l := by omega
  have hlb : a + l = b := by omega
  have hms : m ≤ d.size := by omega
  have hlz : l ≤ d.size := by omega
  have HB01 : Hid _ := b01
  have HLB : Hid _ := hlb
  clear hl hm hi0 hi1 b01 hlb
  have hb0 := heap_alloc_new w (.cells #[.int .u64 (l : Int)] 127)
  have hr0 : Rw B g c d (w.alloc (.cells #[.int .u64 (l : Int)] 127)) := Ou.alloc h _
  have hc0 : Chg (fun x => x = g) w (w.alloc (.cells #[.int .u64 (l : Int)] 127)) := (Chg.refl _ w).alloc _
  have hnp := npow_any l (by omega) (by omega) (w.alloc (.cells #[.int .u64 (l : Int)] 127))
  have hsg : w.heap.size ≠ g := by omega
  clear h
  go_enter Tryz.func53, Tryz.ntmps53
  go_wp2_with fail
  refine hnp.mono ?_
  rintro e w1 ⟨M, hM0, hM2, rfl, rfl⟩
  go_wp2_with fail
  generalize (w.alloc (.cells #[.int .u64 (l : Int)] 127)) = W0 at *
  go_loopw [9, 10] (fun vi _ wr => ∃ (t q : Nat) (dk : Array UInt64), t ≤ 3 ∧ vi = .int .i64 ((i0 + t : Nat) : Int) ∧ q < 18446744073709551616 ∧ Hid (dk.size = d.size) ∧ Rw B g c dk wr ∧ Hid (PermIn a b d dk) ∧ Hid (wr.heap[w.heap.size]? = some (.cells #[.int .u64 (q : Int)] 127 (0, 0))) ∧ Chg (fun x => x = g) w wr) (fun vi _ _ => i0 + 4 - (intOf vi).toNat)
  case atStart => exact ⟨0, l, d, by omega, by first | rfl | go_num, by omega, rfl, hr0, permIn_refl _ _ _, hb0, hc0⟩
  case round =>
    obtain ⟨t, q, dk, ht, rfl, hq, HZ, hk, HP, HC, hch⟩ := hrel
    clear hnp hb0 hr0 hc0
    obtain ⟨ix, hix⟩ : ∃ x, x = i0 + t := ⟨_, rfl⟩
    rw [← hix]
    by_cases htl : t < 3
    · have hle : (ix : Int) ≤ (i1 : Int) + 1 := by have := HB01.out; omega
      have bx : a ≤ ix ∧ ix < b := by omega
      have hnx := xnext_any q hq HC.out
      obtain ⟨m1, hm1⟩ : ∃ x, x = M - 1 := ⟨_, rfl⟩
      have em : (M : Int) - 1 = (m1 : Int) := by omega
      have emw : IntKind.u64.wrap ((M : Int) - 1) = (m1 : Int) := by rw [IntKind.wrap_u64]; omega
      have hm1l : m1 < 2 * l := by omega
      have HIX : Hid ((ix : Int) + 1 = ((i0 + (t + 1) : Nat) : Int)) := by show _ = _; omega
      clear hm1 hix
      go_wp2_with fail
      refine hnx.mono ?_
      rintro e w1 ⟨⟨R, hR, rfl, hc1⟩, hg1⟩
      have hk1 : Rw B g c dk w1 := ownsRow_keptC hk hg1 (fun b e q => hsg (by rw [← q]; exact (Option.some.inj e).symm ▸ rfl))
      have hch1 : Chg (fun x => x = g) w w1 := chg_two hch hg1 (Nat.le_refl _)
      obtain ⟨o, ho⟩ : ∃ o, o = R &&& m1 := ⟨_, rfl⟩
      have hoe : bits .and .u64 (R : Int) (m1 : Int) = (o : Int) := by rw [and_u64 R m1 hR (by omega), ho]
      have hol : o ≤ m1 := by rw [ho]; exact Nat.and_le_right
      have HC1 : Hid _ := hc1
      clear ho hk hch hnx hg1 hc1
      -- the place that is drawn
      have fin : ∀ p : Nat, p < l → ∀ n, Rw B g c (swp dk ix (a + p)) (((w1.drewN n).setCell ⟨g, ix, none⟩ (.int .u64 ((dk[a + p]!).toNat : Int))).setCell ⟨g, a + p, none⟩ (.int .u64 ((dk[ix]!).toNat : Int))) ∧ PermIn a b d (swp dk ix (a + p)) ∧ (swp dk ix (a + p)).size = d.size := fun p hp n => by
        have hlb := HLB.out
        refine ⟨(hk1.drewN n).swp ix (a + p), permIn_trans _ _ _ a b HP.out (swp_permIn dk a b ix (a + p) bx.1 bx.2 (by omega) (by omega) (by rw [HZ.out]; exact hb)), by rw [swp_size]; exact HZ.out⟩
      have HFIN : Hid _ := fin
      clear fin
      have hc2 : ∀ (p : Nat) (n : Nat) (X Y : Value), ((((w1.drewN n).setCell ⟨g, ix, none⟩ X).setCell ⟨g, a + p, none⟩ Y)).heap[w.heap.size]? = some (.cells #[.int .u64 (R : Int)] 127 (0, 0)) := fun p n X Y => by
        have hcg : Chg (fun x => x = g) w1 ((((w1.drewN n).setCell ⟨g, ix, none⟩ X).setCell ⟨g, a + p, none⟩ Y)) := chg_swp (Chg.refl _ _) n _ _ _ _
        rw [hcg.block _ (Array.getElem?_eq_some_iff.1 HC1.out).1 hsg]
        exact HC1.out
      have HC2 : Hid _ := hc2
      clear hc2
      have cI := hk1.cell ix (by rw [HZ.out]; omega)
      have fI := hk1.froz ix
      have lI : (ix : Int) < (d.size : Int) := by omega
      by_cases hol2 : l ≤ o
      · obtain ⟨p, hp⟩ : ∃ p, p = o - l := ⟨_, rfl⟩
        have eo : (o : Int) - (l : Int) = (p : Int) := by omega
        have hpl : p < l := by omega
        obtain ⟨ap, hap⟩ : ∃ x, x = a + p := ⟨_, rfl⟩
        have ea : (a : Int) + (p : Int) = (ap : Int) := by omega
        have hlb := HLB.out
        have cP := hk1.cell ap (by rw [HZ.out]; omega)
        have fP := hk1.froz ap
        have lP : (ap : Int) < (d.size : Int) := by omega
        obtain ⟨⟨uf, huf⟩, fuf⟩ := hk1.then ix ap dk[ap]! (by rw [HZ.out]; omega)
        have HF2 : Hid _ := HFIN.out p hpl
        have HCC : Hid _ := HC2.out p
        rw [← hap] at HF2 HCC
        have eix : (ix : Int) + 1 = ((i0 + (t + 1) : Nat) : Int) := HIX.out
        clear hp hap hlb eix
        generalize dk[ap]! = Yp at *
        generalize dk[ix]! = Xi at *
        go_wp2_with fail
        go_region
        go_wp2_with fail
        exact ⟨⟨t + 1, R, swp dk ix ap, by omega, by rw [← HIX.out], hR, (HF2.out 1).2.2, (HF2.out _).1, (HF2.out 1).2.1, HCC.out _ _ _, chg_swp hch1 _ _ _ _ _⟩, by simp [intOf]; omega⟩
      · have hpl : o < l := by omega
        obtain ⟨p, hp⟩ : ∃ p, p = o := ⟨_, rfl⟩
        subst hp
        obtain ⟨ap, hap⟩ : ∃ x, x = a + p := ⟨_, rfl⟩
        have ea : (a : Int) + (p : Int) = (ap : Int) := by omega
        have hlb := HLB.out
        have cP := hk1.cell ap (by rw [HZ.out]; omega)
        have fP := hk1.froz ap
        have lP : (ap : Int) < (d.size : Int) := by omega
        obtain ⟨⟨uf, huf⟩, fuf⟩ := hk1.then ix ap dk[ap]! (by rw [HZ.out]; omega)
        have HF2 : Hid _ := HFIN.out p hpl
        have HCC : Hid _ := HC2.out p
        rw [← hap] at HF2 HCC
        have eix : (ix : Int) + 1 = ((i0 + (t + 1) : Nat) : Int) := HIX.out
        clear hap hlb eix
        generalize dk[ap]! = Yp at *
        generalize dk[ix]! = Xi at *
        go_wp2_with fail
        go_region
        go_wp2_with fail
        exact ⟨⟨t + 1, R, swp dk ix ap, by omega, by rw [← HIX.out], hR, (HF2.out 1).2.2, (HF2.out _).1, (HF2.out 1).2.1, HCC.out _ _ _, chg_swp hch1 _ _ _ _ _⟩, by simp [intOf]; omega⟩
    · have hle : ¬ (ix : Int) ≤ (i1 : Int) + 1 := by have := HB01.out; omega
      clear hix
      go_wp2_with fail
      go_end0
      exact ⟨rfl, ⟨dk, hk, HP.out⟩, hch⟩
end Go.Proofs.YtefhinopppdjbaaGreat
