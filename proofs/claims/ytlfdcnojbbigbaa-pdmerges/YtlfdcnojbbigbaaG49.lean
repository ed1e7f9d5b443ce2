/- checkMerge, of two regions whose peers sit on the same stores (tools/genmerge10.py). -/
import Derived.Test.YtlfdcnojbbigbaaG48
import Derived.Test.YtlfdcnojbbigbaaG35
import Derived.Test.YtlfdcnojbbigbaaG25
import Derived.Deep.RegionHeld3
import Derived.Deep.CutRange
namespace Go.Proofs.Ytlfdcnojbbigbaa
open Go.RowKit
set_option linter.unusedVariables false
set_option maxRecDepth 100000

theorem perm_eq : ∀ (l q : List Se), q.Perm l → l.Pairwise (fun a b => a.1 < b.1) → q.Pairwise (fun a b => ¬ b.1 < a.1) → q = l
  | [], q, hp, _, _ => hp.eq_nil
  | x :: xs, [], hp, _, _ => by have := hp.length_eq; simp at this
  | x :: xs, y :: ys, hp, hl, hq => by
    rw [List.pairwise_cons] at hl hq
    have hxy : y = x := by
      by_cases h : y = x
      · exact h
      · exfalso
        have h1 : y ∈ xs := (List.mem_cons.1 (hp.mem_iff.1 (List.mem_cons_self ..))).resolve_left h
        have h2 : x ∈ ys := (List.mem_cons.1 (hp.mem_iff.2 (List.mem_cons_self ..))).resolve_left (fun q => h q.symm)
        exact hq.1 x h2 (hl.1 y h1)
    subst hxy
    rw [perm_eq xs ys (hp.cons_inv) hl.2 hq.2]
theorem RdSe.shape3 {w : World} {v : Value} {l : List Se} (h : RdSe w v l) : ∃ a m c, v = .slice a m c := by
  obtain ⟨a, c, q, _⟩ := h
  exact ⟨_, _, _, q⟩
/-- What checkMerge answers of two regions whose peers sit alike. -/
def cmgE (id id' vr vr' : UInt64) (s e t f : List UInt8) (ps qs : List Pe) : Int :=
  if chkE id s e ps ≠ 0 then chkE id s e ps else if chkE id' t f qs ≠ 0 then chkE id' t f qs else if id = id' then 1
  else if flw s f = false ∧ flw t e = false then 101 else if vr.toNat = 18446744073709551615 ∨ vr'.toNat = 18446744073709551615 then 1 else 0

set_option maxHeartbeats 4000000 in
theorem checkMerge_any {id vr id' vr' : UInt64} {cf cf' : Int} {sv ev pv tv fv qv : Value} {s e t f : List UInt8} {ps qs : List Pe} {w : World} (hs : Rd w sv s) (he : Rd w ev e) (hp : RdPe w pv ps) (ht : Rd w tv t) (hf : Rd w fv f) (hq : RdPe w qv qs) (hse : seF ps = seF qs) (hri : (seF ps).Pairwise (fun a b => a.1 < b.1)) (hne : ps ≠ []) (hl : ps.length ≤ 1099511627775) :
    Calls Try.prog 64 #[.agg #[.int .u64 (id.toNat : Int), sv, ev, .int .u64 cf, .int .u64 (vr.toNat : Int), pv], .agg #[.int .u64 (id'.toNat : Int), tv, fv, .int .u64 cf', .int .u64 (vr'.toNat : Int), qv]] w fun x w' => x = .returned (.int .i64 (cmgE id id' vr vr' s e t f ps qs)) ∧ Below w.heap.size w w' := by
  have HRS : Hid (Rd w sv s ∧ Rd w ev e ∧ RdPe w pv ps ∧ Rd w tv t ∧ Rd w fv f ∧ RdPe w qv qs) := ⟨hs, he, hp, ht, hf, hq⟩
  obtain ⟨sa, sc, rfl⟩ := hs.shp
  obtain ⟨ea, ec, rfl⟩ := he.shp
  obtain ⟨ta, tc, rfl⟩ := ht.shp
  obtain ⟨fa, fc, rfl⟩ := hf.shp
  obtain ⟨pa, pk, rfl, hp1, hp2⟩ := hp.shape
  obtain ⟨qa, qk, rfl, hq1, hq2⟩ := hq.shape
  clear hs he ht hf hp hq
  have hql : qs.length = ps.length := by have := congrArg List.length hse; unfold seF at this; rw [List.length_map, List.length_map] at this; exact this.symm
  have hqn : qs ≠ [] := fun q => hne (by rw [q] at hql; exact List.length_eq_zero_iff.1 hql.symm)
  have HQL : Hid (qs.length = ps.length) := hql
  clear hql
  have hb0 : Below w.heap.size w ((w.alloc (.cells #[.int .u64 (id.toNat : Int), .slice sa s.length sc, .slice ea e.length ec, .int .u64 cf, .int .u64 (vr.toNat : Int), .slice pa ps.length pk] 34)).alloc (.cells #[.int .u64 (id'.toNat : Int), .slice ta t.length tc, .slice fa f.length fc, .int .u64 cf', .int .u64 (vr'.toNat : Int), .slice qa qs.length qk] 34)) := (g_al w _).alloc (by simp) _
  have hl0 : ((w.alloc (.cells #[.int .u64 (id.toNat : Int), .slice sa s.length sc, .slice ea e.length ec, .int .u64 cf, .int .u64 (vr.toNat : Int), .slice pa ps.length pk] 34)).alloc (.cells #[.int .u64 (id'.toNat : Int), .slice ta t.length tc, .slice fa f.length fc, .int .u64 cf', .int .u64 (vr'.toNat : Int), .slice qa qs.length qk] 34)).heap[w.heap.size]? = some (.cells #[.int .u64 (id.toNat : Int), .slice sa s.length sc, .slice ea e.length ec, .int .u64 cf, .int .u64 (vr.toNat : Int), .slice pa ps.length pk] 34 (0, 0)) := (Below.heap_alloc _ _ _ (by simp)).trans (heap_alloc_new w _)
  have hh0 : ((w.alloc (.cells #[.int .u64 (id.toNat : Int), .slice sa s.length sc, .slice ea e.length ec, .int .u64 cf, .int .u64 (vr.toNat : Int), .slice pa ps.length pk] 34)).alloc (.cells #[.int .u64 (id'.toNat : Int), .slice ta t.length tc, .slice fa f.length fc, .int .u64 cf', .int .u64 (vr'.toNat : Int), .slice qa qs.length qk] 34)).heap[w.heap.size + 1]? = some (.cells #[.int .u64 (id'.toNat : Int), .slice ta t.length tc, .slice fa f.length fc, .int .u64 cf', .int .u64 (vr'.toNat : Int), .slice qa qs.length qk] 34 (0, 0)) := by
    have := heap_alloc_new (w.alloc (.cells #[.int .u64 (id.toNat : Int), .slice sa s.length sc, .slice ea e.length ec, .int .u64 cf, .int .u64 (vr.toNat : Int), .slice pa ps.length pk] 34)) (.cells #[.int .u64 (id'.toNat : Int), .slice ta t.length tc, .slice fa f.length fc, .int .u64 cf', .int .u64 (vr'.toNat : Int), .slice qa qs.length qk] 34)
    rw [World.size_alloc] at this
    exact this
  generalize hres : cmgE id id' vr vr' s e t f ps qs = res
  have HRES : Hid _ := hres
  clear hres
  obtain ⟨a0, a1, a2, a3, a4, a5, _⟩ := cells6 hl0
  obtain ⟨b0, b1, b2, b3, b4, b5, _⟩ := cells6 hh0
  go_enter Try.func64, Try.ntmps64
  go_wp2_with fail
  generalize ((w.alloc (.cells #[.int .u64 (id.toNat : Int), .slice sa s.length sc, .slice ea e.length ec, .int .u64 cf, .int .u64 (vr.toNat : Int), .slice pa ps.length pk] 34)).alloc (.cells #[.int .u64 (id'.toNat : Int), .slice ta t.length tc, .slice fa f.length fc, .int .u64 cf', .int .u64 (vr'.toNat : Int), .slice qa qs.length qk] 34)) = W0 at *
  have HK : Hid (∀ W, Below W0.heap.size W0 W → W.heap[w.heap.size]? = some (.cells #[.int .u64 (id.toNat : Int), .slice sa s.length sc, .slice ea e.length ec, .int .u64 cf, .int .u64 (vr.toNat : Int), .slice pa ps.length pk] 34 (0, 0)) ∧ W.heap[w.heap.size + 1]? = some (.cells #[.int .u64 (id'.toNat : Int), .slice ta t.length tc, .slice fa f.length fc, .int .u64 cf', .int .u64 (vr'.toNat : Int), .slice qa qs.length qk] 34 (0, 0))) := fun W hW => ⟨(hW.block _ (lt_of_some hl0)).trans hl0, (hW.block _ (lt_of_some hh0)).trans hh0⟩
  have HRD : Hid (∀ W, Below W0.heap.size W0 W → Rd W (.slice sa s.length sc) s ∧ Rd W (.slice ea e.length ec) e ∧ RdPe W (.slice pa ps.length pk) ps ∧ Rd W (.slice ta t.length tc) t ∧ Rd W (.slice fa f.length fc) f ∧ RdPe W (.slice qa qs.length qk) qs) := fun W hW => by
    have hb : Below w.heap.size w W := hb0.trans (hW.mono hb0.size)
    obtain ⟨q1, q2, q3, q4, q5, q6⟩ := HRS.out
    exact ⟨q1.below hb (Nat.le_refl _), q2.below hb (Nat.le_refl _), q3.below hb (Nat.le_refl _), q4.below hb (Nat.le_refl _), q5.below hb (Nat.le_refl _), q6.below hb (Nat.le_refl _)⟩
  have hb0' : Below w.heap.size w W0 := hb0
  clear hl0 hh0
  have hS0 : Below W0.heap.size W0 W0 := Below.refl _ _
  have HCK : Hid (∀ W, Below W0.heap.size W0 W → Calls Try.prog 18 #[.agg #[.int .u64 (id.toNat : Int), .slice sa s.length sc, .slice ea e.length ec, .int .u64 cf, .int .u64 (vr.toNat : Int), .slice pa ps.length pk]] W fun x w' => x = .returned (.int .i64 (chkE id s e ps)) ∧ Below W0.heap.size W0 w') := fun W hW => (check_any (HRD.out W hW).1 (HRD.out W hW).2.1 (HRD.out W hW).2.2.1).mono (by rintro e1 w' ⟨rfl, hb⟩; exact ⟨rfl, hW.trans (hb.mono hW.size)⟩)
  have HCL : Hid (∀ W, Below W0.heap.size W0 W → Calls Try.prog 18 #[.agg #[.int .u64 (id'.toNat : Int), .slice ta t.length tc, .slice fa f.length fc, .int .u64 cf', .int .u64 (vr'.toNat : Int), .slice qa qs.length qk]] W fun x w' => x = .returned (.int .i64 (chkE id' t f qs)) ∧ Below W0.heap.size W0 w') := fun W hW => (check_any (HRD.out W hW).2.2.2.1 (HRD.out W hW).2.2.2.2.1 (HRD.out W hW).2.2.2.2.2).mono (by rintro e1 w' ⟨rfl, hb⟩; exact ⟨rfl, hW.trans (hb.mono hW.size)⟩)
  have HF1 : Hid (∀ W, Below W0.heap.size W0 W → Calls Try.prog 65 #[.agg #[.int .u64 (id.toNat : Int), .slice sa s.length sc, .slice ea e.length ec, .int .u64 cf, .int .u64 (vr.toNat : Int), .slice pa ps.length pk], .agg #[.int .u64 (id'.toNat : Int), .slice ta t.length tc, .slice fa f.length fc, .int .u64 cf', .int .u64 (vr'.toNat : Int), .slice qa qs.length qk]] W fun x w' => x = .returned (.bool (flw s f)) ∧ Below W0.heap.size W0 w') := fun W hW => (follows_any (HRD.out W hW).1 (HRD.out W hW).2.1 (HRD.out W hW).2.2.2.1 (HRD.out W hW).2.2.2.2.1).mono (by rintro e1 w' ⟨rfl, hb⟩; exact ⟨rfl, hW.trans (hb.mono hW.size)⟩)
  have HF2 : Hid (∀ W, Below W0.heap.size W0 W → Calls Try.prog 65 #[.agg #[.int .u64 (id'.toNat : Int), .slice ta t.length tc, .slice fa f.length fc, .int .u64 cf', .int .u64 (vr'.toNat : Int), .slice qa qs.length qk], .agg #[.int .u64 (id.toNat : Int), .slice sa s.length sc, .slice ea e.length ec, .int .u64 cf, .int .u64 (vr.toNat : Int), .slice pa ps.length pk]] W fun x w' => x = .returned (.bool (flw t e)) ∧ Below W0.heap.size W0 w') := fun W hW => (follows_any (HRD.out W hW).2.2.2.1 (HRD.out W hW).2.2.2.2.1 (HRD.out W hW).1 (HRD.out W hW).2.1).mono (by rintro e1 w' ⟨rfl, hb⟩; exact ⟨rfl, hW.trans (hb.mono hW.size)⟩)
  have HS1 : Hid (∀ W, Below W0.heap.size W0 W → Calls Try.prog 72 #[.agg #[.int .u64 (id.toNat : Int), .slice sa s.length sc, .slice ea e.length ec, .int .u64 cf, .int .u64 (vr.toNat : Int), .slice pa ps.length pk]] W fun x w' => ∃ v', x = .returned v' ∧ RdSe w' v' (seF ps) ∧ Below W0.heap.size W0 w') := fun W hW => (seats_any (HRD.out W hW).1 (HRD.out W hW).2.1 (HRD.out W hW).2.2.1 hne hl).mono (by
    rintro e1 w' ⟨v', q, rfl, h1, h2, h3, hb⟩
    rw [perm_eq _ _ h1 hri h2] at h3
    exact ⟨v', rfl, h3, hW.trans (hb.mono hW.size)⟩)
  have HS2 : Hid (∀ W, Below W0.heap.size W0 W → Calls Try.prog 72 #[.agg #[.int .u64 (id'.toNat : Int), .slice ta t.length tc, .slice fa f.length fc, .int .u64 cf', .int .u64 (vr'.toNat : Int), .slice qa qs.length qk]] W fun x w' => ∃ v', x = .returned v' ∧ RdSe w' v' (seF ps) ∧ Below W.heap.size W w') := fun W hW => (seats_any (HRD.out W hW).2.2.2.1 (HRD.out W hW).2.2.2.2.1 (HRD.out W hW).2.2.2.2.2 hqn (by have := HQL.out; omega)).mono (by
    rintro e1 w' ⟨v', q, rfl, h1, h2, h3, hb⟩
    rw [← hse] at h1
    rw [perm_eq _ _ h1 hri h2] at h3
    exact ⟨v', rfl, h3, hb⟩)
  have HG : Hid (∀ (x : UInt64) W, Calls Try.prog 22 #[.int .u64 (x.toNat : Int)] W fun e w' => e = .returned (.bool (decide (x.toNat = 18446744073709551615))) ∧ w' = W) := fun x W => greatest_any x W
  clear hb0 hri hne hqn hse
  unfold cmgE at HRES
  generalize seF ps = SE at *
  generalize chkE id s e ps = ck1 at *
  generalize chkE id' t f qs = ck2 at *
  generalize flw s f = fl1 at *
  generalize flw t e = fl2 at *
  refine (HCK.out W0 hS0).mono ?_
  rintro x w1 ⟨rfl, hb1⟩
  by_cases hc1 : ck1 ≠ 0
  · have g1 : (ck1 != 0) = true := by simpa using hc1
    have HR : Hid (res = ck1) := by show _ = _; rw [← HRES.out, if_pos hc1]
    go_wp2_with fail
    go_ret
    exact ⟨by rw [HR.out]; rfl, hb0'.trans (hb1.mono hb0'.size)⟩
  · obtain rfl : ck1 = 0 := Decidable.not_not.1 hc1
    clear a0 a1 a2 a3 a4 a5 b0 b1 b2 b3 b4 b5
    obtain ⟨hx, hy⟩ := HK.out _ hb1
    obtain ⟨a0, a1, a2, a3, a4, a5, _⟩ := cells6 hx
    obtain ⟨b0, b1, b2, b3, b4, b5, _⟩ := cells6 hy
    clear hx hy
    by_cases hc2 : ck2 ≠ 0
    · have g2 : (ck2 != 0) = true := by simpa using hc2
      have HR : Hid (res = ck2) := by show _ = _; rw [← HRES.out, if_neg hc1, if_pos hc2]
      go_wp2_with fail
      refine (HCL.out w1 hb1).mono ?_
      rintro x w2 ⟨rfl, hb2⟩
      go_wp2_with fail
      go_ret
      exact ⟨by rw [HR.out]; rfl, hb0'.trans (hb2.mono hb0'.size)⟩
    · obtain rfl : ck2 = 0 := Decidable.not_not.1 hc2
      go_wp2_with fail
      refine (HCL.out w1 hb1).mono ?_
      rintro x w2 ⟨rfl, hb2⟩
      clear a0 a1 a2 a3 a4 a5 b0 b1 b2 b3 b4 b5
      obtain ⟨hx, hy⟩ := HK.out _ hb2
      obtain ⟨a0, a1, a2, a3, a4, a5, _⟩ := cells6 hx
      obtain ⟨b0, b1, b2, b3, b4, b5, _⟩ := cells6 hy
      clear hx hy
      by_cases hid : id = id'
      · have HR : Hid (res = 1) := by show _ = _; rw [← HRES.out, if_neg hc1, if_neg hc2, if_pos hid]
        have gi : ((id.toNat : Int) == (id'.toNat : Int)) = true := by rw [hid]; simp
        clear hid
        go_wp2_with fail
        go_ret
        exact ⟨by rw [HR.out]; rfl, hb0'.trans (hb2.mono hb0'.size)⟩
      · have gi : ((id.toNat : Int) == (id'.toNat : Int)) = false := beq_eq_false_iff_ne.2 (fun q => hid (UInt64.toNat_inj.1 (by omega)))
        have HR0 : Hid (res = if fl1 = false ∧ fl2 = false then 101 else if vr.toNat = 18446744073709551615 ∨ vr'.toNat = 18446744073709551615 then 1 else 0) := by show _ = _; rw [← HRES.out, if_neg hc1, if_neg hc2, if_neg hid]
        clear hid hc1 hc2 HRES
        go_upto_region 9 with fail
        go_cut [31] from 7 to 48 (fun v wx => v = .bool (!fl1 && !fl2) ∧ Below W0.heap.size W0 wx)
        case first =>
          cases fl1 with
          | true =>
            go_wp2_with fail
            refine (HF1.out w2 hb2).mono ?_
            rintro x w3 ⟨rfl, hb3⟩
            go_wp2_with fail
            go_meet
            exact ⟨rfl, hb3⟩
          | false =>
            go_wp2_with fail
            refine (HF1.out w2 hb2).mono ?_
            rintro x w3 ⟨rfl, hb3⟩
            clear a0 a1 a2 a3 a4 a5 b0 b1 b2 b3 b4 b5
            obtain ⟨hx, hy⟩ := HK.out _ hb3
            obtain ⟨a0, a1, a2, a3, a4, a5, _⟩ := cells6 hx
            obtain ⟨b0, b1, b2, b3, b4, b5, _⟩ := cells6 hy
            clear hx hy
            go_wp2_with fail
            refine (HF2.out w3 hb3).mono ?_
            rintro x w4 ⟨rfl, hb4⟩
            go_wp2_with fail
            go_meet
            exact ⟨rfl, hb4⟩
        case rest =>
          obtain ⟨rfl, hb5⟩ := hcut
          obtain ⟨w5, hw5⟩ : ∃ w5, w5 = wc := ⟨wc, rfl⟩
          subst hw5
          clear a0 a1 a2 a3 a4 a5 b0 b1 b2 b3 b4 b5
          obtain ⟨hx, hy⟩ := HK.out _ hb5
          obtain ⟨a0, a1, a2, a3, a4, a5, _⟩ := cells6 hx
          obtain ⟨b0, b1, b2, b3, b4, b5, _⟩ := cells6 hy
          clear hx hy
          cases hff : (!fl1 && !fl2) with
          | true =>
            have HR : Hid (res = 101) := by
              show _ = _
              rw [HR0.out, if_pos]
              revert hff
              cases fl1 <;> cases fl2 <;> simp
            clear hff
            go_wp2_with fail
            go_ret
            exact ⟨by rw [HR.out]; rfl, hb0'.trans (hb5.mono hb0'.size)⟩
          | false =>
            have HR1 : Hid (res = if vr.toNat = 18446744073709551615 ∨ vr'.toNat = 18446744073709551615 then 1 else 0) := by
              show _ = _
              rw [HR0.out, if_neg]
              revert hff
              cases fl1 <;> cases fl2 <;> simp
            clear hff HR0
            go_wp2_with fail
            have hD5 : Below W0.heap.size W0 w5.drew := hb5.trans ((Below.dN w5 1).mono hb5.size)
            go_region_held3 (fun w' => (w'.cell? ⟨w.heap.size, 0, none⟩ = some (.int .u64 (id.toNat : Int)) ∧ w'.cell? ⟨w.heap.size, 1, none⟩ = some (.slice sa s.length sc) ∧ w'.cell? ⟨w.heap.size, 2, none⟩ = some (.slice ea e.length ec) ∧ w'.cell? ⟨w.heap.size, 3, none⟩ = some (.int .u64 cf) ∧ w'.cell? ⟨w.heap.size, 4, none⟩ = some (.int .u64 (vr.toNat : Int)) ∧ w'.cell? ⟨w.heap.size, 5, none⟩ = some (.slice pa ps.length pk)) ∧ w'.cell? ⟨w.heap.size + 1, 0, none⟩ = some (.int .u64 (id'.toNat : Int)) ∧ w'.cell? ⟨w.heap.size + 1, 1, none⟩ = some (.slice ta t.length tc) ∧ w'.cell? ⟨w.heap.size + 1, 2, none⟩ = some (.slice fa f.length fc) ∧ w'.cell? ⟨w.heap.size + 1, 3, none⟩ = some (.int .u64 cf') ∧ w'.cell? ⟨w.heap.size + 1, 4, none⟩ = some (.int .u64 (vr'.toNat : Int)) ∧ w'.cell? ⟨w.heap.size + 1, 5, none⟩ = some (.slice qa qs.length qk)) (go_keep) (first
              | (go_at_call 71; refine (equalSe_any (hr6.below hb7 (Nat.le_refl _)) hr7).mono ?_; rintro x w8 ⟨rfl, n8, hw8⟩; have hb8 : Below W0.heap.size W0 w8 := (by rw [hw8]; exact hB7.trans ((Below.dN w7 n8).mono hB7.size)); clear hw8; obtain ⟨i0, i1, i2, i3, i4, i5, _⟩ := cells6 (HK.out w8 hb8).1; obtain ⟨j0, j1, j2, j3, j4, j5, _⟩ := cells6 (HK.out w8 hb8).2)
              | (go_at_call 72; refine (HS2.out w6 hb6).mono ?_; rintro x w7 ⟨v7, rfl, hr7, hb7⟩; have hB7 := hb6.trans (hb7.mono hb6.size); obtain ⟨k7, m7, l7, hv7⟩ := hr7.shape3; subst hv7; obtain ⟨e0, e1, e2, e3, e4, e5, _⟩ := cells6 (HK.out w7 hB7).1; obtain ⟨f0, f1, f2, f3, f4, f5, _⟩ := cells6 (HK.out w7 hB7).2)
              | (go_at_call 72; refine (HS1.out _ hD5).mono ?_; rintro x w6 ⟨v6, rfl, hr6, hb6⟩; obtain ⟨k6, m6, l6, hv6⟩ := hr6.shape3; subst hv6; obtain ⟨c0, c1, c2, c3, c4, c5, _⟩ := cells6 (HK.out w6 hb6).1; obtain ⟨d0, d1, d2, d3, d4, d5, _⟩ := cells6 (HK.out w6 hb6).2)
              | fail)
            (try simp only [decide_true])
            clear hr6 hr7 hb7
            clear a0 a1 a2 a3 a4 a5 b0 b1 b2 b3 b4 b5
            clear c0 c1 c2 c3 c4 c5 d0 d1 d2 d3 d4 d5 e0 e1 e2 e3 e4 e5 f0 f1 f2 f3 f4 f5
            by_cases h1 : vr.toNat = 18446744073709551615
            · have HR : Hid (res = 1) := by show _ = _; rw [HR1.out, if_pos (.inl h1)]
              have hg := HG.out vr
              rw [decide_eq_true h1] at hg
              clear h1
              go_wp2_with fail
              refine (hg _).mono ?_
              rintro x w9 ⟨rfl, rfl⟩
              go_wp2_with fail
              go_ret
              exact ⟨by rw [HR.out]; rfl, hb0'.trans (hb8.mono hb0'.size)⟩
            · have hg := HG.out vr
              rw [decide_eq_false h1] at hg
              by_cases h2 : vr'.toNat = 18446744073709551615
              · have HR : Hid (res = 1) := by show _ = _; rw [HR1.out, if_pos (.inr h2)]
                have hg2 := HG.out vr'
                rw [decide_eq_true h2] at hg2
                clear h1 h2
                go_wp2_with fail
                refine (hg _).mono ?_
                rintro x w9 ⟨rfl, hw9⟩
                subst hw9
                go_wp2_with fail
                refine (hg2 _).mono ?_
                rintro x w10 ⟨rfl, hw10⟩
                subst hw10
                go_wp2_with fail
                go_ret
                exact ⟨by rw [HR.out]; rfl, hb0'.trans (hb8.mono hb0'.size)⟩
              · have HR : Hid (res = 0) := by show _ = _; rw [HR1.out, if_neg (fun q => q.elim h1 h2)]
                have hg2 := HG.out vr'
                rw [decide_eq_false h2] at hg2
                clear h1 h2
                go_wp2_with fail
                refine (hg _).mono ?_
                rintro x w9 ⟨rfl, hw9⟩
                subst hw9
                go_wp2_with fail
                refine (hg2 _).mono ?_
                rintro x w10 ⟨rfl, hw10⟩
                subst hw10
                go_wp2_with fail
                go_ret
                exact ⟨by rw [HR.out]; rfl, hb0'.trans (hb8.mono hb0'.size)⟩
end Go.Proofs.Ytlfdcnojbbigbaa
