/- The walk of TableOpens. -/
import Derived.Test.YtdaedglfefkeoaaG5
import Derived.Test.YtdaedglfefkeoaaG4
import Derived.Test.YtdaedglfefkeoaaG1
import Derived.Deep.RegionHeld3
namespace Go.Proofs.Ytdaedglfefkeoaa
open Go.RowKit
set_option linter.unusedVariables false
set_option maxRecDepth 100000

/-- Where the key is found, when k pairs have been looked at. -/
def atK (ps : List P3) (key : List UInt8) (k : Nat) : Int := if M.isK ps key = true ∧ M.plK ps key < k then (M.plK ps key : Int) else -1
theorem isK_iff {ps : List P3} (h : M.ris ps = true) (key : List UInt8) (k : Nat) (p : P3) (hp : ps[k]? = some p) : (M.isK ps key = true ∧ M.plK ps key = k) ↔ p.1 = key := by
  constructor
  · rintro ⟨h1, rfl⟩
    unfold M.isK at h1
    rw [hp] at h1
    exact M.cmpL_zero (by simpa using h1)
  · rintro rfl
    have e : M.plK ps p.1 = k := M.plK_eq (fun j x hj hx => M.ris_pair h hx hp hj) (fun x hx => by
      rw [hp] at hx
      obtain rfl := Option.some.inj hx
      rw [M.cmpL_self]; omega) (by have := (List.getElem?_eq_some_iff.1 hp).1; omega)
    refine ⟨?_, e⟩
    unfold M.isK
    rw [e, hp]
    simp [M.cmpL_self]
theorem atK_zero (ps : List P3) (key : List UInt8) : atK ps key 0 = -1 := by
  unfold atK; rw [if_neg (by omega)]
theorem atK_yes {ps : List P3} (h : M.ris ps = true) {k : Nat} {p : P3} (hp : ps[k]? = some p) : atK ps p.1 (k + 1) = (k : Int) := by
  obtain ⟨h1, h2⟩ := (isK_iff h p.1 k p hp).2 rfl
  unfold atK
  rw [if_pos ⟨h1, by omega⟩, h2]
theorem atK_no {ps : List P3} (h : M.ris ps = true) {key : List UInt8} {k : Nat} {p : P3} (hp : ps[k]? = some p) (hn : p.1 ≠ key) : atK ps key (k + 1) = atK ps key k := by
  unfold atK
  by_cases h1 : M.isK ps key = true ∧ M.plK ps key < k
  · rw [if_pos h1, if_pos ⟨h1.1, by omega⟩]
  · rw [if_neg h1, if_neg]
    rintro ⟨q1, q2⟩
    exact hn ((isK_iff h key k p hp).1 ⟨q1, by
      rcases Nat.lt_or_ge (M.plK ps key) k with q | q
      · exact absurd ⟨q1, q⟩ h1
      · omega⟩)
end Go.Proofs.Ytdaedglfefkeoaa

/- The walk of TableOpens, all of it. -/
namespace Go.Proofs.Ytdaedglfefkeoaa
open Go.RowKit
set_option linter.unusedVariables false
set_option maxRecDepth 100000

/-- What is found of a key: by the table, and by looking at each pair. -/
theorem found {ps : List P3} (h : M.ris ps = true) (key : List UInt8) : ((getK ps key).isSome = true ∧ ∃ (kp : Nat) (pp : P3), ps[kp]? = some pp ∧ atK ps key ps.length = (kp : Int) ∧ (getK ps key).getD noP = pp) ∨ ((getK ps key).isSome = false ∧ atK ps key ps.length = -1 ∧ (getK ps key).getD noP = noP) := by
  by_cases hi : M.isK ps key = true
  · obtain ⟨p, hp⟩ : ∃ p, ps[M.plK ps key]? = some p := by
      unfold M.isK at hi
      split at hi
      · rename_i x e; exact ⟨x, e⟩
      · cases hi
    have hg : getK ps key = some p := by unfold getK; rw [if_pos hi, hp]
    have hkl := (List.getElem?_eq_some_iff.1 hp).1
    refine .inl ⟨by rw [hg]; rfl, M.plK ps key, p, hp, ?_, by rw [hg]; rfl⟩
    unfold atK
    rw [if_pos ⟨hi, hkl⟩]
  · have hg : getK ps key = none := by unfold getK; rw [if_neg hi]
    refine .inr ⟨by rw [hg]; rfl, ?_, by rw [hg]; rfl⟩
    unfold atK
    rw [if_neg (fun q => hi q.1)]

set_option maxHeartbeats 2000000 in
theorem opens_walk {v kv fv tv : Value} {l key fr till : List UInt8} {w : World} (hr : Rd w v l) (hl : l.length ≤ 1048576) (hk : Rd w kv key) (hkl : key.length ≤ 1048576) (hf : Rd w fv fr) (hfl : fr.length ≤ 1048576) (ht : Rd w tv till) (htl : till.length ≤ 1048576) :
    Calls Try.prog 4 #[v, kv, fv, tv] w fun e w' => e = .returned (.bool true) ∧ Below w.heap.size w w' := by
  have rk := fun W (hW : Below w.heap.size w W) => hk.below hW (Nat.le_refl _)
  have rf := fun W (hW : Below w.heap.size w W) => hf.below hW (Nat.le_refl _)
  have rt := fun W (hW : Below w.heap.size w W) => ht.below hW (Nat.le_refl _)
  have hr0 := hr
  obtain ⟨av, cv, rfl, _⟩ := hr
  obtain ⟨ak, ck, rfl, _⟩ := hk
  obtain ⟨af, cf, rfl, _⟩ := hf
  obtain ⟨at_, ct, rfl, _⟩ := ht
  go_enter Try.func4, Try.ntmps4
  go_wp2_with fail
  refine (tawake_any _).mono ?_
  rintro e w1 ⟨rfl, hb1⟩
  have hB1 : w.heap.size ≤ w1.heap.size := hb1.size
  have hR1 := RdB.of hr0 hb1
  go_wp2_with fail
  refine (lend_new hR1 (by omega) hB1 _).mono ?_
  rintro e w2 ⟨p, rfl, hp2, hs2, hb2⟩
  have hB2 : w.heap.size ≤ w2.heap.size := Nat.le_trans hB1 hb2.size
  have hR2 := hR1.next (hb2.mono hB1)
  have hl2 := hs2.blk.lt
  have hop := open_anyB hp2 (by omega)
  obtain ⟨ap, cp, ep, _⟩ := hp2
  subst ep
  go_wp2_with fail
  refine hop.mono ?_
  rintro e w3 ⟨hor, hb3⟩
  have hB3 : w.heap.size ≤ w3.heap.size := Nat.le_trans hB2 hb3.size
  have hR3 := hR2.next (hb3.mono hB2)
  have hro := ropen_any hR3.now hl
  rcases hor with ⟨ps, t, hps, rfl, ht3⟩ | ⟨hno, rfl⟩
  · rw [hps] at hro
    have hform := M.opn_form hps
    have htot : totP ps ≤ 1048576 := by
      have h1 := totP_row ps
      have h2 : (M.tab ps).length = l.length := by rw [hform.1]
      simp only [M.tab, M.frame, M.row, List.length_append] at h2
      omega
    have hri := hform.2
    obtain ⟨tb, tv', et⟩ : ∃ tb tv', t = .pointer (some ⟨tb, 0, none⟩) ∧ tv' = t := by obtain ⟨b, _, _, e, _⟩ := ht3; exact ⟨b, t, e, rfl⟩
    obtain ⟨rfl, _⟩ := et
    clear hform hop
    go_wp2_with fail
    refine hro.mono ?_
    rintro e w4 ⟨hor4, hb4⟩
    rcases hor4 with ⟨qs, wv, us4, hqs, rfl, ho4⟩ | ⟨hno, _⟩
    rotate_left
    · cases hno
    obtain rfl := Option.some.inj hqs
    have hB4 : w.heap.size ≤ w4.heap.size := Nat.le_trans hB3 hb4.size
    have hR4 := hR3.next (hb4.mono hB3)
    have hs4 := hs2.next (Below.tr hb3 hb4)
    have ht4 := ht3.below hb4 (Nat.le_refl _)
    obtain ⟨aw, nw, cw, ew⟩ := row_shape ho4.row
    subst ew
    have hbk := back_new hs4 hR4 (by omega) hB1
    go_wp2_with fail
    refine hbk.mono ?_
    rintro e w5 ⟨rfl, hg5, hb5⟩
    have s23 := hb3.size
    have ht5 := ht4.keptG hg5 hl2
    have ho5 := ho4.keptG hg5 (by omega)
    have hW5 : Below w.heap.size w w5 := ((hb1.trans (hb2.mono hB1)).trans ((Below.tr hb3 hb4).mono hB2)).trans hb5
    have hW5s := hW5.size
    have hwq := ho5.rdq
    have htb := fun W (hW : Below w5.heap.size w5 W) => (ht5.below hW (Nat.le_refl _)).tbl
    have hwn := fun W (hW : Below w5.heap.size w5 W) => hwq.below hW (Nat.le_refl _)
    have rk5 := fun W (hW : Below w5.heap.size w5 W) => rk W (hW5.trans (hW.mono hW5s))
    have rf5 := fun W (hW : Below w5.heap.size w5 W) => rf W (hW5.trans (hW.mono hW5s))
    have rt5 := fun W (hW : Below w5.heap.size w5 W) => rt W (hW5.trans (hW.mono hW5s))
    obtain ⟨_, _, ew2, wl1, wl2, _⟩ := hwq
    simp only [Value.slice.injEq] at ew2
    obtain ⟨rfl, rfl, rfl⟩ := ew2
    unfold maxLen at wl2
    have HK : Hid (Below w.heap.size w w5) := hW5
    have hpl := totP_len ps
    clear ht5 ho5 ht4 ho4 ht3 hro hbk hs4 hs2 hg5 hb5 hb4 hb3 hb2 hb1 hR1 hR2 hR3 hR4 hr0 rk rf rt hps hW5
    go_wp2_with fail
    refine (tnum_any _ _).mono ?_
    rintro e w6 ⟨rfl, rfl⟩
    go_wp2_with fail
    go_loopw [14, 15, 16, 17, 18, 19, 20, 21, 22, 23] (fun i _ _ _ _ _ _ _ _ _ wr => ∃ k : Nat, k ≤ 2 ∧ i = .int .i64 k ∧ Below w6.heap.size w6 wr) (fun i _ _ _ _ _ _ _ _ _ _ => 2 - (intOf i).toNat)
    case atStart => exact ⟨0, Nat.zero_le _, rfl, Below.refl _ _⟩
    case round =>
      obtain ⟨i0, hi0, rfl, hb⟩ := hrel
      generalize wr = wA at *
      have hbs := hb.size
      by_cases hi2 : i0 < 2
      · have hr1 := range_any (htb wA hb) (Rd.nil wA) (Rd.nil wA) hri (by omega)
        rw [rng_all ps] at hr1
        go_wp2_with fail
        refine hr1.mono ?_
        rintro e x1 ⟨va, usa, rfl, hoa, hba⟩
        have hX1 : Below w6.heap.size w6 x1 := hb.trans (hba.mono hbs)
        obtain ⟨aa, na, ca, ea⟩ := row_shape hoa.row
        subst ea
        have hr2 := range_any (htb x1 hX1) (rf5 x1 hX1) (rt5 x1 hX1) hri (by omega)
        go_wp2_with fail
        refine hr2.mono ?_
        rintro e x2 ⟨vp, usp, rfl, hop, hbp⟩
        have hX2 : Below w6.heap.size w6 x2 := hX1.trans (hbp.mono hX1.size)
        obtain ⟨app, np, cpp, epp⟩ := row_shape hop.row
        subst epp
        have hln := tlen_any (htb x2 hX2)
        go_wp2_with fail
        refine hln.mono ?_
        rintro e x3 ⟨rfl, rfl⟩
        have hsp := samep_any (hoa.below hbp (Nat.le_refl _)).rdq (hwn x3 hX2)
        go_wp2_with fail
        refine hsp.mono ?_
        rintro e x4 ⟨rfl, n4, rfl⟩
        have hX4 : Below w6.heap.size w6 (x3.drewN n4) := hX2.trans ((Below.dN x3 n4).mono hX2.size)
        have hrr := rrange_any (hwn _ hX4) (rf5 _ hX4) (rt5 _ hX4) hri (by omega)
        go_wp2_with fail
        refine hrr.mono ?_
        rintro e x5 ⟨vr, rfl, hqr, hb5'⟩
        have hb35 : Below x3.heap.size x3 x5 := Below.tr (Below.dN x3 n4) hb5'
        have hsp2 := samep_any (hop.below hb35 (Nat.le_refl _)).rdq hqr
        obtain ⟨ar, cr, er, _⟩ := hqr
        subst er
        go_wp2_with fail
        refine hsp2.mono ?_
        rintro e x6 ⟨rfl, n6, rfl⟩
        have hb36 : Below x3.heap.size x3 (x5.drewN n6) := Below.tr hb35 (Below.dN x5 n6)
        generalize x5.drewN n6 = x7 at *
        have hX7 : Below w6.heap.size w6 x7 := hX2.trans (hb36.mono hX2.size)
        have hget := get_any (htb x7 hX7) (rk5 x7 hX7) hri (by omega)
        clear hsp2 hb5' hrr hsp hln hr2 hr1
        go_wp2_with fail
        refine hget.mono ?_
        rintro e x8 ⟨u8, rfl, hE8, hb8⟩
        obtain ⟨⟨q0, q1, q2, e0⟩, q3, q4, q5, e1⟩ := hE8.sl
        obtain ⟨m0, m1, m2⟩ := u8
        simp only [] at e0 e1
        subst e0
        subst e1
        simp only [] at *
        have HC : Hid _ := found hri key
        have hb9 : Below x7.heap.size x7 (x8.alloc (.cells #[.slice q0 q1 q2, .slice q3 q4 q5, .bool m2] 48)) := Below.tr hb8 (bel_al x8 _)
        obtain ⟨f0, f1, f2, _⟩ := cells3 (heap_alloc_new x8 (.cells #[.slice q0 q1 q2, .slice q3 q4 q5, .bool m2] 48))
        have hE9 := hE8.below (bel_al x8 (.cells #[.slice q0 q1 q2, .slice q3 q4 q5, .bool m2] 48)) (Nat.le_refl _)
        have hsz9 : (x8.alloc (.cells #[.slice q0 q1 q2, .slice q3 q4 q5, .bool m2] 48)).heap.size = x8.heap.size + 1 := by simp
        generalize (getK ps key).getD noP = DD at *
        generalize (getK ps key).isSome = okb at *
        clear hget
        go_wp2_with fail
        generalize (x8.alloc (.cells #[.slice q0 q1 q2, .slice q3 q4 q5, .bool m2] 48)) = X9 at *
        have hX9 : Below w6.heap.size w6 X9 := hX7.trans (hb9.mono hX7.size)
        obtain ⟨aow, cw2, ew3, _, _, h4w⟩ := hwn X9 hX9
        simp only [Value.slice.injEq, true_and] at ew3
        obtain ⟨rfl, rfl⟩ := ew3
        have hkX := rk5 X9 hX9
        go_loopw [19, 20] (fun a i wc => ∃ k : Nat, k ≤ ps.length ∧ i = .int .i64 k ∧ a = .int .i64 (atK ps key k) ∧ ∃ n, wc = X9.drewN n) (fun _ i _ => ps.length - (intOf i).toNat)
        case atStart => exact ⟨0, Nat.zero_le _, rfl, by rw [atK_zero], 0, rfl⟩
        case round =>
          obtain ⟨k, hk, rfl, rfl, nX, rfl⟩ := hrel
          by_cases hlk : k < ps.length
          · obtain ⟨pp, hpp⟩ : ∃ p, ps[k]? = some p := ⟨_, List.getElem?_eq_getElem hlk⟩
            obtain ⟨a, u1, u2, rfl, hpa⟩ := h4w k pp hpp
            have hsm := same_any (hpa.r1.drewN nX) (hkX.drewN nX)
            have c0 : (X9.drewN nX).cell? (a.add (k * 3)) = some u1 := hpa.c0
            obtain ⟨x1', y1', rfl, _⟩ := hpa.r1
            have hki : (k : Int) < (ps.length : Int) := by omega
            clear h4w hpa
            by_cases hke : pp.1 = key
            · rw [decide_eq_true hke] at hsm
              have HA : Hid (atK ps key (k + 1) = (k : Int)) := by show _ = _; rw [← hke]; exact atK_yes hri hpp
              clear hke hpp
              go_wp2_with fail
              refine hsm.mono ?_
              rintro e w20 ⟨rfl, n20, rfl⟩
              go_wp2_with fail
              exact ⟨⟨k + 1, by omega, by go_num, by rw [HA.out], _, rfl⟩, by simp [intOf]; omega⟩
            · rw [decide_eq_false hke] at hsm
              have HA : Hid _ := atK_no hri hpp hke
              clear hke hpp
              go_wp2_with fail
              refine hsm.mono ?_
              rintro e w20 ⟨rfl, n20, rfl⟩
              go_wp2_with fail
              exact ⟨⟨k + 1, by omega, by go_num, by rw [HA.out], _, rfl⟩, by simp [intOf]; omega⟩
          · obtain rfl : k = ps.length := by omega
            clear h4w
            have hbX : Below X9.heap.size X9 (X9.drewN nX) := Below.dN X9 nX
            have f0' : (X9.drewN nX).cell? ⟨x8.heap.size, 0, none⟩ = some (.slice q0 q1 q2) := f0
            have f1' : (X9.drewN nX).cell? ⟨x8.heap.size, 1, none⟩ = some (.slice q3 q4 q5) := f1
            have f2' : (X9.drewN nX).cell? ⟨x8.heap.size, 2, none⟩ = some (.bool m2) := f2
            have hE10 := hE9.below hbX (Nat.le_refl _)
            have hsz10 : (X9.drewN nX).heap.size = x8.heap.size + 1 := hsz9
            have hb10 : Below x7.heap.size x7 (X9.drewN nX) := hb9.trans (hbX.mono hb9.size)
            clear f0 f1 f2 hE9 hsz9 hb9 hbX
            go_wp2_with fail
            generalize X9.drewN nX = X10 at *
            have hX10 : Below w6.heap.size w6 X10 := hX7.trans (hb10.mono hX7.size)
            rcases HC.out with ⟨rfl, kp, pp, hpp, hat, rfl⟩ | ⟨rfl, hat, rfl⟩
            · rw [hat]
              clear hat
              have hkl := (List.getElem?_eq_some_iff.1 hpp).1
              obtain ⟨aw', cw', ew', _, _, h4'⟩ := hwn X10 hX10
              simp only [Value.slice.injEq, true_and] at ew'
              obtain ⟨rfl, rfl⟩ := ew'
              obtain ⟨a, _, _, rfl, _⟩ := h4' kp DD hpp
              have hone := fun W (hW : Below w6.heap.size w6 W) => (hwn W hW).one hpp
              clear h4'
              have hN := rdq_one X10 (x8.heap.size + 1) hsz10 48 hE10 rfl
              have hw1 : IntKind.i64.wrap ((kp : Int) + 1) = (kp : Int) + 1 := by rw [IntKind.wrap_i64]; omega
              have g0 : (0 : Int) ≤ (kp : Int) := by omega
              have g2 : (kp : Int) ≤ (kp : Int) + 1 := by omega
              have g5 : (kp : Int) + 1 ≤ (ps.length : Int) := by omega
              have g6 : (kp : Int) + 1 ≤ (cw : Int) := by omega
              have g7 : (ps.length : Int) ≤ (cw : Int) := by omega
              have g8 : ¬ cw = kp := by omega
              have nn0 := World.new_ne X10 _ f0'
              have nn1 := World.new_ne X10 _ f1'
              have nn2 := World.new_ne X10 _ f2'
              refine wp_region_any (by kernel_rfl) ?_
              refine wpAny_take (i := 0) (v := .bool true) rfl (by kernel_rfl) (by kernel_rfl) (by kernel_rfl) (fun _ _ _ h => h) (.inl ⟨by kernel_rfl, fun w => by kernel_rfl⟩) ?_
              refine wpAny_take (i := 1) (v := .int .i64 (kp : Int)) rfl (by kernel_rfl) (by kernel_rfl) (by kernel_rfl) (fun _ _ _ h => h) (.inl ⟨by kernel_rfl, fun w => by kernel_rfl⟩) ?_
              refine wpAny_take (i := 2) (v := .bool true) rfl (by kernel_rfl) (by kernel_rfl) (by kernel_rfl) (fun _ _ _ h => h) (.inl ⟨by kernel_rfl, fun w => by go_simp; try simp [g0]⟩) ?_
              refine wpAny_take (i := 3) (v := .bool false) rfl (by kernel_rfl) (by kernel_rfl) (by kernel_rfl) (fun _ _ _ h => h) (.inl ⟨by kernel_rfl, fun w => by kernel_rfl⟩) ?_
              refine wpAny_take (i := 4) (v := .bool false) rfl (by kernel_rfl) (by kernel_rfl) (by kernel_rfl) (fun _ _ _ h => h) (.inl ⟨by kernel_rfl, fun w => by kernel_rfl⟩) ?_
              refine wpAny_take (i := 5) (v := .bool true) rfl (by kernel_rfl) (by kernel_rfl) (by kernel_rfl) (fun _ _ _ h => h) (.inl ⟨by kernel_rfl, fun w => by kernel_rfl⟩) ?_
              refine wpAny_take (i := 6) (v := .bool true) rfl (by kernel_rfl) (by kernel_rfl) (by kernel_rfl) (fun _ _ _ h => h) (.inl ⟨by kernel_rfl, fun w => by kernel_rfl⟩) ?_
              refine wpAny_take (i := 9) (v := .slice (some a) ps.length cw) rfl (by kernel_rfl) (by kernel_rfl) (by kernel_rfl) (fun _ _ _ h => h) (.inl ⟨by kernel_rfl, fun w => by kernel_rfl⟩) ?_
              refine wpAny_take (i := 10) (v := .int .i64 (kp : Int)) rfl (by kernel_rfl) (by kernel_rfl) (by kernel_rfl) (fun _ _ _ h => h) (.inl ⟨by kernel_rfl, fun w => by kernel_rfl⟩) ?_
              refine wpAny_take (i := 11) (v := .int .i64 (kp : Int)) rfl (by kernel_rfl) (by kernel_rfl) (by kernel_rfl) (fun _ _ _ h => h) (.inl ⟨by kernel_rfl, fun w => by kernel_rfl⟩) ?_
              refine wpAny_take (i := 12) (v := .int .i64 ((kp : Int) + 1)) rfl (by kernel_rfl) (by kernel_rfl) (by kernel_rfl) (fun _ _ _ h => h) (.inl ⟨by kernel_rfl, fun w => by go_simp; try simp [hw1]⟩) ?_
              refine wpAny_take (i := 13) (v := .slice (some (a.add (kp * 3))) 1 (cw - kp)) rfl (by kernel_rfl) (by kernel_rfl) (by kernel_rfl) (fun _ _ _ h => h) (.inl ⟨by kernel_rfl, fun w => by go_simp⟩) ?_
              refine wpAny_ready (rs := [7]) (by kernel_rfl) (by simp) ?_
              refine AllReady.cons rfl (fun K hK => ?_) AllReady.nil
              rw [if_pos (by kernel_rfl)]
              go_simp
              refine hK _ _ ?_
              clear hK K
              refine wpAny_ready (rs := [8]) (by kernel_rfl) (by simp) ?_
              refine AllReady.cons rfl (fun K hK => ?_) AllReady.nil
              rw [if_pos (by kernel_rfl)]
              go_simp
              refine hK _ _ ?_
              clear hK K
              refine wpAny_ready (rs := [14]) (by kernel_rfl) (by simp) ?_
              refine AllReady.cons rfl (fun K hK => ?_) AllReady.nil
              rw [if_pos (by kernel_rfl)]
              go_simp
              refine (samep_any (ps := [DD]) (RdQ.below hN (bel_drew _) (Nat.le_refl _)) (hone _ (hX10.trans ((Below.tr (bel_al X10 _) (bel_drew _)).mono hX10.size)))).mono ?_
              rintro e w11 ⟨rfl, n11, rfl⟩
              have s0 : ((X10.alloc (.cells #[.slice q0 q1 q2, .slice q3 q4 q5, .bool m2] 48)).drew.drewN n11).cell? ⟨x8.heap.size, 0, none⟩ = some (.slice q0 q1 q2) := keepc f0'
              have s1 : ((X10.alloc (.cells #[.slice q0 q1 q2, .slice q3 q4 q5, .bool m2] 48)).drew.drewN n11).cell? ⟨x8.heap.size, 1, none⟩ = some (.slice q3 q4 q5) := keepc f1'
              have s2 : ((X10.alloc (.cells #[.slice q0 q1 q2, .slice q3 q4 q5, .bool m2] 48)).drew.drewN n11).cell? ⟨x8.heap.size, 2, none⟩ = some (.bool m2) := keepc f2'
              have hbXY : Below X10.heap.size X10 ((X10.alloc (.cells #[.slice q0 q1 q2, .slice q3 q4 q5, .bool m2] 48)).drew.drewN n11) := Below.tr (Below.tr (bel_al X10 _) (bel_drew _)) (Below.dN _ _)
              simp only []
              refine hK _ _ ?_
              clear hK K
              generalize ((X10.alloc (.cells #[.slice q0 q1 q2, .slice q3 q4 q5, .bool m2] 48)).drew.drewN n11) = Y0 at *
              refine wpAny_take (i := 15) (v := .bool false) rfl (by kernel_rfl) (by kernel_rfl) (by kernel_rfl) (fun _ _ _ h => h) (.inl ⟨by kernel_rfl, fun w => by kernel_rfl⟩) ?_
              refine wpAny_take (i := 16) (v := .bool false) rfl (by kernel_rfl) (by kernel_rfl) (by kernel_rfl) (fun _ _ _ h => h) (.inl ⟨by kernel_rfl, fun w => by kernel_rfl⟩) ?_
              refine wpAny_take (i := 17) (v := .bool false) rfl (by kernel_rfl) (by kernel_rfl) (by kernel_rfl) (fun _ _ _ h => h) (.inl ⟨by kernel_rfl, fun w => by kernel_rfl⟩) ?_
              refine wpAny_take (i := 18) (v := .bool false) rfl (by kernel_rfl) (by kernel_rfl) (by kernel_rfl) (fun _ _ _ h => h) (.inl ⟨by kernel_rfl, fun w => by kernel_rfl⟩) ?_
              refine wpAny_take (i := 19) (v := .bool true) rfl (by kernel_rfl) (by kernel_rfl) (by kernel_rfl) (fun _ _ _ h => h) (.inl ⟨by kernel_rfl, fun w => by kernel_rfl⟩) ?_
              refine wpAny_take (i := 20) (v := .bool false) rfl (by kernel_rfl) (by kernel_rfl) (by kernel_rfl) (fun _ _ _ h => h) (.inl ⟨by kernel_rfl, fun w => by kernel_rfl⟩) ?_
              refine wpAny_take (i := 21) (v := .bool false) rfl (by kernel_rfl) (by kernel_rfl) (by kernel_rfl) (fun _ _ _ h => h) (.inl ⟨by kernel_rfl, fun w => by kernel_rfl⟩) ?_
              refine wpAny_take (i := 22) (v := undef) rfl (by kernel_rfl) (by kernel_rfl) (by kernel_rfl) (fun _ _ _ h => h) (.inr ⟨by kernel_rfl, rfl⟩) ?_
              refine wpAny_take (i := 23) (v := undef) rfl (by kernel_rfl) (by kernel_rfl) (by kernel_rfl) (fun _ _ _ h => h) (.inr ⟨by kernel_rfl, rfl⟩) ?_
              refine wpAny_take (i := 24) (v := undef) rfl (by kernel_rfl) (by kernel_rfl) (by kernel_rfl) (fun _ _ _ h => h) (.inr ⟨by kernel_rfl, rfl⟩) ?_
              refine wpAny_take (i := 25) (v := undef) rfl (by kernel_rfl) (by kernel_rfl) (by kernel_rfl) (fun _ _ _ h => h) (.inr ⟨by kernel_rfl, rfl⟩) ?_
              refine wpAny_take (i := 26) (v := undef) rfl (by kernel_rfl) (by kernel_rfl) (by kernel_rfl) (fun _ _ _ h => h) (.inr ⟨by kernel_rfl, rfl⟩) ?_
              refine wpAny_take (i := 27) (v := undef) rfl (by kernel_rfl) (by kernel_rfl) (by kernel_rfl) (fun _ _ _ h => h) (.inr ⟨by kernel_rfl, rfl⟩) ?_
              refine wpAny_take (i := 28) (v := undef) rfl (by kernel_rfl) (by kernel_rfl) (by kernel_rfl) (fun _ _ _ h => h) (.inr ⟨by kernel_rfl, rfl⟩) ?_
              refine wpAny_take (i := 29) (v := undef) rfl (by kernel_rfl) (by kernel_rfl) (by kernel_rfl) (fun _ _ _ h => h) (.inr ⟨by kernel_rfl, rfl⟩) ?_
              refine wpAny_take (i := 30) (v := undef) rfl (by kernel_rfl) (by kernel_rfl) (by kernel_rfl) (fun _ _ _ h => h) (.inr ⟨by kernel_rfl, rfl⟩) ?_
              refine wpAny_take (i := 31) (v := undef) rfl (by kernel_rfl) (by kernel_rfl) (by kernel_rfl) (fun _ _ _ h => h) (.inr ⟨by kernel_rfl, rfl⟩) ?_
              refine wpAny_take (i := 32) (v := undef) rfl (by kernel_rfl) (by kernel_rfl) (by kernel_rfl) (fun _ _ _ h => h) (.inr ⟨by kernel_rfl, rfl⟩) ?_
              refine wpAny_take (i := 33) (v := undef) rfl (by kernel_rfl) (by kernel_rfl) (by kernel_rfl) (fun _ _ _ h => h) (.inr ⟨by kernel_rfl, rfl⟩) ?_
              refine wpAny_take (i := 34) (v := undef) rfl (by kernel_rfl) (by kernel_rfl) (by kernel_rfl) (fun _ _ _ h => h) (.inr ⟨by kernel_rfl, rfl⟩) ?_
              refine wpAny_take (i := 35) (v := undef) rfl (by kernel_rfl) (by kernel_rfl) (by kernel_rfl) (fun _ _ _ h => h) (.inr ⟨by kernel_rfl, rfl⟩) ?_
              refine wpAny_take (i := 36) (v := .bool false) rfl (by kernel_rfl) (by kernel_rfl) (by kernel_rfl) (fun _ _ _ h => h) (.inl ⟨by kernel_rfl, fun w => by kernel_rfl⟩) ?_
              refine wpAny_take (i := 37) (v := .bool false) rfl (by kernel_rfl) (by kernel_rfl) (by kernel_rfl) (fun _ _ _ h => h) (.inl ⟨by kernel_rfl, fun w => by kernel_rfl⟩) ?_
              refine wpAny_done (by kernel_rfl) ?_ _
              go_simp
              have f0 : Y0.cell? ⟨x8.heap.size, 0, none⟩ = some (.slice q0 q1 q2) := s0
              have f1 : Y0.cell? ⟨x8.heap.size, 1, none⟩ = some (.slice q3 q4 q5) := s1
              have f2 : Y0.cell? ⟨x8.heap.size, 2, none⟩ = some (.bool m2) := s2
              have hEY := hE10.below hbXY (Nat.le_refl _)
              have hbY : Below x3.heap.size x3 Y0 := Below.tr (Below.tr hb36 hb10) hbXY
              have s36 := hb36.size
              have s78 := hb8.size
              have s10 : x8.heap.size + 1 ≤ Y0.heap.size := by have := hbXY.size; omega
              clear s0 s1 s2 nn0 nn1 nn2 f0' f1' f2' hN hone hbXY hE10
              have hoY := ((hoa.below hbp (Nat.le_refl _)).below hbY (Nat.le_refl _))
              have hpY := hop.below hbY (Nat.le_refl _)
              have hYs := hbY.size
              have s1 := hba.size
              have s2 := hbp.size
              have hul := hoa.len
              have hup := hop.len
              have hrl := rng_len ps fr till
              have hl1 : usa.length + usp.length ≤ 1099511627776 := by omega
              have hrwY := hoY.row
              have hrvY := hpY.rdv
              have hvB : ∀ b, (Value.slice aa na ca).ownBlock = some b → b < x1.heap.size := fun b q => (World.ownsRow.lt hoa.row b q).2
              go_wp2_with (first
                | (at_builtin; refine wpList_appQ rfl _ _ rfl wA.heap.size (.slice aa na ca) usa rfl hrwY _ usp rfl hrvY (by omega) hl1 ?_; intro v12 w12 ho12 hg12 hv12; obtain ⟨a12, n12, c12, e12⟩ := row_shape ho12; subst e12; have g0 := grown_cell hg12 f0 (fun q => by have := hvB _ q; simp only [] at this; omega); have g1 := grown_cell hg12 f1 (fun q => by have := hvB _ q; simp only [] at this; omega); have g2 := grown_cell hg12 f2 (fun q => by have := hvB _ q; simp only [] at this; omega))
                | (at_builtin; refine wpList_appQ rfl _ _ rfl wA.heap.size (.slice a12 n12 c12) (usa ++ usp) rfl (ownsRow_belW ho12 (bel_al w12 _) (Nat.le_refl _)) _ [(.slice q0 q1 q2, .slice q3 q4 q5, m2)] rfl (rdV_one w12 (.slice q0 q1 q2, .slice q3 q4 q5, m2) ⟨⟨_, _, _, rfl⟩, _, _, _, rfl⟩ rfl _) ?hB14 ?hl14 ?_; rotate_right; intro v14 w14 ho14 hg14 hv14)
                | fail)
              case hB14 => have := hg12.size; simp; omega
              case hl14 => first | omega | (simp; omega)
              have hj := hoY.app hpY.len (fun i u p e1 e2 => (hpY.el i u p e1 e2).mono s1) (fun u hu b hbb q => by obtain ⟨p', hp'⟩ := hpY.elem u hu; have := (hp'.lt hbb).1; have := hvB b q; omega) ho12 hg12 hv12
              have hB12 : Below wA.heap.size wA w12 := (Below.tr (Below.tr hba hbp) hbY).trans ((Below.refl wA.heap.size Y0).grown hg12 (by omega) (fun b q => (World.ownsRow.lt hoa.row b q).1))
              have hEg : El3 x7.heap.size w12 (.slice q0 q1 q2, .slice q3 q4 q5, m2) DD := hEY.grown hg12 (fun b hbb q => by have := (hE8.lt hbb).1; have := hvB b q; omega)
              have hE13 := hEg.below (bel_al w12 (.cells #[.slice q0 q1 q2, .slice q3 q4 q5, .bool m2] 48)) (Nat.le_refl _)
              have hj13 := hj.below (bel_al w12 (.cells #[.slice q0 q1 q2, .slice q3 q4 q5, .bool m2] 48)) (Nat.le_refl _)
              have hz := hj13.app (xs := [(.slice q0 q1 q2, .slice q3 q4 q5, m2)]) (qs := [DD]) rfl (fun i u p e1 e2 => by
                  cases i with
                  | zero => simp at e1 e2; subst e1; subst e2; exact hE13.mono (by omega)
                  | succ i => simp at e1) (fun u hu b hbb q => by
                  obtain rfl := List.mem_singleton.1 hu
                  have l1 := hE8.lt hbb
                  rcases hv12 with e | e
                  · rw [e] at q; have := hvB b q; omega
                  · rw [e] at q; have := Option.some.inj q; omega) ho14 hg14 hv14
              have hB14 : Below wA.heap.size wA w14 := hB12.trans (hj.grown (bel_al w12 _) hB12.size hg14)
              have hZ : WrQ wA.heap.size w14 v14 (usa ++ usp ++ [(.slice q0 q1 q2, .slice q3 q4 q5, m2)]) := ⟨_, hz⟩
              generalize usa ++ usp ++ [((.slice q0 q1 q2, .slice q3 q4 q5, m2) : V3)] = US at *
              obtain ⟨aZ, cZ, eZ, z1, z2, _⟩ := hZ.reads
              subst eZ
              unfold maxLen at z2
              clear hz hj13 hE13 hEg hB12 hj hoY hpY hrwY hrvY ho14 hg14 hv14 ho12 hg12 hv12 hE8 hEY hvB g0 g1 g2 f0 f1 f2
              go_wp2_with fail
              go_loopw [21, 22, 23] (fun i _ _ wo => ∃ k : Nat, k ≤ US.length ∧ i = .int .i64 k ∧ WrQ wA.heap.size wo (.slice aZ US.length cZ) US ∧ Below wA.heap.size wA wo) (fun i _ _ _ => US.length - (intOf i).toNat)
              case atStart => exact ⟨0, Nat.zero_le _, rfl, hZ, hB14⟩
              case round =>
                obtain ⟨k, hk, rfl, hZk, hBk⟩ := hrel
                generalize wr = wB at *
                clear hZ hB14
                by_cases hlk : k < US.length
                · obtain ⟨u, hu⟩ : ∃ u, US[k]? = some u := ⟨_, List.getElem?_eq_getElem hlk⟩
                  have hum := List.mem_of_getElem? hu
                  obtain ⟨p0, hp0⟩ := hZk.elem u hum
                  obtain ⟨⟨o1, n1, c1, eu1⟩, o2, n2, c2, eu2⟩ := hp0.sl
                  obtain ⟨⟨r1, r2, r3⟩, _⟩ := hZk.bytes1 hum eu1
                  obtain ⟨⟨t1, t2, t3⟩, _⟩ := hZk.bytes2 hum eu2
                  obtain ⟨gz, rfl⟩ : ∃ g, aZ = some ⟨g, 0, none⟩ := by obtain ⟨a, c, e, _, _, h4⟩ := hZk.reads; obtain ⟨g, e2, _⟩ := h4 k u hu; simp only [Value.slice.injEq] at e; exact ⟨g, by rw [e.1, e2]⟩
                  have KC : ∀ W, WrQ wA.heap.size W (.slice (some ⟨gz, 0, none⟩) US.length cZ) US → W.cell? ⟨gz, k * 3, none⟩ = some (.slice o1 n1 c1) ∧ W.cell? ⟨gz, k * 3 + 1, none⟩ = some (.slice o2 n2 c2) := fun W hW => by
                    obtain ⟨a, c, e, _, _, h4⟩ := hW.reads
                    obtain ⟨g, e2, q1, q2⟩ := h4 k u hu
                    simp only [Value.slice.injEq] at e
                    have e3 : (⟨gz, 0, none⟩ : Addr) = ⟨g, 0, none⟩ := Option.some.inj (e.1.trans e2)
                    simp only [Addr.mk.injEq, and_true] at e3
                    subst e3
                    rw [← eu1, ← eu2]
                    exact ⟨q1, q2⟩
                  have hki : (k : Int) < (US.length : Int) := by omega
                  clear hp0
                  go_wp2_with fail
                  go_loopw [22] (fun j W => ∃ jn : Nat, jn ≤ n1 ∧ j = .int .i64 jn ∧ WrQ wA.heap.size W (.slice (some ⟨gz, 0, none⟩) US.length cZ) US ∧ Below wA.heap.size wA W) (fun j _ => n1 - (intOf j).toNat)
                  case atStart => exact ⟨0, Nat.zero_le _, rfl, hZk, hBk⟩
                  case round =>
                    obtain ⟨jn, hj, rfl, hZj, hBj⟩ := hrel
                    generalize wr = wC at *
                    obtain ⟨c0, c1'⟩ := KC wC hZj
                    by_cases hjl : jn < n1
                    · obtain ⟨g1, z, rfl, hc, hfz, hbl⟩ := (hZj.bytes1 hum eu1).2 jn hjl
                      obtain ⟨hov1, hov2⟩ := hZj.over (j := jn) hum hbl
                      have HV : Hid _ := And.intro hov1 (hBj.trans hov2)
                      clear hov1 hov2 hZj hBj KC hZk hBk
                      have hji : (jn : Int) < (n1 : Int) := by omega
                      go_wp2_with fail
                      exact ⟨⟨jn + 1, by omega, by go_num, HV.out.1, HV.out.2⟩, by simp [intOf]; omega⟩
                    · obtain rfl : jn = n1 := by omega
                      go_wp2_with fail
                      go_loopw [23] (fun j W => ∃ jm : Nat, jm ≤ n2 ∧ j = .int .i64 jm ∧ WrQ wA.heap.size W (.slice (some ⟨gz, 0, none⟩) US.length cZ) US ∧ Below wA.heap.size wA W) (fun j _ => n2 - (intOf j).toNat)
                      case atStart => exact ⟨0, Nat.zero_le _, rfl, hZj, hBj⟩
                      case round =>
                        obtain ⟨jm, hj2, rfl, hZm, hBm⟩ := hrel
                        generalize wr = wD at *
                        obtain ⟨d0, d1'⟩ := KC wD hZm
                        clear c0 c1' hZj hBj hZk hBk
                        by_cases hjl2 : jm < n2
                        · obtain ⟨g1, z, rfl, hc, hfz, hbl⟩ := (hZm.bytes2 hum eu2).2 jm hjl2
                          obtain ⟨hov1, hov2⟩ := hZm.over (j := jm) hum hbl
                          have HV : Hid _ := And.intro hov1 (hBm.trans hov2)
                          clear hov1 hov2 hZm hBm KC
                          have hji : (jm : Int) < (n2 : Int) := by omega
                          go_wp2_with fail
                          exact ⟨⟨jm + 1, by omega, by go_num, HV.out.1, HV.out.2⟩, by simp [intOf]; omega⟩
                        · obtain rfl : jm = n2 := by omega
                          clear KC
                          go_wp2_with fail
                          exact ⟨⟨k + 1, by omega, by go_num, hZm, hBm⟩, by simp [intOf]; omega⟩
                · obtain rfl : k = US.length := by omega
                  go_wp2_with fail
                  exact ⟨⟨i0 + 1, by omega, by go_num, hb.trans (hBk.mono hbs)⟩, by simp [intOf]; omega⟩
            · obtain ⟨_, _, en, _⟩ := hE10.1.rd
              obtain ⟨_, _, en2, _⟩ := hE10.2.1.rd
              have em := hE10.2.2
              simp only [Value.slice.injEq, noP, List.length_nil] at en en2 em
              obtain ⟨rfl, rfl, rfl⟩ := en
              obtain ⟨rfl, rfl, rfl⟩ := en2
              subst em
              rw [hat]
              clear hat
              go_quiet (fail)
              have f0 : (X10.drewN nq).cell? ⟨x8.heap.size, 0, none⟩ = some (.slice q0 0 q2) := f0'
              have f1 : (X10.drewN nq).cell? ⟨x8.heap.size, 1, none⟩ = some (.slice q3 0 q5) := f1'
              have f2 : (X10.drewN nq).cell? ⟨x8.heap.size, 2, none⟩ = some (.bool false) := f2'
              have hbXY : Below X10.heap.size X10 (X10.drewN nq) := Below.dN X10 nq
              have hEY := hE10.below hbXY (Nat.le_refl _)
              generalize X10.drewN nq = Y0 at *
              have hbY : Below x3.heap.size x3 Y0 := Below.tr (Below.tr hb36 hb10) hbXY
              have s36 := hb36.size
              have s78 := hb8.size
              have s10 : x8.heap.size + 1 ≤ Y0.heap.size := by have := hbXY.size; omega
              clear f0' f1' f2' hbXY hE10
              have hoY := ((hoa.below hbp (Nat.le_refl _)).below hbY (Nat.le_refl _))
              have hpY := hop.below hbY (Nat.le_refl _)
              have hYs := hbY.size
              have s1 := hba.size
              have s2 := hbp.size
              have hul := hoa.len
              have hup := hop.len
              have hrl := rng_len ps fr till
              have hl1 : usa.length + usp.length ≤ 1099511627776 := by omega
              have hrwY := hoY.row
              have hrvY := hpY.rdv
              have hvB : ∀ b, (Value.slice aa na ca).ownBlock = some b → b < x1.heap.size := fun b q => (World.ownsRow.lt hoa.row b q).2
              go_wp2_with (first
                | (at_builtin; refine wpList_appQ rfl _ _ rfl wA.heap.size (.slice aa na ca) usa rfl hrwY _ usp rfl hrvY (by omega) hl1 ?_; intro v12 w12 ho12 hg12 hv12; obtain ⟨a12, n12, c12, e12⟩ := row_shape ho12; subst e12; have g0 := grown_cell hg12 f0 (fun q => by have := hvB _ q; simp only [] at this; omega); have g1 := grown_cell hg12 f1 (fun q => by have := hvB _ q; simp only [] at this; omega); have g2 := grown_cell hg12 f2 (fun q => by have := hvB _ q; simp only [] at this; omega))
                | (at_builtin; refine wpList_appQ rfl _ _ rfl wA.heap.size (.slice a12 n12 c12) (usa ++ usp) rfl (ownsRow_belW ho12 (bel_al w12 _) (Nat.le_refl _)) _ [(.slice q0 0 q2, .slice q3 0 q5, false)] rfl (rdV_one w12 (.slice q0 0 q2, .slice q3 0 q5, false) ⟨⟨_, _, _, rfl⟩, _, _, _, rfl⟩ rfl _) ?hB14 ?hl14 ?_; rotate_right; intro v14 w14 ho14 hg14 hv14)
                | fail)
              case hB14 => have := hg12.size; simp; omega
              case hl14 => first | omega | (simp; omega)
              have hj := hoY.app hpY.len (fun i u p e1 e2 => (hpY.el i u p e1 e2).mono s1) (fun u hu b hbb q => by obtain ⟨p', hp'⟩ := hpY.elem u hu; have := (hp'.lt hbb).1; have := hvB b q; omega) ho12 hg12 hv12
              have hB12 : Below wA.heap.size wA w12 := (Below.tr (Below.tr hba hbp) hbY).trans ((Below.refl wA.heap.size Y0).grown hg12 (by omega) (fun b q => (World.ownsRow.lt hoa.row b q).1))
              have hEg : El3 x7.heap.size w12 (.slice q0 0 q2, .slice q3 0 q5, false) noP := hEY.grown hg12 (fun b hbb q => by have := (hE8.lt hbb).1; have := hvB b q; omega)
              have hE13 := hEg.below (bel_al w12 (.cells #[.slice q0 0 q2, .slice q3 0 q5, .bool false] 48)) (Nat.le_refl _)
              have hj13 := hj.below (bel_al w12 (.cells #[.slice q0 0 q2, .slice q3 0 q5, .bool false] 48)) (Nat.le_refl _)
              have hz := hj13.app (xs := [(.slice q0 0 q2, .slice q3 0 q5, false)]) (qs := [noP]) rfl (fun i u p e1 e2 => by
                  cases i with
                  | zero => simp at e1 e2; subst e1; subst e2; exact hE13.mono (by omega)
                  | succ i => simp at e1) (fun u hu b hbb q => by
                  obtain rfl := List.mem_singleton.1 hu
                  have l1 := hE8.lt hbb
                  rcases hv12 with e | e
                  · rw [e] at q; have := hvB b q; omega
                  · rw [e] at q; have := Option.some.inj q; omega) ho14 hg14 hv14
              have hB14 : Below wA.heap.size wA w14 := hB12.trans (hj.grown (bel_al w12 _) hB12.size hg14)
              have hZ : WrQ wA.heap.size w14 v14 (usa ++ usp ++ [(.slice q0 0 q2, .slice q3 0 q5, false)]) := ⟨_, hz⟩
              generalize usa ++ usp ++ [((.slice q0 0 q2, .slice q3 0 q5, false) : V3)] = US at *
              obtain ⟨aZ, cZ, eZ, z1, z2, _⟩ := hZ.reads
              subst eZ
              unfold maxLen at z2
              clear hz hj13 hE13 hEg hB12 hj hoY hpY hrwY hrvY ho14 hg14 hv14 ho12 hg12 hv12 hE8 hEY hvB g0 g1 g2 f0 f1 f2
              go_wp2_with fail
              go_loopw [21, 22, 23] (fun i _ _ wo => ∃ k : Nat, k ≤ US.length ∧ i = .int .i64 k ∧ WrQ wA.heap.size wo (.slice aZ US.length cZ) US ∧ Below wA.heap.size wA wo) (fun i _ _ _ => US.length - (intOf i).toNat)
              case atStart => exact ⟨0, Nat.zero_le _, rfl, hZ, hB14⟩
              case round =>
                obtain ⟨k, hk, rfl, hZk, hBk⟩ := hrel
                generalize wr = wB at *
                clear hZ hB14
                by_cases hlk : k < US.length
                · obtain ⟨u, hu⟩ : ∃ u, US[k]? = some u := ⟨_, List.getElem?_eq_getElem hlk⟩
                  have hum := List.mem_of_getElem? hu
                  obtain ⟨p0, hp0⟩ := hZk.elem u hum
                  obtain ⟨⟨o1, n1, c1, eu1⟩, o2, n2, c2, eu2⟩ := hp0.sl
                  obtain ⟨⟨r1, r2, r3⟩, _⟩ := hZk.bytes1 hum eu1
                  obtain ⟨⟨t1, t2, t3⟩, _⟩ := hZk.bytes2 hum eu2
                  obtain ⟨gz, rfl⟩ : ∃ g, aZ = some ⟨g, 0, none⟩ := by obtain ⟨a, c, e, _, _, h4⟩ := hZk.reads; obtain ⟨g, e2, _⟩ := h4 k u hu; simp only [Value.slice.injEq] at e; exact ⟨g, by rw [e.1, e2]⟩
                  have KC : ∀ W, WrQ wA.heap.size W (.slice (some ⟨gz, 0, none⟩) US.length cZ) US → W.cell? ⟨gz, k * 3, none⟩ = some (.slice o1 n1 c1) ∧ W.cell? ⟨gz, k * 3 + 1, none⟩ = some (.slice o2 n2 c2) := fun W hW => by
                    obtain ⟨a, c, e, _, _, h4⟩ := hW.reads
                    obtain ⟨g, e2, q1, q2⟩ := h4 k u hu
                    simp only [Value.slice.injEq] at e
                    have e3 : (⟨gz, 0, none⟩ : Addr) = ⟨g, 0, none⟩ := Option.some.inj (e.1.trans e2)
                    simp only [Addr.mk.injEq, and_true] at e3
                    subst e3
                    rw [← eu1, ← eu2]
                    exact ⟨q1, q2⟩
                  have hki : (k : Int) < (US.length : Int) := by omega
                  clear hp0
                  go_wp2_with fail
                  go_loopw [22] (fun j W => ∃ jn : Nat, jn ≤ n1 ∧ j = .int .i64 jn ∧ WrQ wA.heap.size W (.slice (some ⟨gz, 0, none⟩) US.length cZ) US ∧ Below wA.heap.size wA W) (fun j _ => n1 - (intOf j).toNat)
                  case atStart => exact ⟨0, Nat.zero_le _, rfl, hZk, hBk⟩
                  case round =>
                    obtain ⟨jn, hj, rfl, hZj, hBj⟩ := hrel
                    generalize wr = wC at *
                    obtain ⟨c0, c1'⟩ := KC wC hZj
                    by_cases hjl : jn < n1
                    · obtain ⟨g1, z, rfl, hc, hfz, hbl⟩ := (hZj.bytes1 hum eu1).2 jn hjl
                      obtain ⟨hov1, hov2⟩ := hZj.over (j := jn) hum hbl
                      have HV : Hid _ := And.intro hov1 (hBj.trans hov2)
                      clear hov1 hov2 hZj hBj KC hZk hBk
                      have hji : (jn : Int) < (n1 : Int) := by omega
                      go_wp2_with fail
                      exact ⟨⟨jn + 1, by omega, by go_num, HV.out.1, HV.out.2⟩, by simp [intOf]; omega⟩
                    · obtain rfl : jn = n1 := by omega
                      go_wp2_with fail
                      go_loopw [23] (fun j W => ∃ jm : Nat, jm ≤ n2 ∧ j = .int .i64 jm ∧ WrQ wA.heap.size W (.slice (some ⟨gz, 0, none⟩) US.length cZ) US ∧ Below wA.heap.size wA W) (fun j _ => n2 - (intOf j).toNat)
                      case atStart => exact ⟨0, Nat.zero_le _, rfl, hZj, hBj⟩
                      case round =>
                        obtain ⟨jm, hj2, rfl, hZm, hBm⟩ := hrel
                        generalize wr = wD at *
                        obtain ⟨d0, d1'⟩ := KC wD hZm
                        clear c0 c1' hZj hBj hZk hBk
                        by_cases hjl2 : jm < n2
                        · obtain ⟨g1, z, rfl, hc, hfz, hbl⟩ := (hZm.bytes2 hum eu2).2 jm hjl2
                          obtain ⟨hov1, hov2⟩ := hZm.over (j := jm) hum hbl
                          have HV : Hid _ := And.intro hov1 (hBm.trans hov2)
                          clear hov1 hov2 hZm hBm KC
                          have hji : (jm : Int) < (n2 : Int) := by omega
                          go_wp2_with fail
                          exact ⟨⟨jm + 1, by omega, by go_num, HV.out.1, HV.out.2⟩, by simp [intOf]; omega⟩
                        · obtain rfl : jm = n2 := by omega
                          clear KC
                          go_wp2_with fail
                          exact ⟨⟨k + 1, by omega, by go_num, hZm, hBm⟩, by simp [intOf]; omega⟩
                · obtain rfl : k = US.length := by omega
                  go_wp2_with fail
                  exact ⟨⟨i0 + 1, by omega, by go_num, hb.trans (hBk.mono hbs)⟩, by simp [intOf]; omega⟩
      · obtain rfl : i0 = 2 := by omega
        go_wp2_with fail
        go_ret
        exact ⟨rfl, HK.out.trans (hb.mono hW5s)⟩
  · rw [hno] at hro
    go_wp2_with fail
    refine hro.mono ?_
    rintro e w4 ⟨hor4, hb4⟩
    rcases hor4 with ⟨qs, wv, us4, hqs, _, _⟩ | ⟨_, rfl⟩
    · cases hqs
    have hB4 : w.heap.size ≤ w4.heap.size := Nat.le_trans hB3 hb4.size
    have hR4 := hR3.next (hb4.mono hB3)
    have hs4 := hs2.next (Below.tr hb3 hb4)
    have hbk := back_new hs4 hR4 (by omega) hB1
    go_wp2_with fail
    refine hbk.mono ?_
    rintro e w5 ⟨rfl, hg5, hb5⟩
    go_wp2_with fail
    refine (tnum_any _ _).mono ?_
    rintro e w6 ⟨rfl, rfl⟩
    go_wp2_with fail
    go_ret
    exact ⟨rfl, ((hb1.trans (hb2.mono hB1)).trans ((Below.tr hb3 hb4).mono hB2)).trans hb5⟩
end Go.Proofs.Ytdaedglfefkeoaa
