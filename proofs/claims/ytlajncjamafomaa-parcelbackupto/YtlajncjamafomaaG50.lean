/- Proved here: ParcelBack answers true for all bytes, every size, order and turn, where what is read is of bulk at most 1048576. -/
import Derived.Test.YtlajncjamafomaaG49
namespace Go.Proofs.Ytlajncjamafomaa
open Go.RowKit Go.Maps
set_option linter.unusedVariables false
set_option maxRecDepth 100000

/-- What the rounds keep: the parts that have come, those that were asked for, how many are left. -/
structure BkI (b : List UInt8) (sz o : Nat) (i kk lf : Nat) (ps : List (Nat × List UInt8)) (fb : List Bool) : Prop where
  pb : PB b sz kk ps
  fl : fb.length = pkM b.length sz
  fa : ∀ j x, fb[j]? = some x → x = (lkP ps j).isSome
  lf : lf + ps.length = pkM b.length sz
  cov : ∀ j, o + j < i → j < pkM b.length sz → (lkP ps j).isSome = true
theorem BkI.nil (b : List UInt8) (sz o : Nat) : BkI b sz o 0 0 (pkM b.length sz) [] (List.replicate (pkM b.length sz) false) := by
  refine ⟨PB.nil _ _, by simp, fun j x e => ?_, by simp, fun j h => by omega⟩
  rw [List.getElem?_replicate] at e
  split at e
  · exact (Option.some.inj e).symm
  · cases e
theorem BkI.put {b : List UInt8} {sz o i kk lf : Nat} {ps : List (Nat × List UInt8)} {fb : List Bool} (h : BkI b sz o i kk lf ps fb) (hs : 0 < sz) (hb : b.length ≤ 1048576) {k : Nat} (hk : k < pkM b.length sz) (hc : o ≤ i → i - o < pkM b.length sz → k = i - o) (lf' : Nat) (hl' : (lkP ps k).isSome = true ∧ lf' = lf ∨ (lkP ps k).isSome = false ∧ lf' + 1 = lf) :
    bxPut (M.crc b) b.length kk ps (pkR (pkI b sz k)) = ((pkM b.length sz, putP ps k (pkP b sz k)), 0) ∧ BkI b sz o (i + 1) (pkM b.length sz) lf' (putP ps k (pkP b sz k)) (fb.set k true) := by
  obtain ⟨e, b1⟩ := h.pb.put hs hb hk
  refine ⟨e, b1, by rw [List.length_set]; exact h.fl, fun j x q => ?_, ?_, fun j h1 h2 => ?_⟩
  · rw [putP_lk]
    rw [List.getElem?_set] at q
    by_cases ej : k = j
    · subst ej
      rw [if_pos rfl] at q
      split at q
      · rw [← Option.some.inj q]; simp
      · cases q
    · rw [if_neg ej] at q
      rw [h.fa j x q, decide_eq_false (fun q2 => ej q2.symm)]; simp
  · rw [putP_len]
    have := h.lf
    rcases hl' with ⟨q1, q2⟩ | ⟨q1, q2⟩
    · rw [q1]; simp only [if_true]; omega
    · rw [q1]; simp only [Bool.false_eq_true, if_false]; omega
  · rw [putP_lk]
    by_cases ej : j = k
    · rw [decide_eq_true ej]; rfl
    · have : o + j < i := by
        by_cases q : o + j < i
        · exact q
        · have e1 : o + j = i := by omega
          exact absurd (hc (by omega) (by omega)) (by omega)
      rw [h.cov j this h2]; simp

theorem Oj.cellG {B g n c : Nat} {w : World} {l : List Int} (h : Oj B w (.slice (some ⟨g, 0, none⟩) n c) l) {i : Nat} {x : Int} (e : l[i]? = some x) : w.cell? ⟨g, i, none⟩ = some (.int .i64 x) := by
  have hi := (List.getElem?_eq_some_iff.1 e).1
  rcases h.blk with ⟨q, _⟩ | ⟨g', c', q, _, _, _, _, hc, _⟩
  · cases q
  · simp only [Value.slice.injEq, Option.some.injEq, Addr.mk.injEq, and_true] at q
    rw [q.1, hc i hi]
    rw [List.getElem?_eq_getElem hi] at e
    rw [Option.some.inj e]
theorem Ow.cellG {B g n c : Nat} {w : World} {l : List UInt8} (h : Ow B w (.slice (some ⟨g, 0, none⟩) n c) l) {i : Nat} {x : UInt8} (e : l[i]? = some x) : w.cell? ⟨g, i, none⟩ = some (.int .u8 (x.toNat : Int)) ∧ w.frozen? ⟨g, i, none⟩ = false := by
  have hi := (List.getElem?_eq_some_iff.1 e).1
  have h' := h
  rcases h.2 with ⟨q, _⟩ | ⟨g', cap, cur, q, hg, hh, hn, hcap, hsz, htake⟩
  · cases q
  · simp only [Value.slice.injEq, Option.some.injEq, Addr.mk.injEq, and_true] at q
    obtain ⟨rfl, rfl, rfl⟩ := q
    unfold Ow at h'
    refine ⟨?_, frozen_of_row _ _ _ _ _ hh⟩
    rw [h'.cellAt i (by omega), cel_get l i hi]
    rw [List.getElem?_eq_getElem hi] at e
    rw [Option.some.inj e]

set_option maxHeartbeats 8000000 in
theorem back_walk {vb vo : Value} {b : List UInt8} {order : List Int} {w : World} (hrb : Rd w vb b) (hlb : b.length ≤ 1048576) (z : Int) (hz : -9223372036854775808 ≤ z ∧ z ≤ 9223372036854775807) (hro : Rj w vo order) (hlo : order.length ≤ 1048576) (z2 : Int) (hz2 : -9223372036854775808 ≤ z2 ∧ z2 ≤ 9223372036854775807) :
    Calls Try.prog 5 #[vb, .int .i64 z, vo, .int .i64 z2] w fun e w' => e = .returned (.bool true) ∧ Below w.heap.size w w' := by
  obtain ⟨ab, cb, rfl, _⟩ := id hrb
  obtain ⟨ao, co, rfl, _⟩ := id hro
  have haw := pawake_any w
  by_cases c1 : 3000 < b.length
  · have d1 : (3000 : Int) < (b.length : Int) := by omega
    go_enter Try.func5, Try.ntmps5
    go_wp2_with fail
    refine haw.mono ?_
    rintro e w1 ⟨rfl, hb1⟩
    go_wp2_with fail
    go_ret
    exact ⟨rfl, hb1⟩
  have d1 : ¬ (3000 : Int) < (b.length : Int) := by omega
  obtain ⟨m, hm, hand⟩ := and62 z
  obtain ⟨m2, hm2, hand2⟩ := and62 z2
  obtain ⟨sz, hsz⟩ : ∃ sz, 1 + m % 500 = sz := ⟨_, rfl⟩
  have hsz1 : 0 < sz := by omega
  have hsz2 : sz ≤ 500 := by omega
  have hrem : (m : Int) % 500 = ((m % 500 : Nat) : Int) := by omega
  have hadd : (1 : Int) + ((m % 500 : Nat) : Int) = (sz : Int) := by omega
  generalize m % 500 = r at *
  have hr500 : r < 500 := by omega
  have HSZ : Hid _ := hsz
  clear hsz
  have hMb := pkM_le b.length sz hsz1
  have hM1 : 1 ≤ pkM b.length sz := by unfold pkM; omega
  have hcr := M.crc_lt b
  obtain ⟨i0, hi0, hz0, hz1, hzz2⟩ := info_parts Try.infoBo
  obtain ⟨r4, hr4⟩ : ∃ r4, m2 % 4 = r4 := ⟨_, rfl⟩
  have hr4l : r4 < 4 := by omega
  have hr4i : (m2 : Int) % 4 = (r4 : Int) := by omega
  clear hr4
  have hNIL := BkI.nil b sz order.length
  generalize hMe : pkM b.length sz = Mb at *
  have HM : Hid (pkM b.length sz = Mb) := hMe
  have HNIL : Hid (BkI b sz order.length 0 0 Mb [] (List.replicate Mb false)) := hNIL
  clear hMe hNIL
  go_enter Try.func5, Try.ntmps5
  go_wp2_with fail
  refine haw.mono ?_
  rintro e w1 ⟨rfl, hb1⟩
  have hpb := pack_ok (hrb.below hb1 (Nat.le_refl _)) (by omega) (size := sz) hsz1 (by omega)
  go_wp2_with fail
  refine hpb.mono ?_
  rintro e wp ⟨pv, us, rfl, hos, hbp⟩
  obtain ⟨gp, cp, ev, hgp, hcp1, hcp2, hpsb⟩ := hos.pieces
  rw [HM.out] at ev hcp1
  subst ev
  have hBp := hb1.trans (hbp.mono hb1.size)
  have hsm := sum_any (hrb.below hBp (Nat.le_refl _))
  clear hos hpb haw hbp hb1
  go_wp2_with fail
  refine hsm.mono ?_
  rintro e ws ⟨rfl, js, rfl⟩
  have hB3 := below_drewN hBp js
  have HPS : Hid (PsAt b sz gp (wp.drewN js) ∧ Rd (wp.drewN js) (.slice ab b.length cb) b ∧ Below w.heap.size w (wp.drewN js)) := ⟨hpsb.below (Below.dN _ _) (Nat.le_refl _), hrb.below hB3 (Nat.le_refl _), hB3⟩
  have hro3 := hro.below hB3 (Nat.le_refl _)
  generalize wp.drewN js = W3 at *
  clear hpsb hsm hB3 hBp hrb hro
  have hnb := newBox_ok (M.crc b) b.length hcr (by omega) W3
  go_wp2_with fail
  refine hnb.mono ?_
  rintro e w4 ⟨d, rfl, HBX, HBW⟩
  have hMi0 : ((Mb : Int) == 0) = false := by simp; omega
  clear hnb
  go_wp2_with (first
    | (at_make; refine wpList_make_full _ rfl _ _ 57 rfl w4.heap.size 4 i0 _ 1 Try.underlying57 hi0 hz0 hz1 _ _ _ _ Mb rfl rfl (by omega) (by omega) (by rw [hzz2]; omega) (by unfold maxLen; omega) (Nat.le_refl _) ?_; intro w5 hown5 hgr5; have hro5 : Rj w5 (.slice ao order.length co) order := hro3.below (HBW.trans (((Below.refl _ _).grown hgr5 HBW.size (fun q hq => by cases hq)))) (Nat.le_refl _))
    | (at_builtin; refine wpList_appJ rfl _ _ rfl w5.heap.size _ [] rfl (Oj.nil _ _) _ order rfl hro5 (Nat.le_refl _) (by simp; omega) ?_; intro va w6 hoa6 hg6 _)
    | fail)
  have hb45 : Below w4.heap.size w4 w5 := (Below.refl _ _).grown hgr5 (Nat.le_refl _) (fun q hq => by cases hq)
  have hbo5 : BoR w4.heap.size (List.replicate Mb false) w5 := by
    rcases hown5.2 with ⟨q, _⟩ | ⟨g, cap, cur, q, hg, hh, q1, q2, q3, q4⟩
    · cases q
    · simp only [Value.slice.injEq, Option.some.injEq, Addr.mk.injEq, and_true, true_and] at q
      obtain ⟨rfl, rfl⟩ := q
      unfold BoR
      rw [hh]
      congr 2
      apply Array.ext'
      have e : (madeCells (Value.bool false).cells (Mb * 1)).toList = List.replicate Mb (Value.bool false) := by
        rw [show (Value.bool false).cells = #[Value.bool false] from rfl, toList_madeCells_one]
        (try simp)
      rw [e] at q4
      rw [List.take_of_length_le (by simp [q3])] at q4
      rw [q4]
      simp
  have hz5 : w4.heap.size < w5.heap.size := (Array.getElem?_eq_some_iff.1 hbo5).1
  have hb56 : Below w5.heap.size w5 w6 := (Below.refl _ _).grown hg6 (Nat.le_refl _) (fun q hq => by cases hq)
  clear hown5 hgr5 hg6 hro3 hro5
  have hoa0 : Oj w5.heap.size w6 va (order ++ (List.range 0).map (fun (i : Nat) => (i : Int))) := by simpa using hoa6
  go_loopw [15, 16] (fun al x wr => ∃ k : Nat, k ≤ Mb ∧ x = .int .i64 k ∧ Oj w5.heap.size wr al (order ++ (List.range k).map (fun (i : Nat) => (i : Int))) ∧ Below w5.heap.size w5 wr) (fun _ x _ => Mb - (intOf x).toNat)
  case atStart => exact ⟨0, Nat.zero_le _, rfl, hoa0, hb56⟩
  case round =>
    clear hoa0 hb56 hoa6
    obtain ⟨k, hk, rfl, hoal, hbw⟩ := hrel
    by_cases hlt : k < Mb
    · have hlt' : (k : Int) < (Mb : Int) := by omega
      have hll : (order ++ (List.range k).map (fun (i : Nat) => (i : Int))).length ≤ 2097152 := by simp; omega
      have hsn : (order ++ (List.range k).map (fun (i : Nat) => (i : Int))) ++ [(k : Int)] = order ++ (List.range (k + 1)).map (fun (i : Nat) => (i : Int)) := by rw [List.range_succ]; simp
      generalize hcu : order ++ (List.range k).map (fun (i : Nat) => (i : Int)) = cu at *
      have HSN : Hid _ := And.intro hsn hcu
      clear hsn hcu
      have hone := rj_one wr (k : Int) (k : Int) rfl 3 _ rfl
      have hoala := hoal.alloc (.cells #[.int .i64 (k : Int)] 3)
      have hB2 : w5.heap.size ≤ (wr.alloc (.cells #[.int .i64 (k : Int)] 3)).heap.size := by have := hbw.size; simp; omega
      go_wp2_with (first | (at_builtin; refine wpList_appJ rfl _ _ rfl w5.heap.size _ cu rfl hoala _ [(k : Int)] rfl hone hB2 (by simp; omega) ?_; intro v3 w3 ho3 hg3 hv3) | fail)
      have hb3 : Below w5.heap.size (wr.alloc (.cells #[.int .i64 (k : Int)] 3)) w3 := (Below.refl _ _).grown hg3 hB2 (fun q hq => (hoala.lt q hq).1)
      rw [HSN.out.1] at ho3
      exact ⟨⟨k + 1, by omega, by go_num, ho3, (hbw.alloc hbw.size _).trans hb3⟩, by simp [intOf]; omega⟩
    · obtain rfl : k = Mb := by omega
      generalize hAL : order ++ (List.range k).map (fun (i : Nat) => (i : Int)) = AL at *
      have hALl : AL.length = order.length + k := by rw [← hAL]; simp
      have hALt : ∀ j, j < k → AL[order.length + j]? = some (j : Int) := fun j hj => by
        rw [← hAL, List.getElem?_append_right (by omega)]
        simp [hj]
      rcases hoal.blk with ⟨_, q⟩ | ⟨ga, ca, eal, hca1, hca2, hga1, hga2, hcell, hfrz⟩
      · rw [q] at hALl; simp at hALl; omega
      obtain ⟨L, hL⟩ : ∃ L, AL.length = L := ⟨_, rfl⟩
      rw [hL] at eal hca1 hALl
      unfold maxLen at hca2
      subst eal
      have hLb : L ≤ 2097152 := by omega
      have HAL : Hid ((∀ j, j < k → AL[order.length + j]? = some (j : Int)) ∧ AL.length = L ∧ L = order.length + k) := ⟨hALt, hL, hALl⟩
      clear hALt hL hALl hAL hcell hfrz
      have hbx6 : Bx W3.heap.size w4.heap.size d (M.crc b) b.length 0 [] wr := (HBX.below hb45 (Nat.le_refl _)).below hbw (by omega)
      have hbo6 : BoR w4.heap.size (List.replicate k false) wr := (hbw.block _ (by omega)).trans hbo5
      have hb6 : Below W3.heap.size W3 wr := HBW.trans ((hb45.trans (hbw.mono (by omega))).mono HBW.size)
      have HZ : Hid (W3.heap.size ≤ w4.heap.size) := HBW.size
      clear HBX HBW hbo5 hb45
      generalize wr = W6 at *
      go_wp2_with fail
      go_loopw [14, 17, 18, 19, 20, 21] (fun lv x _ _ _ _ wr => ∃ (i kk lf : Nat) (ps : List (Nat × List UInt8)) (fb : List Bool), i ≤ L ∧ x = .int .i64 i ∧ lv = .int .i64 lf ∧ Hid (BkI b sz order.length i kk lf ps fb) ∧ Bx W3.heap.size w4.heap.size d (M.crc b) b.length kk ps wr ∧ BoR w4.heap.size fb wr ∧ Oj w5.heap.size wr (.slice (some ⟨ga, 0, none⟩) L ca) AL ∧ Below W3.heap.size W3 wr) (fun _ x _ _ _ _ _ => L - (intOf x).toNat)
      case atStart => exact ⟨0, 0, k, [], _, Nat.zero_le _, rfl, rfl, HNIL.out, hbx6, hbo6, hoal, hb6⟩
      case round =>
        clear hbx6 hbo6 hoal hb6 hbw
        obtain ⟨i, kk, lf, ps, fb, hiL, rfl, rfl, HBI, hbx, hbo, hoa, hbw⟩ := hrel
        have hpsl : ps.length < 2199023255552 := by have := HBI.out.lf; rw [HM.out] at this; omega
        have hlfk : lf ≤ k := by have := HBI.out.lf; rw [HM.out] at this; omega
        by_cases hlt2 : i < L
        · have hlt2' : (i : Int) < (L : Int) := by omega
          obtain ⟨zi, hzi⟩ : ∃ zi, AL[i]? = some zi := ⟨_, List.getElem?_eq_getElem (by rw [HAL.out.2.1]; exact hlt2)⟩
          obtain ⟨mi, hmi, handi⟩ := and62 zi
          obtain ⟨K, hK⟩ : ∃ K, mi % k = K := ⟨_, rfl⟩
          have hKl : K < k := by rw [← hK]; exact Nat.mod_lt _ (by omega)
          have hKi : (mi : Int) % (k : Int) = (K : Int) := by rw [← hK, Int.natCast_emod]
          have hcov : order.length ≤ i → i - order.length < pkM b.length sz → K = i - order.length := fun q1 q2 => by
            rw [HM.out] at q2
            have h1 := HAL.out.1 (i - order.length) q2
            rw [show order.length + (i - order.length) = i by omega, hzi] at h1
            have h2 : zi = ((i - order.length : Nat) : Int) := Option.some.inj h1
            have h3 := and62n (i - order.length) (by omega)
            rw [← h2, handi] at h3
            have h4 : mi = i - order.length := by omega
            rw [← hK, h4]
            exact Nat.mod_eq_of_lt q2
          have HCOV : Hid _ := hcov
          clear hcov hK
          have hdn := HBI.out.pb.done hsz1
          rw [HM.out] at hdn
          obtain ⟨okb, hokb⟩ : ∃ okb, decide (ps.length = k) = okb := ⟨_, rfl⟩
          have e1 : ((lf : Int) == 0) = okb := by
            have := HBI.out.lf
            rw [HM.out] at this
            rw [← hokb]
            by_cases q : ps.length = k
            · have : lf = 0 := by omega
              rw [decide_eq_true q, this]; rfl
            · rw [decide_eq_false q]; simp; omega
          have e2 : (okb != okb) = false := by simp
          have e2' : (okb == okb) = true := by simp
          have hdo : Calls Try.prog 24 #[.pointer (some ⟨d, 0, none⟩)] wr fun e w' => ∃ v, e = .returned (.tuple #[v, .bool okb]) ∧ Below wr.heap.size wr w' := by
            refine (done_any14 hbx hpsl).mono ?_
            rintro e w' ⟨v, rfl, ho, hb'⟩
            refine ⟨v, ?_, hb'⟩
            rw [hdn, ← hokb]
            by_cases q : ps.length = k
            · rw [if_pos q, decide_eq_true q]; rfl
            · rw [if_neg q, decide_eq_false q]; rfl
          clear hdn hokb
          obtain ⟨A, x, y, hA, hx, hxor, hbad⟩ := pkI_turn b sz K r4 hr4l hlb
          have hFl := pkI_flen b sz K
          have hvp := M.vi_pos (pkRow b sz K).length
          have hFle := pkI_len b sz K hlb
          obtain ⟨n, hn⟩ : ∃ n, (pkI b sz K).length = n := ⟨_, rfl⟩
          rw [hn] at hA hFl hFle
          have hn4 : (4 : Int) < (n : Int) := by omega
          have hn4' : 4 < n := by omega
          have hAi : (n : Int) - 1 - (r4 : Int) = (A : Int) := by omega
          have hAn : A < n := by omega
          have hAni : (A : Int) < (n : Int) := by omega
          have hA0 : (0 : Int) ≤ (A : Int) := by omega
          have hpsW : PsAt b sz gp wr := HPS.out.1.below hbw (Nat.le_refl _)
          have HTN : Hid (pkR ((pkI b sz K).set A y) = (pk0, 11) ∧ (pkI b sz K).length = n ∧ (pkI b sz K)[A]? = some x ∧ A + 1 + r4 = n) := ⟨hbad, hn, hx, hA⟩
          clear hbad hn hx hA hFl hvp
          have hgl : w4.heap.size < wr.heap.size := (Array.getElem?_eq_some_iff.1 hbo).1
          go_wp2_with fail
          refine hdo.mono ?_
          rintro e wa ⟨va', rfl, hba⟩
          have hca := (hoa.below hba (Nat.le_refl _)).cellG hzi
          obtain ⟨aK, nK, xK, hcK, hrK⟩ := (hpsW.below hba (Nat.le_refl _)) K (by rw [HM.out]; exact hKl)
          have hcp := lcopy_any hrK (by rw [HTN.out.2.1]; omega)
          clear hdo
          go_wp2_with fail
          refine hcp.mono ?_
          rintro e wb ⟨vs, rfl, hos, hbb⟩
          obtain ⟨gs, cs, evs, hgs, hcs1, hcs2⟩ := hos.at (by rw [HTN.out.2.1]; omega)
          rw [HTN.out.2.1] at evs hcs1
          unfold maxLen at hcs2
          subst evs
          obtain ⟨hcA, hfA⟩ := hos.cellG HTN.out.2.2.1
          have hput := hos.put HTN.out.2.1.symm A y _ rfl
          have hchs : Chg (fun q => q = gs) wb (wb.setCell ⟨gs, A, none⟩ (.int .u8 (y.toNat : Int))) := (Chg.refl (fun q => q = gs) wb).put gs A _ rfl
          have hbac : Below wa.heap.size wa (wb.setCell ⟨gs, A, none⟩ (.int .u8 (y.toNat : Int))) := hbb.trans (hchs.below (fun q e => by omega) hbb.size)
          have hbrc := hba.trans (hbac.mono hba.size)
          have hbxc := hbx.below hbrc (Nat.le_refl _)
          have hpb1 := put_any hbxc hput.rd (by rw [List.length_set]; have := HTN.out.2.1; omega) hpsl
          rw [HTN.out.1, bxPut_bad] at hpb1
          have HC : Hid _ := And.intro hput (And.intro hbrc hbxc)
          clear hput hchs hbac hbxc hcp hos
          go_wp2_with fail
          refine hpb1.mono ?_
          rintro e wd ⟨rfl, hbxd, hchd⟩
          have hbrc := HC.out.2.1
          have hbwc := hbw.trans (hbrc.mono hbw.size)
          have hbwd := hbwc.trans (hchd.below (fun q h => h.1) hbwc.size)
          obtain ⟨aL, nL, xL, hcL, hrL⟩ := (HPS.out.1.below hbwd (Nat.le_refl _)) K (by rw [HM.out]; exact hKl)
          have hbor : BoR w4.heap.size fb wd := by
            unfold BoR
            rw [hchd.block _ (Nat.lt_of_lt_of_le hgl hbrc.size) (fun h => by omega), hbrc.block _ hgl]
            exact hbo
          have hoad : Oj w5.heap.size wd (.slice (some ⟨ga, 0, none⟩) L ca) AL := ownsRow_keptC (hoa.below hbrc (Nat.le_refl _)) hchd (fun q e h => by have := (hoa.lt q e).1; omega)
          obtain ⟨fk, hfk⟩ : ∃ fk, fb[K]? = some fk := ⟨_, List.getElem?_eq_getElem (by rw [HBI.out.fl, HM.out]; exact hKl)⟩
          have hfka := HBI.out.fa K fk hfk
          obtain ⟨lf', hlf'⟩ : ∃ lf', (lkP ps K).isSome = true ∧ lf' = lf ∨ (lkP ps K).isSome = false ∧ lf' + 1 = lf := by
            cases hq : (lkP ps K).isSome with
            | true => exact ⟨lf, .inl ⟨rfl, rfl⟩⟩
            | false =>
              have hlen := HBI.out.lf
              have : ps.length < pkM b.length sz := by
                have h1 := HBI.out.pb.len
                by_cases q : ps.length = pkM b.length sz
                · exfalso
                  have hfull := rsP_full HBI.out.pb.rs (fun x hx => (HBI.out.pb.mem x hx).1) q
                  have hKp : K < ps.length := by rw [q, HM.out]; exact hKl
                  have e3 := hfull K ps[K] (by simp [hKp])
                  have hmem : (K, ps[K].2) ∈ ps := by
                    have : (K, ps[K].2) = ps[K] := Prod.ext e3.symm rfl
                    rw [this]; exact List.getElem_mem hKp
                  rw [lkP_of_mem HBI.out.pb.rs hmem] at hq
                  cases hq
                · omega
              exact ⟨lf - 1, .inr ⟨rfl, by omega⟩⟩
          obtain ⟨eput, hbi2⟩ := HBI.out.put hsz1 hlb (by rw [HM.out]; exact hKl) HCOV.out lf' hlf'
          have hpb2 := put_any hbxd hrL (pkI_len b sz K hlb) hpsl
          rw [eput, HM.out] at hpb2
          rw [HM.out] at hbi2
          have HBI2 : Hid _ := hbi2
          clear hpb1 eput hbi2 hbxd
          go_wp2_with fail
          refine hpb2.mono ?_
          rintro e we ⟨rfl, hbxe, hche⟩
          have hboe : BoR w4.heap.size fb we := by
            unfold BoR
            rw [hche.block _ (Array.getElem?_eq_some_iff.1 hbor).1 (fun h => by omega)]
            exact hbor
          have hoae : Oj w5.heap.size we (.slice (some ⟨ga, 0, none⟩) L ca) AL := ownsRow_keptC hoad hche (fun q e h => by have := (hoad.lt q e).1; omega)
          have hbwe := hbwd.trans (hche.below (fun q h => h.1) hbwd.size)
          obtain ⟨hcF, hfF⟩ := hboe.at K fk hfk
          have hchf : Chg (fun q => q = w4.heap.size) we (we.setCell ⟨w4.heap.size, K, none⟩ (.bool true)) := (Chg.refl (fun q => q = w4.heap.size) we).put w4.heap.size K _ rfl
          have HFIN : Hid (BoR w4.heap.size (fb.set K true) (we.setCell ⟨w4.heap.size, K, none⟩ (.bool true)) ∧ Bx W3.heap.size w4.heap.size d (M.crc b) b.length k (putP ps K (pkP b sz K)) (we.setCell ⟨w4.heap.size, K, none⟩ (.bool true)) ∧ Oj w5.heap.size (we.setCell ⟨w4.heap.size, K, none⟩ (.bool true)) (.slice (some ⟨ga, 0, none⟩) L ca) AL ∧ Below W3.heap.size W3 (we.setCell ⟨w4.heap.size, K, none⟩ (.bool true))) :=
            ⟨hboe.put K true, hbxe.keptT hboe (by decide) (Nat.le_refl _) hchf, ownsRow_keptC hoae hchf (fun q e h => by have := (hoae.lt q e).1; omega), hbwe.trans (hchf.below (fun q e => by have := HZ.out; omega) hbwe.size)⟩
          have HLF : Hid _ := And.intro hlf' hfka
          clear hpb2 hboe hoae hchf hbor hoad hbxe hoa hbo hfk
          cases fk with
          | true =>
            obtain rfl : lf' = lf := by
              rcases HLF.out.1 with ⟨_, q⟩ | ⟨q, _⟩
              · exact q
              · rw [q] at hfka; cases hfka
            clear hlf' hfka
            go_wp2_with fail
            exact ⟨⟨i + 1, k, lf', _, _, by omega, by go_num, rfl, HBI2.out, HFIN.out.2.1, HFIN.out.1, HFIN.out.2.2.1, HFIN.out.2.2.2⟩, by simp [intOf]; omega⟩
          | false =>
            have hlf1 : lf' + 1 = lf := by
              rcases HLF.out.1 with ⟨q, _⟩ | ⟨_, q⟩
              · rw [q] at hfka; cases hfka
              · exact q
            have hlfi : (lf : Int) - 1 = (lf' : Int) := by omega
            have hlfb : (lf : Int) ≤ 4000 := by omega
            have hlfn : (1 : Int) ≤ (lf : Int) := by omega
            have HL1 : Hid _ := hlf1
            clear hlf' hfka hlf1
            go_wp2_with fail
            exact ⟨⟨i + 1, k, lf', _, _, by omega, by go_num, rfl, HBI2.out, HFIN.out.2.1, HFIN.out.1, HFIN.out.2.2.1, HFIN.out.2.2.2⟩, by simp [intOf]; omega⟩
        · obtain rfl : i = L := by omega
          have hall := HBI.out.pb.all (fun j hj => HBI.out.cov j (by rw [HM.out] at hj; have := HAL.out.2.2; omega) hj)
          have hdn := HBI.out.pb.done hsz1
          rw [if_pos hall.1] at hdn
          have hdo := done_any14 hbx hpsl
          rw [hdn] at hdo
          have HMS : Hid _ := hall.2
          clear hall hdn
          go_wp2_with fail
          refine hdo.mono ?_
          rintro e w8 ⟨v8, rfl, ho8, hb8⟩
          have hB8 := hbw.trans (hb8.mono hbw.size)
          have hsame := same_any ho8.rd (HPS.out.2.1.below hB8 (Nat.le_refl _))
          rw [decide_eq_true (show (some b : Option (List UInt8)).getD [] = b from rfl)] at hsame
          go_wp2_with fail
          refine hsame.mono ?_
          rintro e w9 ⟨rfl, j9, rfl⟩
          have hB9 : Below wr.heap.size wr (w8.drewN j9) := below_drewN hb8 j9
          have hms := missing_any (hbx.below hB9 (Nat.le_refl _)) hpsl
          rw [HMS.out] at hms
          generalize w8.drewN j9 = W9 at *
          go_wp2_with fail
          refine hms.mono ?_
          rintro e w10 ⟨v10, rfl, ho10, hb10⟩
          obtain ⟨a10, c10, e10⟩ := ho10.shape
          subst e10
          go_wp2_with fail
          go_ret
          refine ⟨rfl, ?_⟩
          have hBz := hbw.trans ((hB9.trans (hb10.mono hB9.size)).mono hbw.size)
          exact HPS.out.2.2.trans (hBz.mono HPS.out.2.2.size)
end Go.Proofs.Ytlajncjamafomaa
