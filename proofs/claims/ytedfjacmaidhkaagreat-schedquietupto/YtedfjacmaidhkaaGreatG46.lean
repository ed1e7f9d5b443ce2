/- The statement SchedQuiet, walked. -/
import Derived.Test.YtedfjacmaidhkaaGreatG45
import Derived.Test.YtedfjacmaidhkaaGreatG2
namespace Go.Proofs.YtedfjacmaidhkaaGreat
open Go.RowKit Go.Maps
set_option linter.unusedVariables false
set_option linter.unusedSimpArgs false
set_option maxRecDepth 100000

def bzT (r : RV) : RV := { r with bz := true }
theorem It9.bz {w : World} {r : RV} (h : It9 w r) : It9 w (bzT r) := ⟨h.s, h.e, h.p⟩
theorem sK_bz (l : List RV) : sK (l.map bzT) = sK l := by
  unfold sK; rw [List.map_map]; rfl
/-- What even regions lie in. -/
structure EvM (B : Nat) (w : World) (r : RV) : Prop where
  s : Ow B w (.slice r.sa r.s.length r.sc) r.s
  e : Ow B w (.slice r.ea r.e.length r.ec) r.e
  p : OwPe B w (.slice r.pa r.ps.length r.pc) r.ps
theorem EvM.it {B : Nat} {w : World} {r : RV} (h : EvM B w r) : It9 w r := ⟨h.s.rd, h.e.rd, h.p.rd⟩
theorem EvM.below {B : Nat} {w w' : World} {r : RV} (h : EvM B w r) (hb : Below w.heap.size w w') : EvM B w' r := ⟨h.s.below hb (Nat.le_refl _), h.e.below hb (Nat.le_refl _), h.p.below hb (Nat.le_refl _)⟩
theorem EvM.next {B : Nat} {w w' : World} {r : RV} {S : Nat → Prop} (h : EvM B w r) (hc : Chg S w w') (hS : ∀ g, S g → g < w.heap.size → ∃ cs t fr, w.heap[g]? = some (.cells cs t fr) ∧ t ≠ 5 ∧ t ≠ 44) : EvM B w' r := by
  refine ⟨ownsRow_keptC h.s hc (fun g q1 q2 => ?_), ownsRow_keptC h.e hc (fun g q1 q2 => ?_), ownsRow_keptC h.p hc (fun g q1 q2 => ?_)⟩
  · obtain ⟨cs, t, fr, e, n1, n2⟩ := hS g q2 (World.ownsRow.lt h.s g q1).2
    obtain ⟨_, cs', fr', e'⟩ := row_blk h.s q1
    rw [e] at e'; have := Option.some.inj e'; simp only [Obj.cells.injEq] at this; exact n1 this.2.1
  · obtain ⟨cs, t, fr, e, n1, n2⟩ := hS g q2 (World.ownsRow.lt h.e g q1).2
    obtain ⟨_, cs', fr', e'⟩ := row_blk h.e q1
    rw [e] at e'; have := Option.some.inj e'; simp only [Obj.cells.injEq] at this; exact n1 this.2.1
  · obtain ⟨cs, t, fr, e, n1, n2⟩ := hS g q2 (World.ownsRow.lt h.p g q1).2
    obtain ⟨_, cs', fr', e'⟩ := row_blk h.p q1
    rw [e] at e'; have := Option.some.inj e'; simp only [Obj.cells.injEq] at this; exact n2 this.2.1
set_option maxRecDepth 512 in
theorem allS_small (s : Nat) (hk : s ≤ 6) : (allS (s - 1)).length + 1 ≤ 1099511627776 := by
  have := allS_len (s - 1)
  omega
set_option maxRecDepth 512 in
theorem evPs_small (s k : Nat) (hk : k ≤ 6) : (evPs s (k - 1)).length + 1 ≤ 1099511627776 := by
  have := evPs_len s (k - 1)
  omega
theorem ev_num (s k : Nat) (hs : s ≤ 6) (hk : k ≤ 6) : 10 * (s : Int) + (k : Int) = ((UInt64.ofNat (10 * s + k)).toNat : Int) := by
  rw [UInt64.toNat_ofNat']; omega
theorem OwPe.monoQ {B C : Nat} {w : World} {v : Value} {l : List Pe} (h : OwPe C w v l) (hB : B ≤ C) : OwPe B w v l := by
  refine ⟨h.1, ?_⟩
  rcases h.2 with q | ⟨g, cap, cur, e, h1, r⟩
  · exact .inl q
  · exact .inr ⟨g, cap, cur, e, Nat.le_trans hB h1, r⟩
theorem rdpe_z {w : World} {g : Nat} {z : Int} {p : Pe} (h : w.heap[g]? = some (.cells #[.int .u64 z, .int .i64 p.2.1, .bool p.2.2] 44 (0, 0))) (hz : z = (p.1.toNat : Int)) : RdPe w (.slice (some ⟨g, 0, none⟩) 1 1) [p] := by
  subst hz; exact rdpe_1 h
set_option maxHeartbeats 8000000 in
theorem quiet_walk {v1 v2 : Value} {ss : List Sw} {rs : List RV} {w : World} (a b c n0 : Int) (h1 : RdSw w v1 ss) (h2 : RdRv w v2 rs) (hl1 : ss.length ≤ 1048576) (hl2 : (rs.map (fun r => r.ps.length)).sum + rs.length ≤ 1048576) (hok : ∀ r ∈ rs, (∀ q ∈ r.ps, i64 q.2.1) ∧ i64 r.ld) :
    Calls Tryz.prog 7 #[.agg #[.int .i64 a, .int .i64 b, .int .i64 c], v1, v2, .int .i64 n0] w fun e w' => e = .returned (.bool true) ∧ Below w.heap.size w w' := by
  have hb0 := ob_al w (.cells #[.int .i64 a, .int .i64 b, .int .i64 c] 23)
  have hk0 := heap_new w (.cells #[.int .i64 a, .int .i64 b, .int .i64 c] 23)
  have haw := fun W => awake_any W
  have HR : Hid (RdRv w v2 rs) := h2
  have HS : Hid (RdSw w v1 ss) := h1
  have HOK : Hid _ := hok
  have HSK : Hid (sK rs ≤ 2097152 ∧ rs.length ≤ 1048576 ∧ ∀ r ∈ rs, r.ps.length ≤ 1048576) := by
    have e : ∀ l : List RV, sK l = (l.map (fun r => r.ps.length)).sum + 2 * l.length := fun l => by
      induction l with
      | nil => rfl
      | cons x t ih => simp only [sK, List.map_cons, List.sum_cons, List.length_cons] at *; omega
    have m : ∀ l : List RV, ∀ r ∈ l, r.ps.length ≤ (l.map (fun r => r.ps.length)).sum := fun l => by
      induction l with
      | nil => intro r hr; cases hr
      | cons x t ih =>
        intro r hr
        simp only [List.map_cons, List.sum_cons]
        rcases List.mem_cons.1 hr with rfl | hr
        · omega
        · have := ih r hr; omega
    refine ⟨?_, by omega, fun r hr => ?_⟩
    · rw [e]; omega
    · have := m rs r hr; omega
  obtain ⟨a1, c1, rfl, -⟩ := h1
  obtain ⟨ao, cc, rfl, k1, k2, -⟩ := h2
  generalize hrn : rs.length = n at *
  have HN : Hid (rs.length = n) := hrn
  clear hok hrn
  go_enter Tryz.func7, Tryz.ntmps7
  go_upto_region 1 with fail
  generalize World.alloc w _ = wa at *
  go_wp2_with fail
  refine (haw _).mono ?_
  rintro e w1 ⟨rfl, hb1⟩
  have HB1 : Hid (Below w.heap.size w w1) := hb0.trans (hb1.mono hb0.size)
  have HP : Hid (∀ W, Below w1.heap.size w1 W → W.heap[w.heap.size]? = some (.cells #[.int .i64 a, .int .i64 b, .int .i64 c] 23 (0, 0))) := fun W hW => keep_blkT (keep_blkT hk0 hb1) hW
  have hn0 : OwRv w1.heap.size w1 (.slice none 0 0) [] := OwRv.nil _ _
  clear haw hb0 hb1 hk0
  go_wp2_with fail
  go_loopw [9, 10, 11] (fun ov i _ wr => ∃ k : Nat, k ≤ n ∧ i = .int .i64 k ∧ (∃ a m d, ov = .slice a m d) ∧ Hid (OwRv w1.heap.size wr ov ((rs.take k).map bzT)) ∧ Hid (Below w1.heap.size w1 wr)) (fun _ i _ _ => n - (intOf i).toNat)
  case atStart => exact ⟨0, Nat.zero_le _, rfl, ⟨_, _, _, rfl⟩, hn0, Below.refl _ _⟩
  case round =>
    obtain ⟨k, hk, rfl, ⟨oa, om, od, rfl⟩, HO, HB⟩ := hrel
    clear hn0
    have HBR : Hid (Below w.heap.size w wr) := HB1.out.trans (HB.out.mono HB1.out.size)
    by_cases hlt : k < n
    · have hlt' : k < rs.length := by rw [HN.out]; exact hlt
      have HT : Hid (rs.take (k + 1) = rs.take k ++ [rs[k]]) := by show _ = _; rw [List.take_append_getElem hlt']
      obtain ⟨ao', c', e, _, _, h4⟩ := HR.out.below HBR.out (Nat.le_refl _)
      simp only [Value.slice.injEq, true_and] at e
      obtain ⟨rfl, -, rfl⟩ := e
      obtain ⟨_, ad, rfl, hat⟩ := h4 k _ (List.getElem?_eq_getElem hlt')
      clear h4
      have hki : (k : Int) < (n : Int) := by omega
      generalize rs[k] = r at *
      obtain ⟨y0, y1, y2, y3, y4, y5, y6, y7, y8⟩ := hat.nine
      clear hat
      have hbx := ob_al wr (.cells (r9 r) 42)
      have hkx := heap_new wr (.cells (r9 r) 42)
      have HOX : Hid (OwRv w1.heap.size (wr.alloc (.cells (r9 r) 42)) (.slice oa om od) ((rs.take k).map bzT)) := HO.out.below hbx (Nat.le_refl _)
      have HBX : Hid (Below w1.heap.size w1 (wr.alloc (.cells (r9 r) 42))) := HB.out.trans (hbx.mono HB.out.size)
      have hzx : w1.heap.size ≤ wr.heap.size := HB.out.size
      have HLE : Hid (((rs.take k).map bzT).length + 1 ≤ 1099511627776) := by
        have := HSK.out.2.1
        show _ ≤ _
        rw [List.length_map, List.length_take]; omega
      have hlo : ∀ b, Value.ownBlock (.slice oa om od) = some b → b < wr.heap.size := fun b q => (World.ownsRow.lt HO.out b q).2
      clear HO HB HBR
      simp only [r9] at hbx hkx HOX HBX
      go_upto_region 8 with fail
      generalize World.alloc wr _ = wx at *
      generalize wr.heap.size = bx at *
      clear y0 y1 y2 y3 y4 y5 y6 y7 y8 hbx
      obtain ⟨m0, m1, m2, m3, m4, m5, m6, m7, m8⟩ := nine_at (r := r) hkx
      have f8 : wx.frozen? ⟨bx, 8, none⟩ = false := frozen_of_row _ _ _ _ _ hkx
      have hch := chg_p bx 8 (.bool true) wx
      have HK5 : Hid ((wx.setCell ⟨bx, 8, none⟩ (.bool true)).heap[bx]? = some (.cells (r9 (bzT r)) 42 (0, 0))) := by
        show _ = _
        rw [heap_setCell_same _ _ 8 _ _ _ hkx]; rfl
      have HB5 : Hid (Below w1.heap.size w1 (wx.setCell ⟨bx, 8, none⟩ (.bool true))) := HBX.out.trans (hch.below (fun q e => by rw [e]; omega) HBX.out.size)
      have HO5 : Hid (OwRv w1.heap.size (wx.setCell ⟨bx, 8, none⟩ (.bool true)) (.slice oa om od) ((rs.take k).map bzT)) := ownsRow_keptC HOX.out hch (fun b q1 q2 => by have := hlo b q1; omega)
      go_upto_region 9 with fail
      generalize World.setCell wx _ _ = w5 at *
      clear m0 m1 m2 m3 m4 m5 m6 m7 m8 f8 hch hkx HOX HBX
      obtain ⟨m0, m1, m2, m3, m4, m5, m6, m7, m8⟩ := nine_at (r := bzT r) HK5.out
      have hs5 : w1.heap.size ≤ w5.heap.size := HB5.out.size
      simp only [bzT] at m0 m1 m2 m3 m4 m5 m6 m7 m8
      go_wp2_with (first | (at_builtin; refine wpList_appRv rfl _ _ rfl w1.heap.size _ ((rs.take k).map bzT) rfl (HO5.out.below (ob_al w5 _) (Nat.le_refl _)) _ _ (bzT r) rfl (rv_cells (heap_new w5 _)) ?hx1 ?hx2 ?_; rotate_right; (intro v7 w7 ho7 hg7 hw7; have hb7 : Below w1.heap.size (w5.alloc (.cells (r9 (bzT r)) 42)) w7 := (Below.refl _ _).grown hg7 (by rw [World.size_alloc]; omega) (fun j e => (World.ownsRow.lt HO5.out j e).1)); obtain ⟨a7, m7, d7, rfl⟩ := row_shape ho7) | fail)
      case hx1 => rw [World.size_alloc]; omega
      case hx2 => exact HLE.out
      exact ⟨⟨k + 1, by omega, by go_num, ⟨_, _, _, rfl⟩, by show OwRv _ _ _ _; rw [HT.out, List.map_append]; exact ho7, (HB5.out.trans ((ob_al w5 _).mono hs5)).trans hb7⟩, by simp [intOf]; omega⟩
    · have HE : Hid (OwRv w1.heap.size wr (.slice oa om od) (rs.map bzT)) := by
        have := HO.out
        rw [List.take_of_length_le (by rw [HN.out]; omega)] at this
        exact this
      have hpk := HP.out wr HB.out
      obtain ⟨y0, y1, y2, _⟩ := cells3 hpk
      have hrd : RdRv wr (.slice oa om od) (rs.map bzT) := rv_rd HE.out (fun r hr => by
        obtain ⟨q, hq, rfl⟩ := List.mem_map.1 hr
        obtain ⟨ao', c', e, _, _, h4⟩ := HR.out.below HBR.out (Nat.le_refl _)
        obtain ⟨i, hi, hri⟩ := List.mem_iff_getElem.1 hq
        exact (h4 i q (by rw [List.getElem?_eq_getElem hi, hri])).1.bz)
      have hde := decideAll_any a b c (HS.out.below HBR.out (Nat.le_refl _)) hrd (by omega) (by rw [List.length_map]; have := HSK.out.2.1; have h8 : rs.length = n := HN.out; omega) (by rw [sK_bz]; have := HSK.out.1; omega) (fun r hr => by
        obtain ⟨q, hq, rfl⟩ := List.mem_map.1 hr
        exact HOK.out q hq) (fun r hr => by
        obtain ⟨q, hq, rfl⟩ := List.mem_map.1 hr
        have := HSK.out.2.2 q hq
        show q.ps.length ≤ _
        omega) (fun rs' hp r hr => .inl (by
        have := (trF_sub _).mem (hp.mem_iff.1 hr)
        obtain ⟨q, _, rfl⟩ := List.mem_map.1 this
        rfl))
      clear hrd hpk
      go_wp2_with fail
      refine hde.mono ?_
      rintro e w5 ⟨v, rs', p, os, rfl, hp, _, hrun, ho, hb5⟩
      have hos : os = [] := by
        have := hrun.quiet (fun r hr => .inl (by
          have := (trF_sub _).mem (hp.mem_iff.1 hr)
          obtain ⟨q, _, rfl⟩ := List.mem_map.1 this
          rfl))
        exact congrArg Prod.snd this
      subst hos
      obtain ⟨av, cv, rfl, _⟩ := row_reads ho
      obtain ⟨N, hN00, hN1, hN5⟩ := mask_oneS n0 5 (by omega) (by omega)
      have hN0 : wrap64 (1 + (bits .and .i64 n0 4611686018427387903).tmod 5) = (N : Int) := hN00
      clear hN00
      have HB5 : Hid (Below w.heap.size w w5) := HBR.out.trans (hb5.mono HBR.out.size)
      clear hde y0 y1 y2 hp hrun ho hb5 HE HO HB HP HOK HSK HR HS HN
      have hsw0 : OwSw w5.heap.size w5 (.slice none 0 0) [] := OwSw.nil _ _
      have hrv0 : OwRv w5.heap.size w5 (.slice none 0 0) [] := OwRv.nil _ _
      go_wp2_with fail
      simp only [hN0]
      clear hN0
      go_loopw [12, 13, 14, 15, 16] (fun av ev i _ _ wr => ∃ s : Nat, 1 ≤ s ∧ s ≤ N + 1 ∧ i = .int .i64 (s : Int) ∧ (∃ a m d, av = .slice a m d) ∧ (∃ a m d, ev = .slice a m d) ∧ Hid (OwSw w5.heap.size wr av (allS (s - 1))) ∧ Hid (∃ es : List RV, es.length = s - 1 ∧ (∀ i r, es[i]? = some r → EvP N i r) ∧ OwRv w5.heap.size wr ev es ∧ ∀ r ∈ es, EvM w5.heap.size wr r) ∧ Hid (Below w5.heap.size w5 wr)) (fun _ _ i _ _ _ => N + 1 - (intOf i).toNat)
      case atStart => exact ⟨1, Nat.le_refl _, by omega, rfl, ⟨_, _, _, rfl⟩, ⟨_, _, _, rfl⟩, hsw0, ⟨[], rfl, fun i r h => by simp at h, hrv0, by simp⟩, Below.refl _ _⟩
      case round =>
        obtain ⟨s, hs1, hsN, rfl, ⟨oa1, om1, od1, rfl⟩, ⟨oa2, om2, od2, rfl⟩, HA, HE, HB⟩ := hrel
        generalize wr = wA at *
        clear hsw0 hrv0
        have HBA : Hid (Below w.heap.size w wA) := HB5.out.trans (HB.out.mono HB5.out.size)
        by_cases hle : s ≤ N
        · have hsi : (s : Int) ≤ (N : Int) := by omega
          obtain ⟨uid, huid⟩ : ∃ u : UInt64, (u.toNat : Int) = (s : Int) := ⟨UInt64.ofNat s, by rw [UInt64.toNat_ofNat']; omega⟩
          obtain ⟨x8, hx8⟩ : ∃ u : UInt8, (u.toNat : Int) = (s : Int) := ⟨UInt8.ofNat s, by rw [UInt8.toNat_ofNat']; omega⟩
          have hw64 : IntKind.u64.wrap (s : Int) = (uid.toNat : Int) := by rw [huid]; unfold IntKind.wrap; simp [IntKind.bits, IntKind.signed]; omega
          have hw8 : IntKind.u8.wrap (s : Int) = (x8.toNat : Int) := by rw [hx8]; unfold IntKind.wrap; simp [IntKind.bits, IntKind.signed]; omega
          have hBA : w5.heap.size ≤ wA.heap.size := HB.out.size
          have HU : Hid ((uid.toNat : Int) = (s : Int) ∧ (x8.toNat : Int) = (s : Int)) := ⟨huid, hx8⟩
          clear huid hx8
          have hl5 := allS_small s (by omega)
          go_wp2_with (first | (at_builtin; refine wpList_appSw rfl _ _ rfl w5.heap.size _ (allS (s - 1)) rfl (HA.out.below (ob_al wA _) (Nat.le_refl _)) _ _ ((s : Int), true) rfl (sw_cells (heap_new wA _)) ?hx1 ?hx2 ?_; rotate_right; (intro v7 w7 ho7 hg7 hw7; have hb7 : Below w5.heap.size (wA.alloc (.cells #[.int .i64 (s : Int), .bool true] 48)) w7 := (Below.refl _ _).grown hg7 (by rw [World.size_alloc]; omega) (fun j e => (World.ownsRow.lt HA.out j e).1)); have hg7b := hg7; obtain ⟨a7, m7, d7, rfl⟩ := row_shape ho7) | fail)
          case hx1 => rw [World.size_alloc]; omega
          case hx2 => exact hl5
          have HA7 : Hid (OwSw w5.heap.size w7 (.slice a7 m7 d7) (allS s)) := by
            show OwSw _ _ _ _
            have e := allS_snoc (s - 1)
            rw [Nat.sub_add_cancel hs1] at e
            rw [e]; exact ho7
          have HB7 : Hid (Below w5.heap.size w5 w7) := (HB.out.trans ((ob_al wA _).mono hBA)).trans hb7
          have HE7 : Hid (∃ es : List RV, es.length = s - 1 ∧ (∀ i r, es[i]? = some r → EvP N i r) ∧ OwRv w5.heap.size w7 (.slice oa2 om2 od2) es ∧ ∀ r ∈ es, EvM w5.heap.size w7 r) := by
            obtain ⟨es, q1, q2, q3, q4⟩ := HE.out
            have hal := ob_al wA (.cells #[.int .i64 (s : Int), .bool true] 48)
            have hA1 := HA.out.below hal (Nat.le_refl _)
            have hcg := Chg.of_grown hg7b (S := fun b => Value.ownBlock (.slice oa1 om1 od1) = some b) (fun b e _ => e)
            refine ⟨es, q1, q2, ownsRow_keptC (q3.below hal (Nat.le_refl _)) hcg (fun g e1 e2 => ?_), fun r hr => ((q4 r hr).below hal).next hcg (fun g e2 _ => ?_)⟩
            · obtain ⟨_, cs, fr, e'⟩ := row_blk hA1 e2
              exact row_nex (q3.below hal (Nat.le_refl _)) e' (by decide) g e1 rfl
            · obtain ⟨_, cs, fr, e'⟩ := row_blk hA1 e2
              exact ⟨cs, _, fr, e', by decide, by decide⟩
          clear ho7 hb7 hg7 hg7b hw7 HA HB HE HBA hBA hl5
          -- the three new blocks
          have k1 := heap_new w7 (.cells #[.int .u8 (x8.toNat : Int)] 5)
          have b1 := ob_al w7 (.cells #[.int .u8 (x8.toNat : Int)] 5)
          have z1 : (w7.alloc (.cells #[.int .u8 (x8.toNat : Int)] 5)).heap.size = w7.heap.size + 1 := by simp
          have hB7 : w5.heap.size ≤ w7.heap.size := HB7.out.size
          generalize hg : w7.heap.size = g at *
          generalize w7.alloc _ = wb1 at *
          have b2 := ob_al wb1 (.cells #[.int .u8 (x8.toNat : Int), .int .u8 9] 5)
          have k2b := heap_new wb1 (.cells #[.int .u8 (x8.toNat : Int), .int .u8 9] 5)
          have z2 : (wb1.alloc (.cells #[.int .u8 (x8.toNat : Int), .int .u8 9] 5)).heap.size = g + 1 + 1 := by simp [z1]
          have k1b := keep_blkT k1 b2
          have c2b := b1.trans (b2.mono (by omega))
          rw [z1] at k2b
          generalize wb1.alloc _ = wb2 at *
          have b3 := ob_al wb2 (.cells #[.int .u64 (uid.toNat : Int), .slice (some ⟨g, 0, none⟩) 1 1, .slice (some ⟨g + 1, 0, none⟩) 2 2, .int .u64 1, .int .u64 1, .slice none 0 0] 40)
          have k3b := heap_new wb2 (.cells #[.int .u64 (uid.toNat : Int), .slice (some ⟨g, 0, none⟩) 1 1, .slice (some ⟨g + 1, 0, none⟩) 2 2, .int .u64 1, .int .u64 1, .slice none 0 0] 40)
          have z3 : (wb2.alloc (.cells #[.int .u64 (uid.toNat : Int), .slice (some ⟨g, 0, none⟩) 1 1, .slice (some ⟨g + 1, 0, none⟩) 2 2, .int .u64 1, .int .u64 1, .slice none 0 0] 40)).heap.size = g + 1 + 1 + 1 := by simp [z2]
          have k1c := keep_blkT k1b b3
          have k2c := keep_blkT k2b b3
          have c3b := c2b.trans (b3.mono (by omega))
          rw [z2] at k3b
          generalize wb2.alloc _ = w8 at *
          have HW8 : Hid (Below w7.heap.size w7 w8) := by show Below _ _ _; rw [hg]; exact c3b
          have HS8 : Hid (Ow w5.heap.size w8 (.slice (some ⟨g, 0, none⟩) 1 1) [x8]) := ownsRow_lit k1c rfl rfl hB7 (by show (1 : Nat) ≤ maxLen; unfold maxLen; omega)
          have HE8 : Hid (Ow w5.heap.size w8 (.slice (some ⟨g + 1, 0, none⟩) 2 2) [x8, 9]) := ownsRow_lit k2c rfl rfl (by omega) (by show (2 : Nat) ≤ maxLen; unfold maxLen; omega)
          have HX8 : Hid (w8.heap[g + 1 + 1]? = some (.cells #[.int .u64 (uid.toNat : Int), .slice (some ⟨g, 0, none⟩) 1 1, .slice (some ⟨g + 1, 0, none⟩) 2 2, .int .u64 1, .int .u64 1, .slice none 0 0] 40 (0, 0))) := k3b
          have hp0 : OwPe w8.heap.size w8 (.slice none 0 0) (evPs s 0) := OwPe.nil _ _
          clear k1 b1 z1 b2 k2b z2 k1b c2b b3 k3b k1c k2c c3b
          generalize hbx : g + 1 + 1 = bx at *
          generalize hgg : g + 1 = g1 at *
          go_loopw [16] (fun i wr => ∃ k : Nat, 1 ≤ k ∧ k ≤ N + 1 ∧ i = .int .i64 (k : Int) ∧ Hid (∃ pa pm pc, wr.heap[bx]? = some (.cells #[.int .u64 (uid.toNat : Int), .slice (some ⟨g, 0, none⟩) 1 1, .slice (some ⟨g1, 0, none⟩) 2 2, .int .u64 1, .int .u64 1, .slice pa pm pc] 40 (0, 0)) ∧ OwPe w8.heap.size wr (.slice pa pm pc) (evPs s (k - 1)) ∧ Chg (fun b => b = bx ∨ w8.heap.size ≤ b) w8 wr ∧ w8.heap.size ≤ wr.heap.size)) (fun i _ => N + 1 - (intOf i).toNat)
          case atStart => exact ⟨1, Nat.le_refl _, by omega, rfl, ⟨none, 0, 0, HX8.out, hp0, Chg.refl _ _, Nat.le_refl _⟩⟩
          case round =>
            obtain ⟨k, hk1, hkN, rfl, HQ⟩ := hrel
            generalize wr = wI at *
            clear hp0
            obtain ⟨pa, pm, pc, hxb, hpe, hcx, hsx⟩ := HQ.out
            by_cases hlk : k ≤ N
            · have hki : (k : Int) ≤ (N : Int) := by omega
              have hl6 := evPs_small s k (by omega)
              have hen := ev_num s k (by omega) (by omega)
              have HPE : Hid (OwPe w8.heap.size wI (.slice pa pm pc) (evPs s (k - 1))) := hpe
              have HXB : Hid _ := hxb
              have HCX : Hid (Chg (fun b => b = bx ∨ w8.heap.size ≤ b) w8 wI ∧ w8.heap.size ≤ wI.heap.size) := ⟨hcx, hsx⟩
              obtain ⟨y0, y1, y2, y3, y4, y5, yf⟩ := cells6 hxb
              clear hxb hpe hcx yf HQ
              have HEN : Hid _ := hen
              clear hen
              go_wp2_with (first | (at_builtin; refine wpList_appPe rfl _ _ rfl w8.heap.size _ (evPs s (k - 1)) rfl (HPE.out.below (ob_al wI _) (Nat.le_refl _)) _ [(UInt64.ofNat (10 * s + k), (k : Int), false)] rfl (rdpe_z (heap_new wI _) HEN.out) ?hx3 ?hx4 ?_; rotate_right; (intro v9 w9 ho9 hg9 hw9; have hal9 := ob_al wI (.cells #[.int .u64 (10 * (s : Int) + (k : Int)), .int .i64 (k : Int), .bool false] 44); have hc9 := Chg.of_grown hg9 (S := fun b => Value.ownBlock (.slice pa pm pc) = some b) (fun b e _ => e); have hx9 := keep_blkT HXB.out hal9; have hn9 : ¬ Value.ownBlock (.slice pa pm pc) = some bx := fun q => row_nex (HPE.out.below hal9 (Nat.le_refl _)) hx9 (by decide) bx q rfl; have hx10 := (hc9.block bx (Array.getElem?_eq_some_iff.1 hx9).1 hn9).trans hx9; obtain ⟨t0, t1, t2, t3, t4, t5, tf⟩ := cells6 hx10; have tf5 := tf 5; obtain ⟨a9, m9, d9, rfl⟩ := row_shape ho9)) | fail)
              case hx3 => rw [World.size_alloc]; exact Nat.le_succ_of_le HCX.out.2
              case hx4 => exact hl6
              have hgr9 : w8.heap.size ≤ w9.heap.size := by
                have e1 := hc9.size
                rw [World.size_alloc] at e1
                have e2 := HCX.out.2
                omega
              refine ⟨⟨k + 1, by omega, by omega, by go_num, ⟨a9, m9, d9, ?_, ?_, ?_, ?_⟩⟩, by simp [intOf]; omega⟩
              · rw [heap_setCell_same _ _ 5 _ _ _ hx10]; rfl
              · have e := evPs_snoc s (k - 1)
                rw [Nat.sub_add_cancel hk1] at e
                rw [Nat.add_sub_cancel, e]
                exact ownsRow_keptC ho9 (chg_p bx 5 _ w9) (row_nex ho9 hx10 (by decide))
              · have c2 : Chg (fun b => (b = bx ∨ w8.heap.size ≤ b) ∨ w8.heap.size ≤ b) (wI.alloc (.cells #[.int .u64 (10 * (s : Int) + (k : Int)), .int .i64 (k : Int), .bool false] 44)) w9 := hc9.mono (fun b _ q => .inr (World.ownsRow.lt HPE.out b q).1)
                have c3 : Chg (fun b => (b = bx ∨ w8.heap.size ≤ b) ∨ w8.heap.size ≤ b) w9 (w9.setCell ⟨bx, 5, none⟩ (.slice a9 m9 d9)) := (chg_p bx 5 _ w9).mono (fun b _ q => .inl (.inl q))
                exact ((HCX.out.1.alloc _).trans c2).trans c3
              · rw [World.size_setCell]; exact hgr9
            · have hkN2 : k - 1 = N := by omega
              rw [hkN2] at hpe
              obtain ⟨qa, qc, hqe, _⟩ := row_reads hpe
              simp only [Value.slice.injEq] at hqe
              obtain ⟨-, hqm, -⟩ := hqe
              subst hqm
              have hNm : (evPs s N).length = N := evPs_len s N
              have HPS : Hid (OwPe w8.heap.size wI (.slice pa (evPs s N).length pc) (evPs s N)) := hpe
              generalize hps : evPs s N = ps at *
              have HEQ : Hid (evPs s N = ps) := hps
              have HNM : Hid (ps.length = N) := hNm
              clear hNm
              have HXB : Hid _ := hxb
              have HCX : Hid (Chg (fun b => b = bx ∨ w8.heap.size ≤ b) w8 wI ∧ w8.heap.size ≤ wI.heap.size) := ⟨hcx, hsx⟩
              obtain ⟨y0, y1, y2, y3, y4, y5, yf⟩ := cells6 hxb
              clear hxb hpe hcx yf HQ hps
              have HRV : Hid (∀ W : World, W.heap[wI.heap.size]? = some (.cells #[.int .u64 (uid.toNat : Int), .slice (some ⟨g, 0, none⟩) 1 1, .slice (some ⟨g1, 0, none⟩) 2 2, .int .u64 1, .int .u64 1, .slice pa ps.length pc, .int .i64 (s : Int), .int .i64 5, .bool false] 42 (0, 0)) → W.heap[wI.heap.size]? = some (.cells (r9 ⟨uid, some ⟨g, 0, none⟩, 1, some ⟨g1, 0, none⟩, 2, 1, 1, pa, pc, (s : Int), 5, false, [x8], [x8, 9], ps⟩) 42 (0, 0))) := fun W h => h
              have H8A : Hid (Below w5.heap.size w5 w8) := HB7.out.trans (HW8.out.mono (by rw [hg]; exact hB7))
              have hBI : w5.heap.size ≤ wI.heap.size := by
                have e1 := H8A.out.size
                have e2 := HCX.out.2
                omega
              have HTY : Hid (∀ g, (g = bx ∨ w8.heap.size ≤ g) → g < w8.heap.size → ∃ cs t fr, w8.heap[g]? = some (.cells cs t fr) ∧ t = 40) := fun g q lt => by
                rcases q with rfl | q
                · exact ⟨_, _, _, HX8.out, rfl⟩
                · omega
              have HBI : Hid (Below w5.heap.size w5 wI) := H8A.out.trans (HCX.out.1.below (fun b q => by
                rcases q with rfl | q
                · have := HW8.out.size; omega
                · have := H8A.out.size; omega) H8A.out.size)
              have HAI : Hid (OwSw w5.heap.size wI (.slice a7 m7 d7) (allS s)) := by
                have h8 := HA7.out.below HW8.out (Nat.le_refl _)
                exact ownsRow_keptC h8 HCX.out.1 (fun b q1 q2 => by
                  obtain ⟨cs, t, fr, e, rfl⟩ := HTY.out b q2 (World.ownsRow.lt h8 b q1).2
                  exact row_nex h8 e (by decide) b q1 rfl)
              have HEI : Hid (∃ es : List RV, es.length = s - 1 ∧ (∀ i r, es[i]? = some r → EvP N i r) ∧ OwRv w5.heap.size wI (.slice oa2 om2 od2) es ∧ ∀ r ∈ es, EvM w5.heap.size wI r) := by
                obtain ⟨es, q1, q2, q3, q4⟩ := HE7.out
                have h8 := q3.below HW8.out (Nat.le_refl _)
                refine ⟨es, q1, q2, ownsRow_keptC h8 HCX.out.1 (fun b q1 q2 => ?_), fun r hr => ((q4 r hr).below HW8.out).next HCX.out.1 (fun b q2 lt => ?_)⟩
                · obtain ⟨cs, t, fr, e, rfl⟩ := HTY.out b q2 (World.ownsRow.lt h8 b q1).2
                  exact row_nex h8 e (by decide) b q1 rfl
                · obtain ⟨cs, t, fr, e, rfl⟩ := HTY.out b q2 lt
                  exact ⟨cs, _, fr, e, by decide, by decide⟩
              have HNEW : Hid (EvM w5.heap.size wI ⟨uid, some ⟨g, 0, none⟩, 1, some ⟨g1, 0, none⟩, 2, 1, 1, pa, pc, (s : Int), 5, false, [x8], [x8, 9], ps⟩) := by
                have mk : ∀ {e : TypeId} {sz n : Nat} {v : Value} {xs : List Value}, w8.ownsRow w5.heap.size e sz v n xs → e ≠ 40 → wI.ownsRow w5.heap.size e sz v n xs := fun h ne => ownsRow_keptC h HCX.out.1 (fun b q1 q2 => by
                  obtain ⟨cs, t, fr, e, rfl⟩ := HTY.out b q2 (World.ownsRow.lt h b q1).2
                  exact row_nex h e ne b q1 rfl)
                exact ⟨mk HS8.out (by decide), mk HE8.out (by decide), OwPe.monoQ HPS.out H8A.out.size⟩
              obtain ⟨es, q1, q2, q3, q4⟩ := HEI.out
              have HES : Hid (es.length = s - 1 ∧ (∀ i r, es[i]? = some r → EvP N i r) ∧ (∀ r ∈ es, EvM w5.heap.size wI r)) := ⟨q1, q2, q4⟩
              have HRO : Hid (OwRv w5.heap.size wI (.slice oa2 om2 od2) es) := q3
              have hl7 : es.length + 1 ≤ 1099511627776 := by
                have := q1
                omega
              clear q1 q2 q3 q4 HEI HE7 HA7 HB7 HW8 HX8
              go_wp2_with (first | (at_builtin; refine wpList_appRv rfl _ _ rfl w5.heap.size _ es rfl (HRO.out.below (ob_al wI _) (Nat.le_refl _)) _ _ _ rfl (rv_cells (HRV.out _ (heap_new wI _))) ?hx5 ?hx6 ?_; rotate_right; (intro v9 w9 ho9 hg9 hw9; have hb9 : Below w5.heap.size (wI.alloc (.cells #[.int .u64 (uid.toNat : Int), .slice (some ⟨g, 0, none⟩) 1 1, .slice (some ⟨g1, 0, none⟩) 2 2, .int .u64 1, .int .u64 1, .slice pa ps.length pc, .int .i64 (s : Int), .int .i64 5, .bool false] 42)) w9 := (Below.refl _ _).grown hg9 (by rw [World.size_alloc]; exact Nat.le_succ_of_le hBI) (fun j e => (World.ownsRow.lt HRO.out j e).1); have hc9 := Chg.of_grown hg9 (S := fun b => Value.ownBlock (.slice oa2 om2 od2) = some b) (fun b e _ => e); obtain ⟨a9, m9, d9, rfl⟩ := row_shape ho9)) | fail)
              case hx5 => rw [World.size_alloc]; exact Nat.le_succ_of_le hBI
              case hx6 => exact hl7
              clear y0 y1 y2 y3 y4 y5
              have hal9 := ob_al wI (.cells #[.int .u64 (uid.toNat : Int), .slice (some ⟨g, 0, none⟩) 1 1, .slice (some ⟨g1, 0, none⟩) 2 2, .int .u64 1, .int .u64 1, .slice pa ps.length pc, .int .i64 (s : Int), .int .i64 5, .bool false] 42)
              have hown9 := HRO.out.below hal9 (Nat.le_refl _)
              have hty9 : ∀ b, Value.ownBlock (.slice oa2 om2 od2) = some b → b < (wI.alloc (.cells #[.int .u64 (uid.toNat : Int), .slice (some ⟨g, 0, none⟩) 1 1, .slice (some ⟨g1, 0, none⟩) 2 2, .int .u64 1, .int .u64 1, .slice pa ps.length pc, .int .i64 (s : Int), .int .i64 5, .bool false] 42)).heap.size → ∃ cs t fr, (wI.alloc (.cells #[.int .u64 (uid.toNat : Int), .slice (some ⟨g, 0, none⟩) 1 1, .slice (some ⟨g1, 0, none⟩) 2 2, .int .u64 1, .int .u64 1, .slice pa ps.length pc, .int .i64 (s : Int), .int .i64 5, .bool false] 42)).heap[b]? = some (.cells cs t fr) ∧ t ≠ 5 ∧ t ≠ 44 := fun b q _ => by
                obtain ⟨_, cs, fr, e'⟩ := row_blk hown9 q
                exact ⟨cs, _, fr, e', by decide, by decide⟩
              refine ⟨⟨s + 1, by omega, by omega, by go_num, ⟨_, _, _, rfl⟩, ⟨_, _, _, rfl⟩, ?_, ?_, ?_⟩, by simp [intOf]; omega⟩
              · show OwSw _ _ _ _
                rw [Nat.add_sub_cancel]
                exact ownsRow_keptC (HAI.out.below hal9 (Nat.le_refl _)) hc9 (fun b q1 q2 => by
                  obtain ⟨_, cs, fr, e'⟩ := row_blk hown9 q2
                  exact row_nex (HAI.out.below hal9 (Nat.le_refl _)) e' (by decide) b q1 rfl)
              · refine ⟨es ++ [⟨uid, some ⟨g, 0, none⟩, 1, some ⟨g1, 0, none⟩, 2, 1, 1, pa, pc, (s : Int), 5, false, [x8], [x8, 9], ps⟩], by rw [List.length_append, List.length_singleton, HES.out.1]; omega, fun i r hi => ?_, ho9, fun r hr => ?_⟩
                · by_cases hil : i < es.length
                  · rw [List.getElem?_append_left hil] at hi
                    exact HES.out.2.1 i r hi
                  · have hi0 : i = es.length := by
                      have := (List.getElem?_eq_some_iff.1 hi).1
                      rw [List.length_append, List.length_singleton] at this
                      omega
                    subst hi0
                    rw [List.getElem?_append_right (Nat.le_refl _), Nat.sub_self] at hi
                    obtain rfl := Option.some.inj hi
                    have e1 := HES.out.1
                    exact ⟨by rw [e1, Nat.sub_add_cancel hs1]; exact HEQ.out.symm, by show (s : Int) = _; rw [e1, Nat.sub_add_cancel hs1], rfl, rfl⟩
                · rcases List.mem_append.1 hr with hr | hr
                  · exact ((HES.out.2.2 r hr).below hal9).next hc9 hty9
                  · obtain rfl := List.mem_singleton.1 hr
                    exact (HNEW.out.below hal9).next hc9 hty9
              · exact (HBI.out.trans (hal9.mono hBI)).trans hb9
        · have hsn : s - 1 = N := by omega
          obtain ⟨es, q1, q2, q3, q4⟩ := HE.out
          rw [hsn] at q1
          have hpr := rv_rd q3 (fun r hr => (q4 r hr).it)
          have hA' := HA.out
          rw [hsn] at hA'
          have hev : ∀ r ∈ es, ∃ i, i < N ∧ EvP N i r := fun r hr => by
            obtain ⟨i, hi, hir⟩ := List.mem_iff_getElem.1 hr
            exact ⟨i, by omega, q2 i r (by rw [List.getElem?_eq_getElem hi, hir])⟩
          have hsK : ∀ l : List RV, (∀ r ∈ l, r ∈ es) → sK l ≤ 7 * l.length := fun l => by
            induction l with
            | nil => intro _; simp [sK]
            | cons x t ih =>
              intro h
              obtain ⟨i, _, hx⟩ := hev x (h x (List.mem_cons_self ..))
              have h2 := ih (fun r hr => h r (List.mem_cons_of_mem _ hr))
              have h3 : x.ps.length = N := by rw [hx.ps, evPs_len]
              simp only [sK, List.map_cons, List.sum_cons, List.length_cons] at *
              omega
          have hsK2 := hsK es (fun r hr => hr)
          have hde := decideAll_any (N : Int) 6 4 (sw_rd hA') hpr (by have := allS_len N; omega) (by omega) (by omega) (fun r hr => by
            obtain ⟨i, hi, hx⟩ := hev r hr
            refine ⟨fun q hq => ?_, by rw [hx.ld]; unfold i64; omega⟩
            rw [hx.ps] at hq
            obtain ⟨k, k1, k2, e, _⟩ := evPs_mem hq
            rw [e]; unfold i64; omega) (fun r hr => by
            obtain ⟨i, hi, hx⟩ := hev r hr
            rw [hx.ps, evPs_len]; omega) (fun rs' hp r hr => by
            have := (trF_sub es).mem (hp.mem_iff.1 hr)
            obtain ⟨i, _, hx⟩ := hev r this
            right; left
            rw [hx.sz]; decide)
          clear hpr hA' hsK hsK2
          have hB5 : w5.heap.size ≤ wA.heap.size := HB.out.size
          go_wp2_with fail
          refine hde.mono ?_
          rintro e w6 ⟨v, rs', p, os, rfl, hp, _, hrun, ho, hb6⟩
          have hos : os = [] := by
            have := hrun.quiet (fun r hr => .inr (even_quiet hN1 hN5 q2 hp r hr))
            exact congrArg Prod.snd this
          subst hos
          obtain ⟨av2, cv2, rfl, _⟩ := row_reads ho
          have HEND : Hid (Below w.heap.size w w6) := HBA.out.trans (hb6.mono HBA.out.size)
          clear hde hp hrun ho hb6
          go_wp2_with fail
          go_ret
          exact ⟨rfl, HEND.out⟩
end Go.Proofs.YtedfjacmaidhkaaGreat
