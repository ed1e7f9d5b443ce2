/- The statement WaitEnds, walked. -/
import Derived.Test.YtpckmpnifdpeoaaG43
import Derived.Test.YtpckmpnifdpeoaaG16
import Derived.Deep.CutRange
namespace Go.Proofs.Ytpckmpnifdpeoaa
open Go.RowKit
set_option linter.unusedVariables false
set_option maxRecDepth 100000

/-- All numbers of the edges are below n. -/
def Lt (n : Nat) (E : List Ed) : Prop := ∀ e ∈ E, e.1.toNat < n ∧ e.2.toNat < n
theorem wtE_mem {E : List Ed} {a b : UInt64} {ro : Option (List UInt64)} {e : Ed} (h : e ∈ wtE E a b ro) : e = (a, b) ∨ e ∈ E := by
  unfold wtE at h
  split at h
  · exact .inr h
  · split at h
    · exact .inr h
    · split at h
      · exact .inr h
      · exact W.mem_ins.1 h
theorem wtE_len (E : List Ed) (a b : UInt64) (ro : Option (List UInt64)) : (wtE E a b ro).length ≤ E.length + 1 := by
  unfold wtE
  split
  · omega
  · split
    · omega
    · split
      · omega
      · rw [W.ins_len]; exact Nat.le_refl _
theorem dnE_mem {E : List Ed} {a : UInt64} {e : Ed} (h : e ∈ dnE E a) : e ∈ E ∧ e.1 ≠ a ∧ e.2 ≠ a := by
  obtain ⟨h1, h2⟩ := List.mem_filter.1 h
  unfold dlt at h2
  simp only [Bool.not_eq_true', Bool.or_eq_false_iff, beq_eq_false_iff_ne] at h2
  exact ⟨h1, h2⟩
theorem dnE_len (E : List Ed) (a : UInt64) : (dnE E a).length ≤ E.length := List.length_filter_le _ _
/-- How many edges touch a. -/
def tch (E : List Ed) (a : UInt64) : Nat := E.countP (fun e => dlt a e)
theorem tch_len (E : List Ed) (a : UInt64) : tch E a + (dnE E a).length = E.length := by
  unfold tch dnE
  rw [List.length_eq_countP_add_countP (fun e => dlt a e) (l := E), ← List.countP_eq_length_filter]
  congr 1
  refine List.countP_congr (fun e _ => ?_)
  simp
theorem dnE_dn (E : List Ed) (a : UInt64) : dnE (dnE E a) a = dnE E a := by
  unfold dnE; rw [List.filter_filter]; simp
theorem bfs_alone {E : List Ed} {who b : UInt64} (hn : ∀ e ∈ E, e.1 ≠ who) (hb : who ≠ b) {ro : Option (List UInt64)} (h : W.Bfs E b [[who]] [who] ro) : ro = none := by
  refine h.det (W.Bfs.on [who] [] [who] who none rfl hb ?_)
  have e : W.outs E who = [] := by
    unfold W.outs
    rw [List.filter_eq_nil_iff.2 (fun e he => by simpa using hn e he)]; rfl
  rw [e]
  exact W.Bfs.none _
theorem stE_ins {E : List Ed} (h : W.Ris E) {a b : UInt64} (hn : (a, b) ∉ E) : stE (W.ins E (a, b)) a b = E := by
  unfold stE W.ins
  rw [List.filter_append, List.filter_cons, if_neg (by simp)]
  rw [List.filter_eq_self.2 (fun x hx => by
    have : x ≠ (a, b) := fun q => hn (by rw [← q]; exact List.mem_of_mem_take hx)
    simpa using this), List.filter_eq_self.2 (fun x hx => by
    have : x ≠ (a, b) := fun q => hn (by rw [← q]; exact List.mem_of_mem_drop hx)
    simpa using this), List.take_append_drop]

theorem tch_step {E : List Ed} {a : UInt64} {k : Nat} {e : Ed} (he : E[k]? = some e) : tch (E.take (k + 1)) a = tch (E.take k) a + (if dlt a e then 1 else 0) := by
  unfold tch
  rw [List.take_add_one, he, List.countP_append]
  simp [List.countP_cons]
theorem tch_le (E : List Ed) (a : UInt64) : tch E a ≤ E.length := List.countP_le_length
theorem u_small {k : Nat} (h : k < 8) : (UInt64.ofNat k).toNat = k := by simp; omega
theorem ins_is {E : List Ed} (h : W.Ris E) {a b : UInt64} (hn : (a, b) ∉ E) : W.is (W.ins E (a, b)) (a, b) = true := (W.is_iff (W.ris_ins h hn) _).2 (W.mem_ins.2 (.inl rfl))

set_option maxHeartbeats 4000000 in
theorem ends_walk {v0 : Value} {EA : List Ed} {w : World} (hA : RdE w v0 EA) (who0 : UInt64) :
    Calls Try.prog 3 #[v0, .int .u64 (who0.toNat : Int)] w fun r w' => r = .returned (.bool true) ∧ Below w.heap.size w w' := by
  obtain ⟨a0, c0, rfl, hn1, hn2, hn3, hA4⟩ := hA
  have hnm : EA.length ≤ 9223372036854775807 := by unfold maxLen at hn2; omega
  obtain ⟨n, hn⟩ : ∃ n, n = EA.length := ⟨_, rfl⟩
  have HA : Hid (∀ i, i < n → ∃ p q : UInt64, ∃ a, a0 = some a ∧ ∀ W : World, Below w.heap.size w W → W.cell? (a.add (i * 2)) = some (.int .u64 (p.toNat : Int)) ∧ W.cell? ⟨(a.add (i * 2)).block, (a.add (i * 2)).off + 1, none⟩ = some (.int .u64 (q.toNat : Int))) := fun i hi => by
    obtain ⟨a, e, h⟩ := hA4 i EA[i] (List.getElem?_eq_getElem (by omega))
    exact ⟨EA[i].1, EA[i].2, a, e, fun W hW => ⟨(h.below hW (Nat.le_refl _)).c0, (h.below hW (Nat.le_refl _)).c1⟩⟩
  rw [← hn] at hn1 hnm ⊢
  clear hA4 hn hn2 hn3
  have haw := wtawake_any w
  go_enter Try.func3, Try.ntmps3
  go_wp2_with fail
  refine haw.mono ?_
  rintro r wa ⟨rfl, hba⟩
  have hnew := gnew_any wa
  clear haw
  go_wp2_with fail
  refine hnew.mono ?_
  rintro r wb ⟨x, rfl, hg0, hbb⟩
  have hB : Below w.heap.size w wb := Below.tr hba hbb
  clear hnew hbb
  have hsz : w.heap.size ≤ wa.heap.size := hba.size
  go_wp2_with fail
  go_loopw [6] (fun i wr => ∃ (k : Nat) (v : Value) (E : List Ed), k ≤ n ∧ k ≤ 60 ∧ i = .int .i64 k ∧ Gr wa.heap.size x v E wr ∧ E.length ≤ k ∧ Lt 8 E ∧ Below w.heap.size w wr) (fun i _ => 60 - (intOf i).toNat)
  case atStart => exact ⟨0, _, [], Nat.zero_le _, Nat.zero_le _, rfl, hg0, Nat.le_refl _, (fun e he => by cases he), hB⟩
  case round =>
    obtain ⟨k, v, E, hk, hk6, rfl, hg, hEl, hE8, hb⟩ := hrel
    clear hg0 hB hba
    go_upto_region 5 with fail
    go_cut [24] from 17 to 40 (fun s wx => s = .bool (decide (k < n ∧ k < 60)) ∧ wx = wr)
    case first =>
      by_cases q1 : k < n
      · have l1 : (k : Int) < (n : Int) := by omega
        by_cases q2 : k < 60
        · have l2 : (k : Int) < 60 := by omega
          go_wp2_with fail
          go_meet
          exact ⟨by simp [q1, q2], rfl⟩
        · have l2 : decide ((k : Int) < 60) = false := decide_eq_false (by omega)
          go_wp2_with fail
          go_meet
          exact ⟨by simp [q1, q2], rfl⟩
      · have l1 : decide ((k : Int) < (n : Int)) = false := decide_eq_false (by omega)
        go_wp2_with fail
        go_meet
        exact ⟨by simp [q1], rfl⟩
    case rest =>
    obtain ⟨rfl, rfl⟩ := hcut
    by_cases hlt : k < n ∧ k < 60
    · rw [decide_eq_true hlt]
      obtain ⟨p, q, ad, rfl, hyy⟩ := HA.out k hlt.1
      have HY : Hid _ := hyy
      obtain ⟨y0, y1⟩ := hyy wc hb
      clear hyy
      have hki : (k : Int) < (n : Int) := by omega
      have hwt := fun m => wait_any (hg.below (Below.dN wc m) (Nat.le_refl _)) (p &&& 7) (q &&& 7)
      simp only [← and7] at hwt
      have HNX : Hid (∀ (m : Nat) (v' : Value) (ro : Option (List UInt64)) (w' : World), Gr wa.heap.size x v' (wtE E (p &&& 7) (q &&& 7) ro) w' → Chg (GS x v) (wc.drewN m) w' → (∃ (k' : Nat) (v : Value) (E : List Ed), k' ≤ n ∧ k' ≤ 60 ∧ k' = k + 1 ∧ Gr wa.heap.size x v E w' ∧ E.length ≤ k' ∧ Lt 8 E ∧ Below w.heap.size w w')) := fun m v' ro w' h1 h2 => by
        refine ⟨k + 1, v', _, by omega, by omega, rfl, h1, by have := wtE_len E (p &&& 7) (q &&& 7) ro; omega, fun e he => ?_, ?_⟩
        · rcases wtE_mem he with r | r
          · rw [r]; exact ⟨and7_lt p, and7_lt q⟩
          · exact hE8 e r
        · exact hb.trans ((Below.dN wc m).mono hb.size |>.trans (((hg.below (Below.dN wc m) (Nat.le_refl _)).bel h2).mono hsz))
      clear hg hE8
      go_wp2_with fail
      go_region_held3 (fun w' => w'.cell? (ad.add (k * 2)) = some (.int .u64 (p.toNat : Int)) ∧ w'.cell? ⟨(ad.add (k * 2)).block, (ad.add (k * 2)).off + 1, none⟩ = some (.int .u64 (q.toNat : Int))) (go_keep) (first
        | (go_at_call 9; refine (hwt _).mono ?_; rintro r w3 ⟨vr, v3, ro, rfl, -, -, -, hg3, hc3, -, -⟩; have HE3 : Hid _ := HNX.out _ _ _ w3 hg3 hc3; obtain ⟨u0, u1⟩ := HY.out w3 (by obtain ⟨_, _, _, _, _, _, _, _, _, q⟩ := HE3.out; exact q))
        | fail)
      clear hg3 hc3
      go_wp2_with fail
      obtain ⟨k', v', E', q1, q2, rfl, q3⟩ := HE3.out
      exact ⟨⟨k + 1, v', E', q1, q2, by go_num, q3⟩, by simp [intOf]; omega⟩
    · rw [decide_eq_false hlt]
      have hE60 : E.length ≤ 60 := by omega
      obtain ⟨who, hwho⟩ : ∃ who, who = who0 &&& 7 := ⟨_, rfl⟩
      have hand : bits .and .u64 (who0.toNat : Int) 7 = (who.toNat : Int) := by rw [hwho]; exact and7 who0
      have hw8 : who.toNat < 8 := by rw [hwho]; exact and7_lt who0
      have hed := edges_any hg
      clear hlt hwho HA
      go_wp2_with fail
      refine hed.mono ?_
      rintro r w2 ⟨vA, rfl, hoA, hb2⟩
      have hg2 := hg.below hb2 (Nat.le_refl _)
      have hB2 : Below w.heap.size w w2 := Below.trans hb (hb2.mono hb.size)
      obtain ⟨aA, cA, rfl, hA1, hA2, hA3, hA4⟩ := hoA.rd
      unfold maxLen at hA2
      have hoA' := hoA
      clear hed hg hb2 hb hand hoA
      go_wp2_with fail
      go_loopw [7, 9] (fun t i wr => ∃ k : Nat, k ≤ E.length ∧ i = .int .i64 k ∧ t = .int .i64 (tch (E.take k) who : Int) ∧ wr = w2) (fun _ i _ => E.length - (intOf i).toNat)
      case atStart => exact ⟨0, Nat.zero_le _, rfl, rfl, rfl⟩
      case round =>
        obtain ⟨k2, hk2, rfl, rfl, rfl⟩ := hrel
        by_cases hlt2 : k2 < E.length
        · obtain ⟨⟨p1, p2⟩, hp⟩ : ∃ p, E[k2]? = some p := ⟨_, List.getElem?_eq_getElem hlt2⟩
          obtain ⟨ad, rfl, d0, d1⟩ := hA4 k2 _ hp
          simp only [] at d0 d1
          have hki : (k2 : Int) < (E.length : Int) := by omega
          have hts := tch_step (a := who) hp
          have htl := tch_le (E.take k2) who
          have htl2 : (E.take k2).length ≤ k2 := by simp; omega
          have HTS : Hid (tch (E.take (k2 + 1)) who = tch (E.take k2) who + (if dlt who (p1, p2) then 1 else 0)) := hts
          have htb : tch (E.take k2) who ≤ 4096 := by omega
          clear hts hA4 htl htl2
          generalize tch (E.take k2) who = T at *
          have hT1 : IntKind.i64.wrap ((T : Int) + 1) = ((T + 1 : Nat) : Int) := by rw [IntKind.wrap_i64]; omega
          by_cases q1 : p1 = who
          · have HT : Hid (tch (E.take (k2 + 1)) who = T + 1) := by show _ = _; rw [HTS.out, if_pos (by simp [dlt, q1])]
            subst q1
            clear hp HTS
            go_wp2_with fail
            exact ⟨⟨k2 + 1, by omega, by go_num, by rw [HT.out]; go_num, by first | rfl | trivial⟩, by simp [intOf]; omega⟩
          · have g1 : ((p1.toNat : Int) == (who.toNat : Int)) = false := by rw [u_eq]; simpa using q1
            have g2 : ¬ p1.toNat = who.toNat := fun q => q1 (UInt64.toNat_inj.1 q)
            by_cases q2 : p2 = who
            · have HT : Hid (tch (E.take (k2 + 1)) who = T + 1) := by show _ = _; rw [HTS.out, if_pos (by simp [dlt, q2])]
              subst q2
              clear hp HTS
              go_wp2_with fail
              exact ⟨⟨k2 + 1, by omega, by go_num, by rw [HT.out]; go_num, by first | rfl | trivial⟩, by simp [intOf]; omega⟩
            · have g3 : ((p2.toNat : Int) == (who.toNat : Int)) = false := by rw [u_eq]; simpa using q2
              have g4 : ¬ p2.toNat = who.toNat := fun q => q2 (UInt64.toNat_inj.1 q)
              have HT : Hid (tch (E.take (k2 + 1)) who = T) := by show _ = _; rw [HTS.out, if_neg (by simp [dlt, q1, q2])]; rfl
              clear hp HTS
              go_wp2_with fail
              exact ⟨⟨k2 + 1, by omega, by go_num, by rw [HT.out], by first | rfl | trivial⟩, by simp [intOf]; omega⟩
        · obtain rfl : k2 = E.length := by omega
          have hTE : tch (E.take E.length) who = tch E who := by rw [List.take_length]
          have htd := tch_len E who
          have hdn := gdone_any hg2 who
          have hF : ∀ e ∈ dnE E who, e ∈ E ∧ e.1 ≠ who ∧ e.2 ≠ who := fun e he => dnE_mem he
          have HF : Hid (∀ e ∈ dnE E who, e ∈ E ∧ e.1 ≠ who ∧ e.2 ≠ who) := hF
          have hFd := dnE_dn E who
          have hFr := W.ris_filter hg2.ris (fun e => !dlt who e)
          have HFR : Hid (W.Ris (dnE E who)) := hFr
          rw [hTE]
          have HE8 : Hid (Lt 8 E) := hE8
          have hFl : (dnE E who).length ≤ E.length := dnE_len E who
          have hq1 : ((E.length : Int) - ((dnE E who).length : Int) != (tch E who : Int)) = false := by rw [bne_eq_false_iff_eq]; omega
          have hwd : IntKind.i64.wrap ((E.length : Int) - (tch E who : Int)) = ((dnE E who).length : Int) := by rw [IntKind.wrap_i64]; omega
          clear htd hTE hF hFr hoA' hA4 hA1 hA3 hlt2
          go_wp2_with fail
          refine hdn.mono ?_
          rintro r w3 ⟨v3, rfl, hg3, hc3, -⟩
          have hB3 : Below w.heap.size w w3 := hB2.trans ((hg2.bel hc3).mono hsz)
          have hed3 := edges_any hg3
          clear hdn hg2 hc3 hB2
          go_wp2_with fail
          refine hed3.mono ?_
          rintro r w4 ⟨v4, rfl, ho4, hb4⟩
          have hg4 := hg3.below hb4 (Nat.le_refl _)
          have hB4 : Below w.heap.size w w4 := hB3.trans (hb4.mono hB3.size)
          have hdn4 := gdone_any hg4 who
          obtain ⟨z1, z2, z3, -⟩ := ho4.rd.shape
          subst z3
          clear hed3 hg3 hb4 hB3 ho4
          go_wp2_with fail
          refine hdn4.mono ?_
          rintro r w5 ⟨v5, rfl, hg5, hc5, -⟩
          have hB5 : Below w.heap.size w w5 := hB4.trans ((hg4.bel hc5).mono hsz)
          rw [hFd] at hg5
          rw [hFd]
          have hz : (((dnE E who).length : Int) - ((dnE E who).length : Int) != 0) = false := by simp
          clear hdn4 hg4 hc5 hB4 hFd hq1 hwd
          have hF60 : (dnE E who).length ≤ 60 := by omega
          have HLt : Hid (Lt 8 (dnE E who)) := fun e he => HE8.out e (HF.out e he).1
          have HF2 : Hid (∀ e ∈ dnE E who, e.1 ≠ who ∧ e.2 ≠ who) := fun e he => (HF.out e he).2
          generalize dnE E who = F at *
          clear HE8 HF hE8
          generalize tch E who = T at *
          generalize E.length = nE at *
          go_wp2_with fail
          go_loopw [10, 11, 12] (fun b _ _ wr => ∃ (kb : Nat) (v : Value), kb ≤ 8 ∧ b = .int .u64 kb ∧ Gr wa.heap.size x v F wr ∧ Below w.heap.size w wr) (fun b _ _ _ => 8 - (intOf b).toNat)
          case atStart => exact ⟨0, v5, by omega, rfl, hg5, hB5⟩
          case round =>
            obtain ⟨kb, vb, hkb, rfl, hgb, hBb⟩ := hrel
            clear hg5 hB5
            by_cases hlt3 : kb < 8
            · have hbu := u_small hlt3
              have hwk : IntKind.u64.wrap ((kb : Int) + 1) = ((kb + 1 : Nat) : Int) := by rw [IntKind.wrap_u64]; omega
              have hk8 : (kb : Int) < 8 := by omega
              by_cases hbw : kb = who.toNat
              · have hbe : ((kb : Int) == (who.toNat : Int)) = true := by rw [beq_iff_eq]; omega
                have HBW : Hid (kb = who.toNat) := hbw
                clear hbw
                go_wp2_with fail
                exact ⟨⟨kb + 1, vb, by omega, by go_num, hgb, hBb⟩, by simp [intOf]; omega⟩
              · have hbe : ((kb : Int) == (who.toNat : Int)) = false := by rw [beq_eq_false_iff_ne]; omega
                have hwt := wait_any hgb (UInt64.ofNat kb) who
                rw [hbu] at hwt
                have hne : who ≠ UInt64.ofNat kb := fun q => hbw (by rw [q, hbu])
                have hni : (UInt64.ofNat kb, who) ∉ F := fun q => (HF2.out _ q).2 rfl
                have his : W.is F (UInt64.ofNat kb, who) = false := (W.is_false hgb.ris _).2 hni
                have HNI : Hid ((UInt64.ofNat kb, who) ∉ F) := hni
                have HIS : Hid (W.is F (UInt64.ofNat kb, who) = false) := his
                have HNE : Hid (who ≠ UInt64.ofNat kb) := hne
                have HBU : Hid ((UInt64.ofNat kb).toNat = kb) := hbu
                have HRI : Hid (W.Ris F) := hgb.ris
                clear hne hni his hbu
                go_wp2_with fail
                refine hwt.mono ?_
                rintro r w6 ⟨vr, v6, ro, rfl, hbf, hou, -, hg6, hc6, -, -⟩
                obtain rfl := bfs_alone (fun e he => (HF2.out e he).1) HNE.out hbf
                have hB6 : Below w.heap.size w w6 := hBb.trans ((hgb.bel hc6).mono hsz)
                have e1 : wtN F (UInt64.ofNat kb) who none = 0 := by unfold wtN; simp only []; rw [HIS.out, if_neg (by simp), if_neg (by omega)]
                have e2 : wtE F (UInt64.ofNat kb) who none = W.ins F (UInt64.ofNat kb, who) := by unfold wtE; simp only []; rw [HIS.out, if_neg (by simp), if_neg (by omega)]
                rw [e2] at hg6
                rw [e1]
                have hst := stop_any hg6 (UInt64.ofNat kb) who
                rw [HBU.out] at hst
                obtain ⟨y1, y2, y3⟩ := hou.shape
                subst y3
                clear hwt hbf hou hgb hBb hc6 e1 e2
                go_wp2_with fail
                refine hst.mono ?_
                rintro r w7 ⟨v7, rfl, hg7, hc7, -⟩
                have hB7 : Below w.heap.size w w7 := hB6.trans ((hg6.bel hc7).mono hsz)
                rw [stE_ins HRI.out HNI.out] at hg7
                rw [ins_is HRI.out HNI.out]
                have hst2 := stop_any hg7 (UInt64.ofNat kb) who
                rw [HBU.out] at hst2
                clear hst hg6 hB6 hc7
                go_wp2_with fail
                refine hst2.mono ?_
                rintro r w8 ⟨v8, rfl, hg8, hc8, -⟩
                have hB8 : Below w.heap.size w w8 := hB7.trans ((hg7.bel hc8).mono hsz)
                rw [HIS.out]
                have e3 : stE F (UInt64.ofNat kb) who = F := List.filter_eq_self.2 (fun e he => by
                  have : e ≠ (UInt64.ofNat kb, who) := fun q => HNI.out (by rw [← q]; exact he)
                  simpa using this)
                rw [e3] at hg8
                clear hst2 hg7 hB7 hc8 e3
                go_wp2_with fail
                exact ⟨⟨kb + 1, v8, by omega, by go_num, hg8, hB8⟩, by simp [intOf]; omega⟩
            · have hk8 : ¬ (kb : Int) < 8 := by omega
              go_wp2_with fail
              go_loopw [13] (fun a wr => ∃ (ka : Nat) (v : Value) (G : List Ed), ka ≤ 8 ∧ a = .int .u64 ka ∧ Gr wa.heap.size x v G wr ∧ Below w.heap.size w wr ∧ Hid (∀ e ∈ G, e ∈ F ∧ ka ≤ e.1.toNat)) (fun a _ => 8 - (intOf a).toNat)
              case atStart => exact ⟨0, vb, F, by omega, rfl, hgb, hBb, fun e he => ⟨he, Nat.zero_le _⟩⟩
              case round =>
                obtain ⟨ka, va, G, hka, rfl, hga, hBa, HG⟩ := hrel
                clear hgb hBb
                by_cases hlt4 : ka < 8
                · have hau := u_small hlt4
                  have hwk : IntKind.u64.wrap ((ka : Int) + 1) = ((ka + 1 : Nat) : Int) := by rw [IntKind.wrap_u64]; omega
                  have hk8a : (ka : Int) < 8 := by omega
                  have hdn := gdone_any hga (UInt64.ofNat ka)
                  rw [hau] at hdn
                  have HAU : Hid ((UInt64.ofNat ka).toNat = ka) := hau
                  clear hau
                  go_wp2_with fail
                  refine hdn.mono ?_
                  rintro r w6 ⟨v6, rfl, hg6, hc6, -⟩
                  have hB6 : Below w.heap.size w w6 := hBa.trans ((hga.bel hc6).mono hsz)
                  have HG6 : Hid (∀ e ∈ dnE G (UInt64.ofNat ka), e ∈ F ∧ ka + 1 ≤ e.1.toNat) := fun e he => by
                    obtain ⟨q1, q2, _⟩ := dnE_mem he
                    obtain ⟨q3, q4⟩ := HG.out e q1
                    refine ⟨q3, ?_⟩
                    have : e.1.toNat ≠ ka := fun q => q2 (UInt64.toNat_inj.1 (by rw [HAU.out]; exact q))
                    omega
                  clear hdn hga hBa hc6
                  go_wp2_with fail
                  exact ⟨⟨ka + 1, v6, _, by omega, by go_num, hg6, hB6, HG6⟩, by simp [intOf]; omega⟩
                · have hk8a : ¬ (ka : Int) < 8 := by omega
                  have hGe : G = [] := by
                    cases G with
                    | nil => rfl
                    | cons e r =>
                      obtain ⟨q1, q2⟩ := HG.out e (by simp)
                      have := (HLt.out e q1).1
                      omega
                  subst hGe
                  have hed := edges_any hga
                  go_wp2_with fail
                  refine hed.mono ?_
                  rintro r w6 ⟨v6, rfl, ho6, hb6⟩
                  have HB6 : Hid (Below w.heap.size w w6) := hBa.trans (hb6.mono hBa.size)
                  obtain ⟨y1, y2, y3, -⟩ := ho6.rd.shape
                  subst y3
                  clear hed hga hBa hb6 ho6
                  go_wp2_with fail
                  go_ret
                  exact ⟨by simp, HB6.out⟩
end Go.Proofs.Ytpckmpnifdpeoaa
