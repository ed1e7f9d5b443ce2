/- Decide, where nothing is to be merged. -/
import Derived.Test.YtedfjacmaidhkaaGreatG40
import Derived.Test.YtedfjacmaidhkaaGreatG33
namespace Go.Proofs.YtedfjacmaidhkaaGreat
open Go.RowKit Go.Maps
set_option linter.unusedVariables false
set_option linter.unusedSimpArgs false
set_option maxRecDepth 100000

/-- The orders in memory of the call's own. -/
def OwOr (B : Nat) (w : World) (v : Value) (l : List Or) : Prop := w.ownsRow B 32 5 v l.length (ors l)
theorem OwOr.mono {B C : Nat} {w : World} {v : Value} {l : List Or} (h : OwOr C w v l) (hB : B ≤ C) : OwOr B w v l := by
  refine ⟨h.1, ?_⟩
  rcases h.2 with q | ⟨g, cap, cur, e, h1, r⟩
  · exact .inl q
  · exact .inr ⟨g, cap, cur, e, Nat.le_trans hB h1, r⟩
/-- A plan's cells as the rules ask them. -/
def plD (a b c : Int) (n : Nat) : PL := ⟨a, b, c, repF a n, (none, 0, 0), (none, 0, 0), 0, 0, 0, 0, (none, 0, 0), none⟩
def DcdP (w : World) (a b c : Int) (ss : List Sw) (vs : List RV) (e : Ending) (w' : World) : Prop :=
  ∃ (v : Value) (rs : List RV) (p : PD) (os : List Or), e = .returned v ∧ rs.Perm (trF vs) ∧ rs.Pairwise (fun a b => a.id.toNat ≤ b.id.toNat) ∧ RunD (plD a b c (tsF ss).length) rs (cntR (p00 (tsF ss) rs) rs, []) (p, os) ∧ OwOr w.heap.size w' v os ∧ Below w.heap.size w w'
/-- Nothing is to be merged. -/
def NoMrg (c : Int) (ss : List Sw) (vs : List RV) : Prop := ∀ rs : List RV, rs.Perm (trF vs) → ∀ r ∈ rs, r.bz = true ∨ (decide (0 < c) && decide (r.sz ≤ c)) = false ∨ (cntR (p00 (tsF ss) rs) rs).st r.e = none ∨ r.e = []
/-- Between two regions. -/
structure DcI (w0 : World) (x g : Nat) (c : Int) (ts : List Sw) (rs : List RV) (k : Nat) (d : PL) (p : PD) (os : List Or) (w : World) : Prop where
  f : Ful (sK rs + 2 * k) w0 x d p os w
  rg : d.ru = some g
  pss : p.ss = ts
  prs : p.rs = rs
  st : p.st = (cntR (p00 ts rs) rs).st
  le : p.le = (cntR (p00 ts rs) rs).le
  ld : ∀ s, -(k : Int) ≤ p.ld s ∧ p.ld s ≤ (sK rs : Int) + k
  ol : os.length ≤ k
def SameD (a b c rep : Int) (sv rv : Option Addr × Nat × Nat) (d : PL) : Prop := d.pr = a ∧ d.psp = b ∧ d.pmg = c ∧ d.rep = rep ∧ d.sv = sv ∧ d.rv = rv
theorem StepD.cast {d d' : PL} {r : RV} {s t : PD × List Or} (h : StepD d r s t) (h1 : d.psp = d'.psp) (h2 : d.rep = d'.rep) : StepD d' r s t := by
  have e : seven d s.1 r NoM = seven d' s.1 r NoM := by
    unfold seven
    have e1 : PromP d s.1 r = PromP d' s.1 r := by unfold PromP; rw [h2]
    have e2 : AddP d s.1 r = AddP d' s.1 r := by unfold AddP; rw [h2]
    have e3 : RemP d s.1 r = RemP d' s.1 r := by unfold RemP; rw [h2]
    have e4 : SplP d r = SplP d' r := by unfold SplP; rw [h1]
    rw [e1, e2, e3, e4]
  unfold StepD at *
  rw [← e]
  exact h
set_option maxHeartbeats 8000000 in
theorem decideAll_any {v1 v2 : Value} {ss : List Sw} {vs : List RV} {w : World} (a b c : Int) (h1 : RdSw w v1 ss) (h2 : RdRv w v2 vs) (hl1 : ss.length ≤ 1099511627000) (hl2 : vs.length ≤ 1099511627) (hsK : sK vs + 2 < 109951162700) (hok : ∀ r ∈ vs, (∀ q ∈ r.ps, i64 q.2.1) ∧ i64 r.ld) (hpl : ∀ r ∈ vs, r.ps.length ≤ 1099511627000) (hnm : NoMrg c ss vs) :
    Calls Tryz.prog 9 #[.agg #[.int .i64 a, .int .i64 b, .int .i64 c], v1, v2] w fun e w' => DcdP w a b c ss vs e w' := by
  have hbp := ob_al w (.cells #[.int .i64 a, .int .i64 b, .int .i64 c] 23)
  have hkp := heap_new w (.cells #[.int .i64 a, .int .i64 b, .int .i64 c] 23)
  have hnp := newPlan_any a b c (h1.below hbp (Nat.le_refl _)) (h2.below hbp (Nat.le_refl _)) hl1 (by omega) (by omega) hok
  have HOK : Hid _ := hok
  have HPL : Hid _ := hpl
  have HNM : Hid (NoMrg c ss vs) := hnm
  have HLV : Hid (vs.length ≤ 1099511627 ∧ sK vs + 2 < 109951162700 ∧ ss.length ≤ 1099511627000) := ⟨hl2, hsK, hl1⟩
  obtain ⟨a1, c1, rfl, -⟩ := h1
  obtain ⟨a2, c2, rfl, -⟩ := h2
  clear hok hpl hnm hl1 hl2 hsK
  obtain ⟨y0, y1, y2, _⟩ := cells3 hkp
  have hsz0 : w.heap.size ≤ (w.alloc (.cells #[.int .i64 a, .int .i64 b, .int .i64 c] 23)).heap.size := hbp.size
  clear hkp
  go_enter Tryz.func9, Tryz.ntmps9
  go_upto_region 1 with fail
  generalize World.alloc w _ = wa at *
  go_wp2_with fail
  refine hnp.mono ?_
  rintro e w1 ⟨x, d, rs, rfl, hrp, hrs, hd1, hd2, hd3, hd4, hd5, hF⟩
  have hru := rules_any x w1
  have hsub : ∀ r ∈ rs, r ∈ vs := fun r hr => (trF_sub vs).mem (hrp.mem_iff.1 hr)
  have HRO : Hid (∀ r ∈ rs, (∀ q ∈ r.ps, i64 q.2.1) ∧ i64 r.ld) := fun r hr => HOK.out r (hsub r hr)
  have HRL : Hid (∀ r ∈ rs, r.ps.length ≤ 1099511627000) := fun r hr => HPL.out r (hsub r hr)
  have HRN : Hid (∀ r ∈ rs, r.bz = true ∨ (decide (0 < c) && decide (r.sz ≤ c)) = false ∨ (cntR (p00 (tsF ss) rs) rs).st r.e = none ∨ r.e = []) := fun r hr => HNM.out rs hrp r hr
  have HRP : Hid (rs.Perm (trF vs) ∧ rs.Pairwise (fun a b => a.id.toNat ≤ b.id.toNat)) := ⟨hrp, hrs⟩
  have HSK : Hid (sK rs + 2 < 109951162700 ∧ rs.length ≤ 1099511627 ∧ (tsF ss).length ≤ 1099511627000) := by
    obtain ⟨q1, q2, q3⟩ := HLV.out
    have e1 := sK_perm hrp
    have e2 := sK_sub (trF_sub vs)
    have e3 := hrp.length_eq
    have e4 := trF_len vs
    have e5 := tsF_len ss
    exact ⟨by omega, by omega, by omega⟩
  have HTD : Hid (∀ s ∈ tsF ss, i64 s.1) := fun s hs => by
    have := tsF_dom ss s hs
    unfold i64; omega
  have HDD : Hid (d.pr = a ∧ d.psp = b ∧ d.pmg = c ∧ d.rep = repF a (tsF ss).length ∧ d.ov = (none, 0, 0)) := ⟨hd1, hd2, hd3, hd4, hd5⟩
  have HF1 : Hid _ := hF
  have HBW : Hid (Below w.heap.size w wa) := hbp
  clear hnp hrp hrs hd1 hd2 hd3 hd4 hd5 hF HOK HPL HNM HLV hsub y0 y1 y2 hbp
  generalize hts : tsF ss = ts at *
  have HTS : Hid (tsF ss = ts) := hts
  clear hts
  go_wp2_with fail
  refine hru.mono ?_
  rintro e w2 ⟨rfl, hg2, hb2⟩
  have HF2 : Hid (Ful (sK rs) wa x { d with ru := some w1.heap.size } (cntR (p00 ts rs) rs) [] w2) := (HF1.out.below hb2).setRu hg2
  generalize w1.heap.size = g at *
  clear hru hg2 hb2 HF1
  have hrv : ∃ a14 c14, d.rv = (a14, rs.length, c14) := by
    have h5 := HF2.out.rs
    obtain ⟨a14, c14, e, _⟩ := row_reads h5
    rw [cntR_rs] at e
    refine ⟨a14, c14, ?_⟩
    unfold sv at e
    simp only [Value.slice.injEq] at e
    exact Prod.ext e.1 (Prod.ext e.2.1 e.2.2)
  obtain ⟨a14, c14, hrv⟩ := hrv
  have HRV : Hid (d.rv = (a14, rs.length, c14)) := hrv
  have x5 : w2.cell? ⟨x, 5, none⟩ = some (.slice a14 rs.length c14) := by
    have := HF2.out.pln.at_ (i := 5) (v := sv d.rv) rfl
    rw [hrv] at this
    exact this
  clear hrv
  generalize hrn : rs.length = n at *
  have HN : Hid (rs.length = n) := hrn
  clear hrn
  go_wp2_with fail
  go_loopw [10, 22] (fun _ i wr => ∃ k : Nat, k ≤ n ∧ i = .int .i64 k ∧ Hid (∃ (d : PL) (p : PD) (os : List Or), DcI wa x g c ts rs k d p os wr ∧ (d.psp = b ∧ d.pmg = c ∧ d.rep = repF a ts.length ∧ d.rv = (a14, n, c14)) ∧ ∀ fin, RunD (plD a b c ts.length) (rs.drop k) (p, os) fin → RunD (plD a b c ts.length) rs (cntR (p00 ts rs) rs, []) fin)) (fun _ i _ => n - (intOf i).toNat)
  case atStart =>
    refine ⟨0, Nat.zero_le _, rfl, ⟨_, _, _, ⟨HF2.out, rfl, cntR_ss _ _, cntR_rs _ _, rfl, rfl, fun s => ?_, Nat.le_refl _⟩, ⟨HDD.out.2.1, HDD.out.2.2.1, HDD.out.2.2.2.1, HRV.out⟩, fun fin h => h⟩⟩
    have := cntR_ld ts rs rs s
    omega
  case round =>
    obtain ⟨k, hk, rfl, HQ⟩ := hrel
    clear x5
    obtain ⟨d1, p1, os, hI, hD, hR⟩ := HQ.out
    have HR : Hid _ := hR
    have HI : Hid _ := hI
    have HD : Hid _ := hD
    clear HQ hR HF2 HDD HRV
    by_cases hlt : k < n
    · have hlt' : k < rs.length := by rw [HN.out]; exact hlt
      have HDR : Hid (rs.drop k = rs[k] :: rs.drop (k + 1)) := List.drop_eq_getElem_cons hlt'
      have hpr : RdRv wr (.slice a14 n c14) rs := by
        have := hI.f.pln.rs
        rw [hI.prs, hD.2.2.2] at this
        exact this
      obtain ⟨ao', c', e, _, _, h4⟩ := hpr
      simp only [Value.slice.injEq] at e
      obtain ⟨rfl, -, rfl⟩ := e
      obtain ⟨_, ad, rfl, hat⟩ := h4 k _ (List.getElem?_eq_getElem hlt')
      clear h4
      have hki : (k : Int) < (n : Int) := by omega
      have hir : It9 wa rs[k] := hI.f.it _ (by rw [hI.prs]; exact List.getElem_mem hlt')
      have hor := HRO.out _ (List.getElem_mem hlt')
      have hol := HRL.out _ (List.getElem_mem hlt')
      have hon := HRN.out _ (List.getElem_mem hlt')
      generalize rs[k] = r at *
      obtain ⟨c0, c1, c2, c3, c4, c5, c6, c7, c8⟩ := hat.nine
      clear hat
      have hbx := ob_al wr (.cells (r9 r) 42)
      have hkx := heap_new wr (.cells (r9 r) 42)
      have HFX : Hid (Ful (sK rs + 2 * k) wa x d1 p1 os (wr.alloc (.cells (r9 r) 42))) := hI.f.below hbx
      have HOR : Hid ((∀ q ∈ r.ps, i64 q.2.1) ∧ i64 r.ld) := hor
      have HOL : Hid (r.ps.length ≤ 1099511627000) := hol
      have HON : Hid _ := hon
      have HIR : Hid (It9 wa r) := hir
      clear hI hD hir hor hol hon
      simp only [r9] at hkx hbx HFX
      go_upto_region 6 with fail
      generalize World.alloc wr _ = wx at *
      obtain ⟨n0, n1, n2, n3, n4, n5, n6, n7, n8⟩ := nine_at (r := r) hkx
      clear c0 c1 c2 c3 c4 c5 c6 c7 c8 hbx
      have HKX : Hid (wx.heap[wr.heap.size]? = some (.cells (r9 r) 42 (0, 0))) := hkx
      clear hkx
      generalize wr.heap.size = bx at *
      have STAY : Hid (∀ W d2 p2 os2, DcI wa x g c ts rs (k + 1) d2 p2 os2 W → (d2.psp = b ∧ d2.pmg = c ∧ d2.rep = repF a ts.length ∧ d2.rv = (some ad, n, c14)) → StepD d1 r (p1, os) (p2, os2) → Hid (∃ (d : PL) (p : PD) (os : List Or), DcI wa x g c ts rs (k + 1) d p os W ∧ (d.psp = b ∧ d.pmg = c ∧ d.rep = repF a ts.length ∧ d.rv = (some ad, n, c14)) ∧ ∀ fin, RunD (plD a b c ts.length) (rs.drop (k + 1)) (p, os) fin → RunD (plD a b c ts.length) rs (cntR (p00 ts rs) rs, []) fin)) := fun W d2 p2 os2 hW h2 hst => by
        refine ⟨d2, p2, os2, hW, h2, fun fin hf => HR.out fin ?_⟩
        rw [HDR.out]
        exact .cons (hst.cast HD.out.1 HD.out.2.2.1) hf
      have SAME : Hid (∀ W, Ful (sK rs + 2 * k) wa x d1 p1 os W → DcI wa x g c ts rs (k + 1) d1 p1 os W) := fun W hW =>
        ⟨hW.mono (by omega), HI.out.rg, HI.out.pss, HI.out.prs, HI.out.st, HI.out.le, fun s => by have := HI.out.ld s; omega, by have := HI.out.ol; omega⟩
      generalize hbz : r.bz = bz at n8
      have HBZ : Hid (r.bz = bz) := hbz
      cases bz with
      | true =>
        go_wp2_with fail
        exact ⟨⟨k + 1, by omega, by go_num, STAY.out wx _ _ _ (SAME.out wx HFX.out) HD.out (.inl ⟨.inl (.inl HBZ.out), rfl⟩)⟩, by simp [intOf]; omega⟩
      | false =>
        have hin := isNamed_any (r := r) HFX.out.pln
        rw [hbz] at hin
        clear hbz
        generalize hnn : p1.nm r.id.toNat = nn at *
        have HNN : Hid (p1.nm r.id.toNat = nn) := hnn
        clear hnn
        go_wp2_with fail
        refine hin.mono ?_
        rintro e w4 ⟨rfl, hb4⟩
        have HF4 : Hid (Ful (sK rs + 2 * k) wa x d1 p1 os w4) := HFX.out.below hb4
        have hk4 := keep_blkT HKX.out hb4
        clear hin n0 n1 n2 n3 n4 n5 n6 n7 n8 hb4 HKX HFX
        cases nn with
        | true =>
          go_wp2_with fail
          exact ⟨⟨k + 1, by omega, by go_num, STAY.out w4 _ _ _ (SAME.out w4 HF4.out) HD.out (.inl ⟨.inl (.inr HNN.out), rfl⟩)⟩, by simp [intOf]; omega⟩
        | false =>
          obtain ⟨n0, n1, n2, n3, n4, n5, n6, n7, n8⟩ := nine_at (r := r) hk4
          rw [HBZ.out] at n8
          have hld : sm62 p1.ld := fun s => by
            have e1 := HI.out.ld s
            have e2 := HSK.out
            have h8 : rs.length = n := HN.out
            omega
          have hle : sm62 p1.le := fun s => by
            have e1 := cntR_le ts rs rs s
            rw [HI.out.le]
            have e2 := HSK.out
            omega
          have hss : ∀ s ∈ p1.ss, i64 s.1 := by rw [HI.out.pss]; exact HTD.out
          have hst : ∀ key v, p1.st key = some v → ∃ i : Nat, v = (i : Int) ∧ i < p1.rs.length := fun key v hv => by
            rw [HI.out.st] at hv
            obtain ⟨i, e1, q, e2, _⟩ := cntR_st ts rs rs key v hv
            exact ⟨i, e1, by rw [HI.out.prs]; exact (List.getElem?_eq_some_iff.1 e2).1⟩
          have hno : smaF d1 r = false ∨ p1.st r.e = none ∨ r.e = [] := by
            rcases HON.out with q | q | q | q
            · rw [HBZ.out] at q; cases q
            · left; unfold smaF; rw [HD.out.2.1]; exact q
            · right; left; rw [HI.out.st]; exact q
            · right; right; exact q
          have hmm : ∀ W, Below w4.heap.size w4 W → Calls Tryz.prog 42 #[.pointer (some ⟨x, 0, none⟩), .agg (r9 r)] W fun e w' => RuA W NoM e w' := fun W hW => merge_no (HF4.out.below hW).pln (HIR.out.below (HF4.out.below hW).bl (Nat.le_refl _)) hst hno
          have hrd := seven_rd HF4.out (HF4.out.ru g HI.out.rg) HIR.out HOR.out.1 HOL.out hss (by rw [HI.out.pss]; exact HSK.out.2.2) hld HOR.out.2 hle hmm
          have hde := decide_any HF4.out hrd (seven_ok HOR.out.1 hss) hld (by have := HSK.out; have h8 : rs.length = n := HN.out; omega) (by have := HI.out.ol; have := HSK.out; have h8 : rs.length = n := HN.out; omega)
          simp only [r9] at hde
          rw [HBZ.out] at hde
          clear hld hle hss hst hno hmm hrd hk4
          go_wp2_with fail
          refine hde.mono ?_
          rintro e w5 ⟨⟨u, rfl⟩, hcase⟩
          have HC : Hid _ := hcase
          clear hde hcase n0 n1 n2 n3 n4 n5 n6 n7 n8
          go_wp2_with fail
          rcases HC.out with ⟨hall, hF5⟩ | ⟨i, S, o, q1, q2, q3, y, hF5⟩
          · exact ⟨⟨k + 1, by omega, by go_num, STAY.out w5 _ _ _ (SAME.out w5 hF5) HD.out (.inl ⟨.inr hall, rfl⟩)⟩, by simp [intOf]; omega⟩
          · have hnew : DcI wa x g c ts rs (k + 1) { d1 with ov := y } { p1 with ld := ldG p1.ld o, nm := gPut p1.nm o.reg } (os ++ [o]) w5 :=
              ⟨hF5.mono (by omega), HI.out.rg, HI.out.pss, HI.out.prs, HI.out.st, HI.out.le, fun s => by have := HI.out.ld s; have := ldG_near p1.ld o s; show _ ≤ ldG p1.ld o s ∧ ldG p1.ld o s ≤ _; omega, by have := HI.out.ol; rw [List.length_append, List.length_singleton]; omega⟩
            exact ⟨⟨k + 1, by omega, by go_num, STAY.out w5 _ _ _ hnew HD.out (.inr ⟨HBZ.out, HNN.out, i, S, o, q1, q2, q3, rfl⟩)⟩, by simp [intOf]; omega⟩
    · have HE : Hid (RunD (plD a b c ts.length) rs (cntR (p00 ts rs) rs, []) (p1, os)) := HR.out _ (by rw [List.drop_of_length_le (by rw [HN.out]; omega)]; exact .nil _)
      have HO : Hid (OwOr w.heap.size wr (.slice d1.ov.1 d1.ov.2.1 d1.ov.2.2) os) := OwOr.mono HI.out.f.os hsz0
      have HB : Hid (Below w.heap.size w wr) := HBW.out.trans (HI.out.f.bl.mono hsz0)
      have y8 : wr.cell? ⟨x, 10, none⟩ = some (.slice d1.ov.1 d1.ov.2.1 d1.ov.2.2) := HI.out.f.pln.at_ (i := 10) rfl
      go_wp2_with fail
      go_ret
      exact ⟨_, rs, p1, os, rfl, HRP.out.1, HRP.out.2, by rw [HTS.out]; exact HE.out, HO.out, HB.out⟩
end Go.Proofs.YtedfjacmaidhkaaGreat
