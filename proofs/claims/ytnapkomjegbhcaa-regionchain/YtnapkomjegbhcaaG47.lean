/- The statement RegionChain, walked. -/
import Derived.Test.YtnapkomjegbhcaaG44
import Derived.Test.YtnapkomjegbhcaaG45
import Derived.Test.YtnapkomjegbhcaaG46
import Derived.Test.YtnapkomjegbhcaaG26
import Derived.Test.YtnapkomjegbhcaaG2
import Derived.Deep.CutBlock
import Derived.Deep.CutRange
import Derived.Deep.RegionHeld3
import Derived.BigQuiet
namespace Go.Proofs.Ytnapkomjegbhcaa
open Go.RowKit
set_option linter.unusedVariables false
set_option maxRecDepth 100000

/-- A list of numbers of the machine's size. -/
def RdI (w : World) (v : Value) (n : Nat) : Prop := ∃ ao c, v = .slice ao n c ∧ n ≤ c ∧ c ≤ 9223372036854775807 ∧ ∀ i, i < n → ∃ a z, ao = some a ∧ w.cell? (a.add i) = some (.int .i64 z)
/-- What the loop keeps. -/
def LI (w : World) (B : Nat) (v nv : Value) (i : Nat) (wr : World) : Prop := ∃ (rs : List Rg) (nx : UInt64), nv = .int .u64 (nx.toNat : Int) ∧ 10 ≤ nx.toNat ∧ nx.toNat ≤ 10 + 4 * i ∧ CI B nx.toNat (1 + 2 * i) v rs wr ∧ rs.length ≤ 1 + i ∧ Below w.heap.size w wr
/-- What it keeps behind a split. -/
def LI2 (w : World) (B : Nat) (v nv : Value) (i : Nat) (wr : World) : Prop := ∃ (rs : List Rg) (nx : UInt64), nv = .int .u64 (nx.toNat : Int) ∧ 10 ≤ nx.toNat ∧ nx.toNat ≤ 14 + 4 * i ∧ CI B nx.toNat (2 + 2 * i) v rs wr ∧ rs.length ≤ 2 + i ∧ Below w.heap.size w wr
/-- .. and behind a merge. -/
def LI3 (w : World) (B N : Nat) (v : Value) (i : Nat) (wr : World) : Prop := ∃ rs : List Rg, CI B N (3 + 2 * i) v rs wr ∧ rs.length ≤ 2 + i ∧ Below w.heap.size w wr
theorem CI.find {B N V : Nat} {v : Value} {rs : List Rg} {w : World} (h : CI B N V v rs w) (key : List UInt8) : ∃ k : Nat, ∃ hk : k < rs.length, fdI (rs.map Rg.r3) key = (k : Int) ∧ cov rs[k].s rs[k].e key = true := by
  have ho := h.prt.once key
  have hex : ∃ r ∈ rs.map Rg.r3, (fun r : R3 => cov r.2.1 r.2.2 key) r = true := by
    rcases Nat.eq_zero_or_pos ((rs.map Rg.r3).countP (fun r => cov r.2.1 r.2.2 key)) with q | q
    · omega
    · exact List.countP_pos_iff.1 q
  have hlt : fdF (rs.map Rg.r3) key < (rs.map Rg.r3).length := List.findIdx_lt_length.2 hex
  have hp := List.findIdx_getElem (w := hlt)
  refine ⟨fdF (rs.map Rg.r3) key, by simpa using hlt, ?_, ?_⟩
  · unfold fdI; rw [if_pos hlt]
  · have e : (rs.map Rg.r3)[fdF (rs.map Rg.r3) key]'hlt = (rs[fdF (rs.map Rg.r3) key]'(by simpa using hlt)).r3 := by simp
    have hp' : cov ((rs.map Rg.r3)[fdF (rs.map Rg.r3) key]'hlt).2.1 ((rs.map Rg.r3)[fdF (rs.map Rg.r3) key]'hlt).2.2 key = true := hp
    rw [e] at hp'
    exact hp'
set_option maxHeartbeats 20000000 in
theorem chain_walk {kv mv av : Value} {keys : List (List UInt8)} {nm : Nat} {ask : List UInt8} {w : World} (hkv : Rds w kv keys) (hmv : RdI w mv nm) (hav : Rd w av ask) :
    Calls Try.prog 3 #[kv, mv, av] w fun r w' => r = .returned (.bool true) ∧ Below w.heap.size w w' := by
  have HKV : Hid (Rds w kv keys) := hkv
  have HMV : Hid (RdI w mv nm) := hmv
  have HAV : Hid (Rd w av ask) := hav
  obtain ⟨kao, kcc, rfl, hk1, hk2, -⟩ := hkv
  obtain ⟨mao, mcc, rfl, hm1, hm2, -⟩ := hmv
  obtain ⟨aao, acc, rfl⟩ := hav.shp
  clear hav
  unfold maxLen at hk2
  have haw := awake_any w
  go_enter Try.func3, Try.ntmps3
  go_wp2_with fail
  refine haw.mono ?_
  rintro r wa ⟨rfl, hba⟩
  have hbg := begin_any wa
  clear haw
  go_wp2_with fail
  refine hbg.mono ?_
  rintro r wb ⟨v0, rs0, rfl, hC0, hl0, hbb⟩
  have hB0 : Below w.heap.size w wb := up_alX hba hbb
  have hsz : w.heap.size ≤ wa.heap.size := hba.size
  have hN0 : LI w wa.heap.size v0 (.int .u64 10) 0 wb := ⟨rs0, 10, rfl, by decide, by decide, hC0, by omega, hB0⟩
  obtain ⟨va0, vn0, vc0, rfl⟩ := row_sl hC0.all.row
  clear hbg hbb hC0 hB0 hba hl0
  generalize wa.heap.size = B at *
  clear wa
  generalize hnk : keys.length = nk at *
  have HNK : Hid (keys.length = nk) := hnk
  clear hnk
  go_wp2_with fail
  go_loopw [7, 8, 9, 10, 11, 12, 13, 14, 15, 16, 17] (fun v nv i _ _ _ _ _ _ _ _ wr => ∃ i0 : Nat, i0 ≤ nk ∧ i0 ≤ 40 ∧ i = .int .i64 i0 ∧ LI w B v nv i0 wr) (fun _ _ i _ _ _ _ _ _ _ _ _ => 40 - (intOf i).toNat)
  case atStart => exact ⟨0, Nat.zero_le _, Nat.zero_le _, rfl, hN0⟩
  case round =>
    obtain ⟨i, hi, hi4, rfl, hLI⟩ := hrel
    clear hN0
    obtain ⟨rs, nx, rfl, hx1, hx2, hC, hrl, hb⟩ := hLI
    obtain ⟨g, c, rfl, hc1, hc2, hgB, hgl, -⟩ := hC.all.some_ hC.ne
    unfold maxLen at hc2
    have hne := hC.ne
    have HC : Hid (CI B nx.toNat (1 + 2 * i) (.slice (some ⟨g, 0, none⟩) rs.length c) rs wr) := hC
    have HNE : Hid (rs ≠ []) := hne
    clear hC hne
    generalize hnr : rs.length = n at *
    have HNR : Hid (rs.length = n) := hnr
    clear hnr
    have hnp : 0 < n := by rw [← HNR.out]; exact List.length_pos_iff.2 HNE.out
    go_upto_region 6 with fail
    go_cut [28] from 21 to 209 (fun s wx => s = .bool (decide (i < nk ∧ i < 40)) ∧ wx = wr)
    case first =>
      as_aux_lemma =>
      by_cases q1 : i < nk
      · have l1 : (i : Int) < (nk : Int) := by omega
        by_cases q2 : i < 40
        · have l2 : (i : Int) < 40 := by omega
          go_wp2_with fail
          go_meet
          exact ⟨by simp [q1, q2], rfl⟩
        · have l2 : decide ((i : Int) < 40) = false := decide_eq_false (by omega)
          go_wp2_with fail
          go_meet
          exact ⟨by simp [q1, q2], rfl⟩
      · have l1 : decide ((i : Int) < (nk : Int)) = false := decide_eq_false (by omega)
        go_wp2_with fail
        go_meet
        exact ⟨by simp [q1], rfl⟩
    case rest =>
    obtain ⟨rfl, rfl⟩ := hcut
    by_cases hlt : i < nk ∧ i < 40
    · rw [decide_eq_true hlt]
      have hki : (i : Int) < (nk : Int) := by omega
      have hkl : i < keys.length := by rw [HNK.out]; exact hlt.1
      obtain ⟨ad, ku, ea, hcu, hrk⟩ : ∃ ad ku, kao = some ad ∧ wc.cell? (ad.add i) = some ku ∧ Rd wc ku keys[i] := by
        obtain ⟨ao', c', e', _, _, h4⟩ := HKV.out.below hb (Nat.le_refl _)
        simp only [Value.slice.injEq] at e'
        obtain ⟨a, u, q1, q2, q3⟩ := h4 i hkl
        exact ⟨a, u, by rw [e'.1]; exact q1, q2, q3⟩
      obtain ⟨ka, kc, rfl⟩ := hrk.shp
      subst ea
      obtain ⟨key, hkey⟩ : ∃ key, keys[i] = key := ⟨_, rfl⟩
      rw [hkey] at hcu hrk
      clear hkey
      obtain ⟨k, hk, hfk, hcov⟩ := HC.out.find key
      have hfd := find_any HC.out.all.rds hrk
      rw [hfk] at hfd
      obtain ⟨r, hr⟩ : ∃ r, rs[k] = r := ⟨_, rfl⟩
      rw [hr] at hcov
      have HGK : Hid (rs[k]? = some r) := by show _ = _; rw [List.getElem?_eq_getElem hk, hr]
      have hkn : k < n := by rw [← HNR.out]; exact hk
      have hki2 : (k : Int) < (n : Int) := by omega
      have hk0 : ¬ (k : Int) < 0 := by omega
      have HRK : Hid (Rd wc (.slice ka key.length kc) key ∧ cov r.s r.e key = true) := ⟨hrk, hcov⟩
      have HKC : Hid (∀ W, Below wc.heap.size wc W → W.cell? (ad.add i) = some (.slice ka key.length kc)) := fun W hW => by rw [hW.cell (World.block_lt_of_cell? _ _ hcu)]; exact hcu
      clear hfk hcov hr hrk hk
      go_wp2_with fail
      refine hfd.mono ?_
      rintro x w1 ⟨rfl, hb1⟩
      go_upto_region 11 with fail
      clear hfd
      have HC1 : Hid (CI B nx.toNat (1 + 2 * i) (.slice (some ⟨g, 0, none⟩) n c) rs w1) := HC.out.below hb1 (Nat.le_refl _)
      have hrm : r ∈ rs := List.mem_of_getElem? HGK.out
      have oR := HC1.out.all.own r hrm
      obtain ⟨r1, r3, er1⟩ := oR.s.rd.shp
      obtain ⟨r4, r6, er2⟩ := oR.e.rd.shp
      obtain ⟨r7, r9, er3⟩ := oR.p.shape
      obtain ⟨r2, er4⟩ : ∃ r2, r.s.length = r2 := ⟨_, rfl⟩
      obtain ⟨r5, er5⟩ : ∃ r5, r.e.length = r5 := ⟨_, rfl⟩
      obtain ⟨r8, er6⟩ : ∃ r8, r.pe.length = r8 := ⟨_, rfl⟩
      rw [er4] at er1
      rw [er5] at er2
      rw [er6] at er3
      have hgw : g < w1.heap.size := by have := hb1.size; have := hb.size; omega
      have HER : Hid (r.sv = .slice r1 r2 r3 ∧ r.ev = .slice r4 r5 r6 ∧ r.pv = .slice r7 r8 r9) := ⟨er1, er2, er3⟩
      have hBw1 : Below w.heap.size w w1 := up_alX hb hb1
      have HRK1 : Hid (Rd w1 (.slice ka key.length kc) key) := HRK.out.1.below hb1 (Nat.le_refl _)
      have HCV : Hid (cov r.s r.e key = true) := HRK.out.2
      have hf0 : w1.cell? (ad.add i) = some (.slice ka key.length kc) := HKC.out w1 hb1
      have HF0 : Hid (w1.cell? (ad.add i) = some (.slice ka key.length kc)) := hf0
      have HORD : Hid (Rd w1 (.slice r1 r2 r3) r.s) := by show Rd w1 (.slice r1 r2 r3) r.s; rw [← er1]; exact oR.s.rd
      clear er1 er2 er3 er4 er5 er6 oR hcu hf0 HC HRK HKC hb hb1
      refine walk11 _ _ _ _ _ _ _ _ _ _ _ _ _ _ _ _ _ _ _ _ _ _ _ _ _ _ _ _ _ _ _ _ _ _ _ _ _ _ _ _ _ _ _ _ _ _ _ _ _ _ _ _ _ _ _ _ _ _ _ _ _ _ _ _ _ _ _ _ _ _ _ _ _ _ _ _ _ _ _ _ _ _ _ _ _ _ _ _ _ _ _ _ _ _ _ _ _ _ _ _ _ _ _ _ _ _ _ _ _ _ _ _ _ _ _ _ _ _ _ _ _ _ _ _ _ _ _ _ _ _ _ _ _ _ _ _ _ _ _ _ _ _ _ _ _ _ _ _ _ _ _ _ _ _ _ _ _ _ _ _ _ _ _ _ _ _ _ _ _ _ _ _ _ _ _ _ _ _ _ _ _ _ _ _ _ _ _ _ _ _ _ _ _ _ _ _ _ _ _ _ _ _ _ _ _ _ _ HC1.out HGK.out HER.out.1 HER.out.2.1 HER.out.2.2 hx1 (by omega) (by omega) HCV.out HRK1.out hkn hc1 hc2 hlt.1 (by omega) hgw HF0.out ?_
      as_aux_lemma =>
      intro v39 v40 v41 v42 v43 v44 v45 v46 v47 v48 v49 v50 v51 v52 v53 v54 v55 v56 v57 v58 v59 ga gb ia ca va x1 y1 z1 x2 y2 z2 x3 y3 z3 s1 e1 p1 ib cb vb x4 y4 z4 x5 y5 z5 x6 y6 z6 s2 e2 p2 ec wS hS hQ
      have hBx : Below w.heap.size w wS := up_alX hBw1 hS.be
      have HCx : Hid (CI B nx.toNat (1 + 2 * i) (.slice (some ⟨g, 0, none⟩) n c) rs wS) := HC1.out.below hS.be (Nat.le_refl _)
      have HS : Hid _ := hS
      have HQ : Hid _ := hQ
      have hsx : w1.heap.size ≤ wS.heap.size := hS.be.size
      clear hS hQ
      go_upto_if 61 with fail
      go_cut [7, 8, 14, 15] from 21 to 209 (fun v nv _ _ wx => LI2 w B v nv i wx)
      case first =>
        as_aux_lemma =>
        have hs0 : w.heap.size ≤ B := hsz
        by_cases he : ec = 0
        · as_aux_lemma =>
          have hb61 : (ec == 0) = true := by rw [he]; rfl
          rw [hb61]
          clear hb61
          subst he
          obtain ⟨rfl, rfl, rfl, rfl, rfl, rfl, rfl, rfl, rfl, rfl, rfl, rfl, hk1, hkl⟩ := HQ.out.good rfl
          refine walk61 (D := w1.heap.size) _ _ _ _ _ _ _ _ _ _ _ _ _ _ _ _ _ _ _ _ _ _ _ _ _ _ _ _ _ _ _ _ _ _ _ _ _ _ _ _ _ _ _ _ _ _ _ _ _ _ _ _ _ _ _ _ _ _ _ _ _ _ _ _ _ _ _ _ _ _ _ _ _ _ _ _ _ _ _ _ _ _ _ _ _ _ _ _ _ _ _ _ _ _ _ _ _ _ _ _ _ _ _ _ _ _ _ _ _ _ _ _ _ _ _ _ _ _ _ _ _ _ _ _ _ _ _ _ _ _ _ _ _ _ _ _ _ _ _ _ _ _ _ _ _ _ _ _ _ _ _ _ _ _ _ _ _ _ _ _ _ _ _ _ _ _ _ _ _ _ _ _ _ _ _ _ _ _ _ _ _ _ _ _ _ _ _ _ _ _ _ _ _ _ _ _ _ _ _ _ _ _ _ _ _ _ HCx.out HNR.out HGK.out HER.out.1 HER.out.2.1 HER.out.2.2 hx1 (by omega) (by omega) (by omega) hc1 hc2 hgB hgw hsx HCV.out hk1 hkl HS.out.bl HS.out.bh HS.out.o1 HS.out.o2 HS.out.g1 HS.out.g2 ?_
          intro v14 v15 v62 v63 v64 v65 v66 v67 v68 v69 v70 v71 v72 v73 v74 v75 v76 v77 v78 v79 v80 v81 v82 v83 v84 v85 v86 v87 v88 v89 v90 v91 v92 v93 v94 v95 v96 v97 v98 v99 v100 v101 v102 v103 v104 v105 v106 v107 v108 v109 v110 v111 v112 v113 v114 v115 v116 v117 v118 v119 v120 v121 v122 v123 v124 v125 v126 v127 v128 v129 v130 v131 v132 v133 v134 v135 v136 v137 v138 v139 v140 v141 v142 v143 v144 v145 v' w' hC' hb'
          have t4 : (nx + 4).toNat = nx.toNat + 4 := u_add nx 4 (by omega) (by omega)
          have HLI : Hid (LI2 w B v' (.int .u64 ((nx.toNat : Int) + 4)) i w') := ⟨_, nx + 4, by rw [t4]; simp, by omega, by omega, by rw [t4]; exact hC'.mono (Nat.le_refl _) (by omega), by rw [List.length_append, List.length_set, HNR.out]; simp; omega, (hBx.trans ((hb'.mono hs0)))⟩
          clear hC' hb'
          first | (dsimp only; go_meet) | (go_wp2_with fail; go_meet)
          exact HLI.out
        · as_aux_lemma =>
          have hb61 : (ec == 0) = false := by rw [beq_eq_false_iff_ne]; exact he
          rw [hb61]
          clear hb61
          have hbad := HQ.out.bad he
          refine walk61b _ _ _ _ _ _ _ _ _ _ _ _ _ _ _ _ _ _ _ _ _ _ _ _ _ _ _ _ _ _ _ _ _ _ _ _ _ _ _ _ _ _ _ _ _ _ _ _ _ _ _ _ _ _ _ _ _ _ _ _ _ _ _ _ _ _ _ _ _ _ _ _ _ _ _ _ _ _ _ _ _ _ _ _ _ _ _ _ _ _ _ _ _ _ _ _ _ _ _ _ _ _ _ _ _ _ _ _ _ _ _ _ _ _ _ _ _ _ _ _ _ _ _ _ _ _ _ _ _ _ _ _ _ _ _ _ _ _ _ _ _ _ _ _ _ _ _ _ _ _ _ _ _ _ _ _ _ _ _ _ _ _ _ _ _ _ _ _ _ _ _ _ _ _ _ _ _ _ _ _ _ _ _ _ _ _ _ _ _ _ _ _ _ _ _ _ _ _ _ _ _ _ _ _ _ _ _ hkn hc1 hc2 hlt.1 (by omega) (HRK1.out.below HS.out.be (Nat.le_refl _)) (HORD.out.below HS.out.be (Nat.le_refl _)) hbad (by rw [HS.out.be.cell (World.block_lt_of_cell? _ _ HF0.out)]; exact HF0.out) (by have q := (HCx.out.all.c6 HGK.out).2.1; simp only [Rg.v6] at q; rw [HER.out.1] at q; exact q) ?_
          intro v146 v147 v148 v149 v150 v151 v152 v153 v154 v155 v156 v157 v158 v159 v160 v161 v162 v163 v164 w' hb'
          have HLI : Hid (LI2 w B (.slice (some ⟨g, 0, none⟩) n c) (.int .u64 (nx.toNat : Int)) i w') := ⟨rs, nx, rfl, hx1, by omega, (HCx.out.below hb' (Nat.le_refl _)).mono (Nat.le_refl _) (by omega), by rw [HNR.out]; omega, up_alX hBx hb'⟩
          clear hb'
          first | (dsimp only; go_meet) | (go_wp2_with fail; go_meet)
          exact HLI.out
      case rest =>
      as_aux_lemma =>
      obtain ⟨rs2, nx2, rfl, hy1, hy2, hC2, hl2, hB2⟩ := hcut
      obtain ⟨g2, c2, rfl, hd1, hd2, hgB2, hgl2, -⟩ := hC2.all.some_ hC2.ne
      unfold maxLen at hd2
      have HC2 : Hid (CI B nx2.toNat (2 + 2 * i) (.slice (some ⟨g2, 0, none⟩) rs2.length c2) rs2 wc) := hC2
      clear hC2 HC1 HCx HS HQ HGK HER HRK1 HCV HF0 HORD hBx hsx hBw1 hrm hgw
      generalize hn2 : rs2.length = n2 at *
      have HN2 : Hid (rs2.length = n2) := hn2
      clear hn2
      go_upto_region 23 with fail
      go_cut [173] from 21 to 209 (fun s wx => s = .bool (decide (i < nm ∧ 1 < n2)) ∧ wx = wc)
      case first =>
        as_aux_lemma =>
        by_cases q1 : i < nm
        · have l1 : (i : Int) < (nm : Int) := by omega
          by_cases q2 : 1 < n2
          · have l2 : (n2 : Int) > 1 := by omega
            go_wp2_with fail
            go_meet
            exact ⟨by simp [q1, q2], rfl⟩
          · have l2 : decide ((n2 : Int) > 1) = false := decide_eq_false (by omega)
            go_wp2_with fail
            go_meet
            exact ⟨by simp [q1, q2], rfl⟩
        · have l1 : decide ((i : Int) < (nm : Int)) = false := decide_eq_false (by omega)
          go_wp2_with fail
          go_meet
          exact ⟨by simp [q1], rfl⟩
      case rest =>
      obtain ⟨rfl, rfl⟩ := hcut
      go_upto_if 173 with fail
      go_cut [7] from 21 to 209 (fun v wx => LI3 w B nx2.toNat v i wx)
      case first =>
        as_aux_lemma =>
        by_cases hq : i < nm ∧ 1 < n2
        · rw [decide_eq_true hq]
          obtain ⟨ma, z, ema, hcz⟩ : ∃ ma z, mao = some ma ∧ wc.cell? (ma.add i) = some (.int .i64 z) := by
            obtain ⟨ao', c', e', _, _, h4⟩ := HMV.out
            simp only [Value.slice.injEq] at e'
            obtain ⟨a, z, q1, q2⟩ := h4 i hq.1
            exact ⟨a, z, by rw [e'.1]; exact q1, by rw [hB2.cell (World.block_lt_of_cell? _ _ q2)]; exact q2⟩
          subst ema
          have hmg := merged_any HC2.out (by omega) (by rw [HN2.out]; omega) (by rw [HN2.out]; omega) z
          have hq1 : (i : Int) < (nm : Int) := by omega
          go_wp2_with fail
          refine hmg.mono ?_
          rintro x w3 ⟨v3, rs3, rfl, hC3, hl3, hb3⟩
          have HLI : Hid (LI3 w B nx2.toNat v3 i w3) := ⟨rs3, hC3.mono (Nat.le_refl _) (by omega), by have := HN2.out; omega, hB2.trans (hb3.mono hsz)⟩
          obtain ⟨p1, p2, p3, rfl⟩ := row_sl hC3.all.row
          clear hC3 hl3 hb3 hmg
          go_wp2_with fail
          go_meet
          exact HLI.out
        · rw [decide_eq_false hq]
          have HLI : Hid (LI3 w B nx2.toNat (.slice (some ⟨g2, 0, none⟩) n2 c2) i wc) := ⟨rs2, HC2.out.mono (Nat.le_refl _) (by omega), by have := HN2.out; omega, hB2⟩
          go_wp2_with fail
          go_meet
          exact HLI.out
      case rest =>
      as_aux_lemma =>
      obtain ⟨rs3, hC3, hl3, hB3⟩ := hcut
      obtain ⟨g3, c3, rfl, he1, he2, hgB3, hgl3, -⟩ := hC3.all.some_ hC3.ne
      unfold maxLen at he2
      have HC3 : Hid (CI B nx2.toNat (3 + 2 * i) (.slice (some ⟨g3, 0, none⟩) rs3.length c3) rs3 wc) := hC3
      clear hC3 HC2 HN2 hB2
      generalize hn3 : rs3.length = n3 at *
      have HN3 : Hid (rs3.length = n3) := hn3
      clear hn3
      have hpt := partition_prt HC3.out.all.rds (by rw [List.length_map, HN3.out]; omega) HC3.out.prt
      go_wp2_with fail
      refine hpt.mono ?_
      rintro x w4 ⟨rfl, hb4⟩
      have HC4 : Hid (CI B nx2.toNat (3 + 2 * i) (.slice (some ⟨g3, 0, none⟩) n3 c3) rs3 w4) := HC3.out.below hb4 (Nat.le_refl _)
      have hB4 : Below w.heap.size w w4 := up_alX hB3 hb4
      clear hpt HC3 hb4 hB3
      go_upto_block 2 with fail
      refine walkL _ _ _ _ _ _ _ _ _ _ _ _ _ _ _ _ _ _ _ _ _ _ _ _ _ _ _ _ _ _ _ _ _ _ _ _ _ _ _ _ _ _ _ _ _ _ _ _ _ _ _ _ _ _ _ _ _ _ _ _ _ _ _ _ _ _ _ _ _ _ _ _ _ _ _ _ _ _ _ _ _ _ _ _ _ _ _ _ _ _ _ _ _ _ _ _ _ _ _ _ _ _ _ _ _ _ _ _ _ _ _ _ _ _ _ _ _ _ _ _ _ _ _ _ _ _ _ _ _ _ _ _ _ _ _ _ _ _ _ _ _ _ _ _ _ _ _ _ _ _ _ _ _ _ _ _ _ _ _ _ _ _ _ _ _ _ _ _ _ _ _ _ _ _ _ _ _ _ _ _ _ _ _ _ _ _ _ _ _ _ _ _ _ _ _ _ _ _ _ _ _ _ _ _ _ _ _ _ HC4.out HN3.out (by omega) he1 he2 (HAV.out.below hB4 (Nat.le_refl _)) ?_
      as_aux_lemma =>
      intro v17 v183 v184 v185 v186 v187 v188 v189 v190 v191 v192 v193 v194 v195 v196 w5 hb5
      have HC5 : Hid (CI B nx2.toNat (3 + 2 * i) (.slice (some ⟨g3, 0, none⟩) n3 c3) rs3 w5) := HC4.out.below hb5 (Nat.le_refl _)
      have hB5 : Below w.heap.size w w5 := up_alX hB4 hb5
      obtain ⟨k5, hk5, hfk5, hcov5⟩ := HC5.out.find ask
      have hfd5 := find_any HC5.out.all.rds (HAV.out.below hB5 (Nat.le_refl _))
      rw [hfk5] at hfd5
      have hk5n : k5 < n3 := by rw [← HN3.out]; exact hk5
      have hk5i : (k5 : Int) < (n3 : Int) := by omega
      obtain ⟨q, hq⟩ : ∃ q, rs3[k5] = q := ⟨_, rfl⟩
      rw [hq] at hcov5
      have HG5 : Hid (rs3[k5]? = some q) := by show _ = _; rw [List.getElem?_eq_getElem hk5, hq]
      have HCV5 : Hid (cov q.s q.e ask = true) := hcov5
      clear HC4 hB4 hb5 hfk5 hq hcov5 hk5
      go_wp2_with fail
      refine hfd5.mono ?_
      rintro x w6 ⟨rfl, hb6⟩
      have HC6 : Hid (CI B nx2.toNat (3 + 2 * i) (.slice (some ⟨g3, 0, none⟩) n3 c3) rs3 w6) := HC5.out.below hb6 (Nat.le_refl _)
      have hB6 : Below w.heap.size w w6 := up_alX hB5 hb6
      obtain ⟨m0, m1, m2, m3, m4, m5⟩ := HC6.out.all.c6 HG5.out
      have oq := HC6.out.all.own q (List.mem_of_getElem? HG5.out)
      simp only [Rg.v6] at m0 m1 m2 m3 m4 m5
      obtain ⟨q1, q3, eq1⟩ := oq.s.rd.shp
      obtain ⟨q4, q6, eq2⟩ := oq.e.rd.shp
      obtain ⟨q7, q9, eq3⟩ := oq.p.shape
      have hcv := covers_any (i := (q.id.toNat : Int)) (c := 1) (r := (q.vr.toNat : Int)) (pa := q7) (pn := q.pe.length) (pk := q9) oq.s.rd oq.e.rd (HAV.out.below hB6 (Nat.le_refl _))
      rw [eq1, eq2, HCV5.out] at hcv
      rw [eq1] at m1
      rw [eq2] at m2
      rw [eq3] at m5
      generalize q.pe.length = q8 at *
      generalize q.s.length = q2 at *
      generalize q.e.length = q5 at *
      clear hfd5 HC5 hB5 hb6 oq eq1 eq2 eq3
      go_wp2_with fail
      refine hcv.mono ?_
      rintro x w7 ⟨rfl, hb7⟩
      have HLI : Hid (LI w B (.slice (some ⟨g3, 0, none⟩) n3 c3) (.int .u64 (nx2.toNat : Int)) (i + 1) w7) := ⟨rs3, nx2, rfl, hy1, by omega, (HC6.out.below hb7 (Nat.le_refl _)).mono (Nat.le_refl _) (by omega), by rw [HN3.out]; omega, up_alX hB6 hb7⟩
      clear hcv m0 m1 m2 m3 m4 m5 HC6 hb7 hB6
      have hwi : IntKind.i64.wrap ((i : Int) + 1) = ((i + 1 : Nat) : Int) := by rw [IntKind.wrap_i64]; omega
      go_wp2_with fail
      exact ⟨⟨i + 1, by omega, by omega, by go_num, HLI.out⟩, by simp [intOf]; omega⟩
    · as_aux_lemma =>
      rw [decide_eq_false hlt]
      have hpt := partition_prt HC.out.all.rds (by rw [List.length_map, HNR.out]; omega) HC.out.prt
      go_wp2_with fail
      refine hpt.mono ?_
      rintro x w4 ⟨rfl, hb4⟩
      have hB4 : Below w.heap.size w w4 := up_alX hb hb4
      clear hpt hb4
      go_wp2_with fail
      go_ret
      exact ⟨rfl, hB4⟩
end Go.Proofs.Ytnapkomjegbhcaa
