/- Proved here: ParcelBoxes answers true for every sum, every length and all pieces: the box and the document's tell the same, piece after piece; where what is read is of bulk at most 1048576. -/
import Derived.Test.YtlajncjamafomaaG43
import Derived.Test.YtlajncjamafomaaG30
import Derived.Test.YtlajncjamafomaaG24
import Derived.Test.YtlajncjamafomaaG14
import Derived.Test.YtlajncjamafomaaG8
namespace Go.Proofs.Ytlajncjamafomaa
open Go.RowKit Go.Maps
set_option linter.unusedVariables false
set_option maxRecDepth 100000

set_option maxHeartbeats 8000000 in
theorem boxes_walk (s : Nat) (hs : s < 4294967296) (z : Int) (hz : -9223372036854775808 ≤ z ∧ z ≤ 9223372036854775807) {vp : Value} {ls : List (List UInt8)} {w : World} (hrp : Rds w vp ls) (hlp : tot ls ≤ 1048576) :
    Calls Try.prog 4 #[.int .u32 (s : Int), .int .i64 z, vp] w fun e w' => e = .returned (.bool true) ∧ Below w.heap.size w w' := by
  obtain ⟨ap, cp, rfl, hp1, hp2, hpc⟩ := id hrp
  have haw := pawake_any w
  have hll := tot_len ls
  have hlm := tot_mem ls
  have HLM : Hid _ := hlm
  have HPC : Hid _ := hpc
  clear hlm hpc hrp
  unfold maxLen at hp2
  by_cases c1 : z < 0 ∨ 1048576 < z
  · have H1 : Hid _ := c1
    clear c1
    go_enter Try.func4, Try.ntmps4
    go_wp2_with fail
    refine haw.mono ?_
    rintro e w1 ⟨rfl, hb1⟩
    go_wp2_with fail
    refine (newBox_err s z H1.out w1).mono ?_
    rintro e w2 ⟨rfl, rfl⟩
    go_wp2_with fail
    refine (rnewBox_err s z H1.out w2).mono ?_
    rintro e w3 ⟨rfl, rfl⟩
    go_wp2_with fail
    refine (num_any _ _).mono ?_
    rintro e w4 ⟨rfl, rfl⟩
    go_wp2_with fail
    go_ret
    exact ⟨rfl, hb1⟩
  obtain ⟨n, rfl⟩ : ∃ n : Nat, z = (n : Int) := ⟨z.toNat, by omega⟩
  have hn : n ≤ 1048576 := by omega
  clear c1 hz
  go_enter Try.func4, Try.ntmps4
  go_wp2_with fail
  refine haw.mono ?_
  rintro e w1 ⟨rfl, hb1⟩
  go_wp2_with fail
  refine (newBox_ok s n hs hn w1).mono ?_
  rintro e w2 ⟨d, rfl, hbx2, hb2⟩
  go_wp2_with fail
  refine (rnewBox_ok (fun _ => True) s n hs hn w2 w2.heap.size (Nat.le_refl _)).mono ?_
  rintro e w3 ⟨x, rfl, hrb3, hb3⟩
  have hM : M3 w w1.heap.size w2.heap.size d x s n 0 [] w3 := ⟨hbx2.below hb3 (Nat.le_refl _), hrb3, ⟨hb1.size, hb2.size⟩, hb1.trans ((hb2.trans (hb3.mono hb2.size)).mono hb1.size)⟩
  clear hbx2 hrb3 hb1 hb2 hb3 haw
  generalize w1.heap.size = B at *
  generalize w2.heap.size = C at *
  go_wp2_with fail
  refine (num_any _ _).mono ?_
  rintro e w4 ⟨rfl, rfl⟩
  go_wp2_with fail
  go_loopw [11, 12, 13, 14, 15, 16, 17, 18] (fun iv _ _ _ _ _ _ _ wr => ∃ (i k : Nat) (ps : List (Nat × List UInt8)), i ≤ ls.length ∧ iv = .int .i64 (i : Int) ∧ ps.length ≤ i ∧ M3 w B C d x s n k ps wr) (fun iv _ _ _ _ _ _ _ _ => ls.length - (intOf iv).toNat)
  case atStart => exact ⟨0, 0, [], Nat.zero_le _, rfl, Nat.zero_le _, hM⟩
  case round =>
    clear hM
    obtain ⟨i, k, ps, hi, rfl, hpi, hM⟩ := hrel
    by_cases hlt : i < ls.length
    · have hlt' : (i : Int) < (ls.length : Int) := by omega
      obtain ⟨a, u, ea, hc, hru⟩ := HPC.out i hlt
      subst ea
      have hll2 : (ls[i]).length ≤ 1048576 := Nat.le_trans (HLM.out _ (List.getElem_mem hlt)) hlp
      generalize ls[i] = l at *
      obtain ⟨au, cu, rfl, _⟩ := id hru
      have hcr : wr.cell? (a.add i) = some (.slice au l.length cu) := hM.cell hc
      have hca : ∀ o, (wr.alloc o).cell? (a.add i) = some (.slice au l.length cu) := fun o => by
        rw [((Below.refl wr.heap.size wr).alloc (Nat.le_refl _) o).cell (World.block_lt_of_cell? wr _ hcr)]; exact hcr
      have hrB : RdB w.heap.size wr (.slice au l.length cu) l := RdB.of hru hM.bel
      have hB : w.heap.size ≤ wr.heap.size := hM.bel.size
      go_wp2_with fail
      refine (lend_new hrB (by omega) hB _).mono ?_
      rintro e wl ⟨p, rfl, hpl, hsl, hbl⟩
      have hput := m_put hM hbl hsl hpl hll2 (by omega)
      have hplen := bxPut_len s n k ps (pkR l)
      obtain ⟨R, hR⟩ : ∃ R, bxPut s n k ps (pkR l) = R := ⟨_, rfl⟩
      have hrput := fun (W : World) (F : Nat) (h : M2 w B C d x s n R.1.1 R.1.2 k ps F l W) => m_rput h hru hll2 (by omega)
      rw [hR] at hput hplen
      simp only [hR] at hrput
      obtain ⟨⟨k', ps'⟩, X⟩ := R
      simp only [] at hput hplen hrput
      have HR : Hid _ := hR
      clear hR hrB hca hcr
      go_wp2_with fail
      refine hput.mono ?_
      rintro e wp ⟨rfl, h2⟩
      have HF : Hid (M3 w B C d x s n k ps wr) := hM
      clear hput hM hpl hsl hbl
      generalize wr.heap.size = F at *
      have y0 : wp.cell? (a.add i) = some (.slice au l.length cu) := h2.cell hc
      have eX : ((X : Int) != (X : Int)) = false := by simp
      have hps' : ps'.length ≤ 1048576 := by omega
      go_upto_region 14 with fail
      go_region_held3 (fun w' => w'.cell? (a.add i) = some (.slice au l.length cu)) (go_keep) (first
        | (go_at_call 14; refine (num_any _ _).mono ?_; rintro e w9 ⟨rfl, rfl⟩)
        | (go_at_call 20; refine (hrput _ F (h2.dN _)).mono ?_; rintro e q2 ⟨rfl, m2⟩; have y2 := m2.cell hc)
        | (go_at_call 12; refine (m_back m2 hru hll2).mono ?_; rintro e q3 ⟨rfl, m3⟩; have y3 := m3.cell hc)
        | (go_at_call 22; refine (m_miss m3 hps').mono ?_; rintro e q4 ⟨v4, rfl, m4⟩; have y4 := m4.1.cell hc)
        | (go_at_call 23; refine (m_rmiss m4 hps').mono ?_; rintro e q5 ⟨v5, rfl, m5⟩; have y5 := m5.1.cell hc)
        | (go_at_call 21; refine (m_same m5).mono ?_; rintro e q6 ⟨rfl, m6⟩; have y6 := m6.cell hc)
        | fail)
      have hdo := done_any14 m6.bx (by omega)
      have M6 : Hid _ := m6
      obtain ⟨D, hD⟩ : ∃ D, (bxDone s n k' ps').getD [] = D := ⟨_, rfl⟩
      obtain ⟨ok, hok⟩ : ∃ ok, (bxDone s n k' ps').isSome = ok := ⟨_, rfl⟩
      rw [hD, hok] at hdo
      have HD : Hid _ := And.intro hD hok
      have ed : (ok != ok) = false := by simp
      clear hD hok m6
      go_wp2_with fail
      refine hdo.mono ?_
      rintro e w7 ⟨v7, rfl, ho7, hb7⟩
      have hrdo := rdone_any (M6.out.below hb7).rb (by omega)
      rw [HD.out.1, HD.out.2] at hrdo
      clear hdo
      go_wp2_with fail
      refine hrdo.mono ?_
      rintro e w8 ⟨v8, rfl, ho8, hb8⟩
      have hsame := same_any (ho7.rd.below hb8 (Nat.le_refl _)) ho8.rd
      rw [decide_eq_true (rfl : D = D)] at hsame
      clear hrdo
      go_wp2_with fail
      refine hsame.mono ?_
      rintro e w9 ⟨rfl, j9, rfl⟩
      have ho9 : Ow q6.heap.size (w8.drewN j9) v7 D := (ho7.below hb8 (Nat.le_refl _)).below (Below.dN _ _) (Nat.le_refl _)
      have hb9 : Below q6.heap.size q6 (w8.drewN j9) := below_drewN (hb7.trans (hb8.mono hb7.size)) j9
      obtain ⟨a7, c7, e7⟩ := ho9.shape
      subst e7
      clear hsame ho7 ho8 hb7 hb8
      generalize w8.drewN j9 = W9 at *
      go_wp2_with fail
      go_loopw [18] (fun y wz => ∃ (j : Nat) (L : List UInt8), j ≤ D.length ∧ y = .int .i64 (j : Int) ∧ L.length = D.length ∧ Ow q6.heap.size wz (.slice a7 D.length c7) L ∧ Below q6.heap.size q6 wz) (fun y _ => D.length - (intOf y).toNat)
      case atStart => exact ⟨0, D, Nat.zero_le _, rfl, rfl, ho9, hb9⟩
      case round =>
        clear ho9 hb9
        obtain ⟨j, L, hj, rfl, hL, ho, hb⟩ := hrel
        by_cases hlt2 : j < D.length
        · have hlt2' : (j : Int) < (D.length : Int) := by omega
          obtain ⟨g, c, ev, hg, hg1, hg2⟩ := ho.at (by omega)
          simp only [Value.slice.injEq] at ev
          obtain ⟨rfl, q9, rfl⟩ := ev
          clear q9
          unfold maxLen at hg2
          rw [hL] at hg1
          obtain ⟨hcj, hfj⟩ := ho.cellZ (i := j) (by omega)
          have hch : Chg (fun q => q = g) wr (wr.setCell ⟨g, j, none⟩ (.int .u8 0)) := (Chg.refl (fun q => q = g) wr).put g j _ rfl
          have hput := ho.put hL.symm j 0 0 rfl
          have HFI : Hid _ := And.intro hput (hb.trans (hch.below (fun q e => by omega) hb.size))
          clear hput hch
          go_wp2_with fail
          exact ⟨⟨j + 1, L.set j 0, by omega, by go_num, by rw [List.length_set]; exact hL, HFI.out.1, HFI.out.2⟩, by simp [intOf]; omega⟩
        · have hlt2' : ¬ (j : Int) < (D.length : Int) := by omega
          go_wp2_with fail
          exact ⟨⟨i + 1, k', ps', by omega, by go_num, by omega, M6.out.below hb⟩, by simp [intOf]; omega⟩
    · have hlt' : ¬ (i : Int) < (ls.length : Int) := by omega
      go_wp2_with fail
      go_ret
      exact ⟨rfl, hM.bel⟩
end Go.Proofs.Ytlajncjamafomaa
