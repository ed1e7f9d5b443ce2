/- The statement WaitPlays, walked. -/
import Derived.Test.YtipnghaphfgalaaG51
namespace Go.Proofs.Ytipnghaphfgalaa
open Go.RowKit
set_option linter.unusedVariables false
set_option maxRecDepth 100000

/-- What the loop keeps. -/
def PlR (w : World) (B x y : Nat) (wr : World) : Prop := ∃ v u E, PR B x y v u E wr ∧ Below w.heap.size w wr
set_option maxHeartbeats 4000000 in
theorem plays_walk {v0 : Value} {n : Nat} {w : World} (hA : Stps w v0 n) :
    Calls Try.prog 4 #[v0] w fun r w' => r = .returned (.bool true) ∧ Below w.heap.size w w' := by
  obtain ⟨a0, c0, rfl, hn1, hn2, hA4⟩ := hA
  have hnm : n ≤ 9223372036854775807 := by omega
  have HA : Hid (∀ i, i < n → ∃ d p q ad, a0 = some ad ∧ StAt w (ad.add (i * 3)) d p q) := hA4
  clear hA4
  have haw := wtawake_any w
  go_enter Try.func4, Try.ntmps4
  go_wp2_with fail
  refine haw.mono ?_
  rintro r wa ⟨rfl, hba⟩
  have hnew := gnew_any wa
  clear haw
  go_wp2_with fail
  refine hnew.mono ?_
  rintro r wb ⟨x, rfl, hg0, hbb⟩
  have hB : Below w.heap.size w wb := Below.tr hba hbb
  have hsz : w.heap.size ≤ wa.heap.size := hba.size
  have hbc := w_al wb (.cells #[.slice none 0 0] 39)
  have hN0 : PlR w wa.heap.size x wb.heap.size (wb.alloc (.cells #[.slice none 0 0] 39)) := by
    have hxl := hg0.xlt
    refine ⟨_, .slice none 0 0, [], ⟨hg0.below hbc (Nat.le_refl _), ⟨heap_alloc_new wb _, OwE.nil _ _, (fun q => by cases q), by have := hbb.size; omega⟩, by omega, (fun q => by cases q), (fun q => by cases q), fun b e => by cases e⟩, hB.trans (hbc.mono hB.size)⟩
  clear hnew hg0 hB hba
  go_wp2_with fail
  generalize wb.alloc (.cells #[.slice none 0 0] 39) = W1 at *
  generalize wb.heap.size = y at *
  clear hbb hbc
  go_loopw [5] (fun i wr => ∃ k : Nat, k ≤ n ∧ k ≤ 300 ∧ i = .int .i64 k ∧ PlR w wa.heap.size x y wr) (fun i _ => 300 - (intOf i).toNat)
  case atStart => exact ⟨0, Nat.zero_le _, Nat.zero_le _, rfl, hN0⟩
  case round =>
    obtain ⟨k, hk, hk6, rfl, hNv⟩ := hrel
    clear hN0
    go_upto_region 6 with fail
    go_cut [20] from 13 to 30 (fun s wx => s = .bool (decide (k < n ∧ k < 300)) ∧ wx = wr)
    case first =>
      by_cases q1 : k < n
      · have l1 : (k : Int) < (n : Int) := by omega
        by_cases q2 : k < 300
        · have l2 : (k : Int) < 300 := by omega
          go_wp2_with fail
          go_meet
          exact ⟨by simp [q1, q2], rfl⟩
        · have l2 : decide ((k : Int) < 300) = false := decide_eq_false (by omega)
          go_wp2_with fail
          go_meet
          exact ⟨by simp [q1, q2], rfl⟩
      · have l1 : decide ((k : Int) < (n : Int)) = false := decide_eq_false (by omega)
        go_wp2_with fail
        go_meet
        exact ⟨by simp [q1], rfl⟩
    case rest =>
    obtain ⟨rfl, rfl⟩ := hcut
    by_cases hlt : k < n ∧ k < 300
    · rw [decide_eq_true hlt]
      obtain ⟨v, u, E, hP, hb⟩ := hNv
      obtain ⟨d, p, q, ad, rfl, hst⟩ := HA.out k hlt.1
      obtain ⟨y0, y1, y2⟩ := hst.below hb (Nat.le_refl _)
      have hki : (k : Int) < (n : Int) := by omega
      have hone := one_any hP d p q
      have HNX : Hid (∀ w2, Fin wa.heap.size x y wc w2 → PlR w wa.heap.size x y w2) := fun w2 z => by
        obtain ⟨v', u', E', z1, z2⟩ := z
        exact ⟨v', u', E', z1, hb.trans (z2.mono hsz)⟩
      clear hP hb hst
      go_wp2_with fail
      refine hone.mono ?_
      rintro r w3 ⟨rfl, hf⟩
      have HE : Hid _ := HNX.out w3 hf
      clear hf hone y0 y1 y2
      go_wp2_with fail
      exact ⟨⟨k + 1, by omega, by omega, by go_num, HE.out⟩, by simp [intOf]; omega⟩
    · rw [decide_eq_false hlt]
      obtain ⟨v, u, E, hP, hb⟩ := hNv
      have hed := edges_any hP.g
      have hEl := hP.g.len
      clear hlt HA
      go_wp2_with fail
      refine hed.mono ?_
      rintro r w2 ⟨vA, rfl, hoA, hb2⟩
      have hP2 := hP.below hb2 (Nat.le_refl _)
      have hB2 : Below w.heap.size w w2 := hb.trans (hb2.mono hb.size)
      obtain ⟨c1, -⟩ := hP2.r.vx
      have hsm := sameE_any hoA.rd hP2.r.row.rd (by omega)
      obtain ⟨a1, a2, a3, a4, a5⟩ := hoA.rd.shape
      obtain ⟨u1, u2, u3, -⟩ := hP2.r.row.rd.shape
      subst a3
      subst u3
      have HOA : Hid (OwE wc.heap.size w2 (.slice a1 E.length a2) E) := hoA
      have HP2 : Hid (PR wa.heap.size x y v (.slice u1 E.length u2) E w2 ∧ x < wc.heap.size ∧ y < wc.heap.size ∧ (∀ b, v.ownBlock = some b → b < wc.heap.size) ∧ (∀ b, (Value.slice u1 E.length u2).ownBlock = some b → b < wc.heap.size)) := ⟨hP2, hP.g.xlt, hP.r.xlt, fun b e => (hP.g.row.lt b e).2, fun b e => (hP.r.row.lt b e).2⟩
      clear hed hoA hP hP2
      go_wp2_with fail
      refine hsm.mono ?_
      rintro r w3 ⟨rfl, m3, rfl⟩
      clear hsm c1
      have HB3 : Hid (Below w.heap.size w (w2.drewN m3)) := Below.tr hB2 (Below.dN w2 m3)
      have HW : Hid (∀ w4, Chg (fun b => a1 = some ⟨b, 0, none⟩ ∧ wc.heap.size ≤ b) (w2.drewN m3) w4 → PR wa.heap.size x y v (.slice u1 E.length u2) E w4 ∧ Below w.heap.size w w4) := fun w4 hc => by
        obtain ⟨q1, q2, q3, q4, q5⟩ := HP2.out
        have hs := hb.size
        refine ⟨(q1.below (Below.dN w2 m3) (Nat.le_refl _)).keptC hc (fun z => by omega) (fun z => by omega) (fun b e z => by have := q4 b e; omega) (fun b e z => by have := q5 b e; omega), HB3.out.trans ⟨hc.os, hc.tape, hc.output, hc.size, fun b hb' => hc.block b (by have := HB3.out.size; omega) (fun z => by omega)⟩⟩
      have HFIN : Hid (∀ w4, Chg (fun b => a1 = some ⟨b, 0, none⟩ ∧ wc.heap.size ≤ b) (w2.drewN m3) w4 → ∀ m, Calls Try.prog 10 #[.pointer (some ⟨x, 0, none⟩)] (w4.drewN m) fun e w5 => ∃ v5 c5, e = .returned (.slice v5 E.length c5) ∧ RdE w5 (.slice v5 E.length c5) E ∧ RdE w5 (.slice u1 E.length u2) E ∧ w5.cell? ⟨y, 0, none⟩ = some (.slice u1 E.length u2) ∧ Hid (Below w.heap.size w w5)) := fun w4 hc m => by
        obtain ⟨q1, q2⟩ := HW.out w4 hc
        have q3 := q1.below (Below.dN w4 m) (Nat.le_refl _)
        refine (edges_any q3.g).mono ?_
        rintro e w5 ⟨v5, rfl, ho5, hb5⟩
        have q4 := q3.below hb5 (Nat.le_refl _)
        obtain ⟨z1, z2, z3, -⟩ := ho5.rd.shape
        subst z3
        have q5 := Below.tr q2 (Below.dN w4 m)
        exact ⟨z1, z2, rfl, ho5.rd, q4.r.row.rd, q4.r.vx.1, (q5.trans (hb5.mono q5.size) : Below w.heap.size w w5)⟩
      have HYC : Hid (∀ w4, Chg (fun b => a1 = some ⟨b, 0, none⟩ ∧ wc.heap.size ≤ b) (w2.drewN m3) w4 → w4.cell? ⟨y, 0, none⟩ = some (.slice u1 E.length u2)) := fun w4 hc => (HW.out w4 hc).1.r.vx.1
      have HROW : Hid ((Value.slice a1 E.length a2 = .slice none 0 0 ∧ E.length = 0) ∨ ∃ g cur, a1 = some ⟨g, 0, none⟩ ∧ wc.heap.size ≤ g ∧ (w2.drewN m3).heap[g]? = some (.cells cur 31 (0, 0)) ∧ cur.size = a2 * 2) := by
        rcases HOA.out.2 with z | ⟨g, cap, cur, z1, z2, z3, z4, z5, z6, z7⟩
        · exact .inl z
        · simp only [Value.slice.injEq] at z1
          obtain ⟨e1, e2, e3⟩ := z1
          refine .inr ⟨g, cur, e1, z2, ?_, by rw [e3]; exact z6⟩
          rw [(Below.dN w2 m3).block g (Array.getElem?_eq_some_iff.1 z3).1]; exact z3
      clear HP2 HW HOA hB2 hb2 hb
      generalize w2.drewN m3 = W3 at *
      go_wp2_with fail
      go_loopw [7] (fun i wr => ∃ k : Nat, k ≤ E.length ∧ i = .int .i64 k ∧ (E.length = 0 ∨ ∃ g arr, a1 = some ⟨g, 0, none⟩ ∧ wc.heap.size ≤ g ∧ wr.heap[g]? = some (.cells arr 31 (0, 0)) ∧ arr.size = a2 * 2) ∧ Chg (fun b => a1 = some ⟨b, 0, none⟩ ∧ wc.heap.size ≤ b) W3 wr) (fun i _ => E.length - (intOf i).toNat)
      case atStart => exact ⟨0, Nat.zero_le _, rfl, (by rcases HROW.out with z | ⟨g, cur, z⟩; exact .inl z.2; exact .inr ⟨g, cur, z⟩), Chg.refl _ _⟩
      case round =>
        obtain ⟨k, hk, rfl, hro, hch⟩ := hrel
        clear HROW
        by_cases hlt : k < E.length
        · rcases hro with z | ⟨g, arr, rfl, hgl, ha1, ha2⟩
          · omega
          · have hki : (k : Int) < (E.length : Int) := by omega
            have hk2 : k * 2 < arr.size := by omega
            have hcell : wr.cell? ⟨g, k * 2, none⟩ = some arr[k * 2] := by rw [cell_of_row _ _ _ _ _ _ ha1, Array.getElem?_eq_getElem hk2]
            have hfz : wr.frozen? ⟨g, k * 2, none⟩ = false := frozen_of_row _ _ _ _ _ ha1
            have HN : Hid ((∃ g' arr', some (⟨g, 0, none⟩ : Addr) = some ⟨g', 0, none⟩ ∧ wc.heap.size ≤ g' ∧ (wr.setCell ⟨g, k * 2, none⟩ (.int .u64 0)).heap[g']? = some (.cells arr' 31 (0, 0)) ∧ arr'.size = a2 * 2) ∧ Chg (fun b => some (⟨g, 0, none⟩ : Addr) = some ⟨b, 0, none⟩ ∧ wc.heap.size ≤ b) W3 (wr.setCell ⟨g, k * 2, none⟩ (.int .u64 0))) := by
              refine ⟨⟨g, arr.set! (k * 2) (.int .u64 0), rfl, hgl, by rw [heap_setCell_same _ _ (k * 2) _ _ _ ha1]; try rfl, by simp [ha2]⟩, hch.put g _ _ ⟨rfl, hgl⟩⟩
            clear ha1 hch
            go_wp2_with fail
            exact ⟨⟨k + 1, by omega, by go_num, .inr HN.out.1, HN.out.2⟩, by simp [intOf]; omega⟩
        · have hed := HFIN.out wr hch
          have hy0 := HYC.out wr hch
          clear hro hch HFIN HYC
          go_wp2_with fail
          go_region_held3 (fun w' => w'.cell? ⟨y, 0, none⟩ = some (.slice u1 E.length u2)) (go_keep) (first
            | (have hq := hrd5; go_at_call 14; refine (sameE_any hrd5 hrd6 (by omega)).mono ?_; rintro r w6 ⟨rfl, m6, rfl⟩; have hy6 : (w5.drewN m6).cell? ⟨y, 0, none⟩ = some (.slice u1 E.length u2) := (by rw [(Below.dN w5 m6).cell (World.block_lt_of_cell? _ _ hy5)]; exact hy5))
            | (go_at_call 10; refine (hed _).mono ?_; rintro r w5 ⟨v5, c5, rfl, hrd5, hrd6, hy5, HB5⟩)
            | fail)
          have HF : Hid (Below w.heap.size w (w5.drewN m6)) := Below.tr HB5.out (Below.dN w5 m6)
          go_wp2_with fail
          go_ret
          exact ⟨rfl, HF.out⟩
end Go.Proofs.Ytipnghaphfgalaa
