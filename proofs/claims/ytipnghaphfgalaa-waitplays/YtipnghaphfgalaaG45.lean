/- The document's Stop and Done. -/
import Derived.Test.YtipnghaphfgalaaG42
namespace Go.Proofs.Ytipnghaphfgalaa
open Go.RowKit
set_option linter.unusedVariables false
set_option maxRecDepth 100000

set_option maxHeartbeats 2000000 in
theorem rstop_any {B y : Nat} {v : Value} {E : List Ed} {w : World} (h : RGr B y v E w) (hl : E.length ≤ 4096) (a b : UInt64) :
    Calls Try.prog 28 #[.pointer (some ⟨y, 0, none⟩), .int .u64 (a.toNat : Int), .int .u64 (b.toNat : Int)] w fun r w' => ∃ v', r = .returned (.bool (decide ((stE E a b).length < E.length))) ∧ RGr B y v' (stE E a b) w' ∧ Chg (fun b => b = y) w w' ∧ (∀ g, v'.ownBlock = some g → w.heap.size ≤ g) := by
  obtain ⟨c0, cz⟩ := h.vx
  have hyl := h.xlt
  obtain ⟨ao, c, ev, h1, h2⟩ := h.row.rd.shape
  subst ev
  have HRE : Hid (RdE w (.slice ao E.length c) E) := h.row.rd
  have HPUT : Hid (∀ (w' : World) (v2 : Value) (E2 : List Ed), Below w.heap.size w w' → OwE w.heap.size w' v2 E2 → RGr B y v2 E2 (w'.setCell ⟨y, 0, none⟩ v2) ∧ Chg (fun b => b = y) w (w'.setCell ⟨y, 0, none⟩ v2)) := fun w' v2 E2 q1 q2 => h.put q1 q2
  have HKC : Hid (∀ w' : World, Below w.heap.size w w' → w'.cell? ⟨y, 0, none⟩ = some (.slice ao E.length c) ∧ w'.frozen? ⟨y, 0, none⟩ = false) := fun w' hb => ⟨by rw [hb.cell hyl]; exact c0, by rw [World.frozen?_of_block (w := w) (hb.block y hyl)]; exact cz 0⟩
  clear h cz c0
  go_enter Try.func28, Try.ntmps28
  go_wp2_with fail
  go_loopw [7, 8] (fun lv i wr => ∃ k : Nat, k ≤ E.length ∧ i = .int .i64 k ∧ OwE w.heap.size wr lv ((E.take k).filter (fun e => !(e == (a, b)))) ∧ Below w.heap.size w wr) (fun _ i _ => E.length - (intOf i).toNat)
  case atStart => exact ⟨0, Nat.zero_le _, rfl, OwE.nil _ _, Below.refl _ _⟩
  case round =>
    obtain ⟨k, hk, rfl, hlv, hb⟩ := hrel
    obtain ⟨d0, d0f⟩ := HKC.out wr hb
    obtain ⟨av, cv, ev, -⟩ := hlv.rd.shape
    subst ev
    by_cases hlt : k < E.length
    · obtain ⟨⟨p1, p2⟩, hp⟩ : ∃ p, E[k]? = some p := ⟨_, List.getElem?_eq_getElem hlt⟩
      obtain ⟨ad, rfl, e0, e1⟩ := (HRE.out.below hb (Nat.le_refl _)).at_ hp
      simp only [] at e0 e1
      have hki : (k : Int) < (E.length : Int) := by omega
      have HFS : Hid ((E.take (k + 1)).filter (fun e => !(e == (a, b))) = (E.take k).filter (fun e => !(e == (a, b))) ++ (if (fun e => !(e == (a, b))) (p1, p2) then [(p1, p2)] else [])) := rfilt_step hp
      have hln : ((E.take k).filter (fun e => !(e == (a, b)))).length ≤ 4096 := Nat.le_trans (List.length_filter_le _ _) (by simp; omega)
      have hws : w.heap.size ≤ wr.heap.size := hb.size
      have hnw := heap_alloc_new wr (.cells #[.int .u64 (p1.toNat : Int), .int .u64 (p2.toNat : Int)] 31)
      obtain ⟨x0, x1, -⟩ := box2 hnw
      have hrd := rdE_one (wr.alloc (.cells #[.int .u64 (p1.toNat : Int), .int .u64 (p2.toNat : Int)] 31)) wr.heap.size (p1, p2) ⟨x0, x1⟩
      have hbA := w_al wr (.cells #[.int .u64 (p1.toNat : Int), .int .u64 (p2.toNat : Int)] 31)
      have hlvA := hlv.below hbA (Nat.le_refl _)
      have hBs : w.heap.size ≤ (wr.alloc (.cells #[.int .u64 (p1.toNat : Int), .int .u64 (p2.toNat : Int)] 31)).heap.size := Nat.le_trans hws hbA.size
      have hlen2 : ((E.take k).filter (fun e => !(e == (a, b)))).length + [(p1, p2)].length ≤ 1099511627776 := by simp at hln ⊢; omega
      have HIN : Hid ((fun e => !(e == (a, b))) (p1, p2) = true → ∀ v' w', OwE w.heap.size w' v' ((E.take k).filter (fun e => !(e == (a, b))) ++ [(p1, p2)]) → (wr.alloc (.cells #[.int .u64 (p1.toNat : Int), .int .u64 (p2.toNat : Int)] 31)).grownBy w' (Value.slice av ((E.take k).filter (fun e => !(e == (a, b)))).length cv).ownBlock → OwE w.heap.size w' v' ((E.take (k + 1)).filter (fun e => !(e == (a, b)))) ∧ Below w.heap.size w w') := fun hg v' w' q1 q2 => by
        refine ⟨by rw [HFS.out, if_pos hg]; exact q1, hb.trans ((hbA.mono hws).trans ((Below.refl _ _).grown q2 hBs (fun j e => (hlv.lt j e).1)))⟩
      have HOUT : Hid ((fun e => !(e == (a, b))) (p1, p2) = false → OwE w.heap.size wr (.slice av ((E.take k).filter (fun e => !(e == (a, b)))).length cv) ((E.take (k + 1)).filter (fun e => !(e == (a, b)))) ∧ Below w.heap.size w wr) := fun hg => ⟨by rw [HFS.out, if_neg (by rw [hg]; simp)]; simpa using hlv, hb⟩
      clear hp hnw x0 x1 HFS hlv
      by_cases z1 : p1 = a
      · by_cases z2 : p2 = b
        · subst z1
          subst z2
          have HE : Hid _ := HOUT.out (by simp)
          clear HIN HOUT
          generalize ((E.take k).filter (fun e => !(e == (p1, p2)))).length = lnk at *
          go_wp2_with fail
          exact ⟨⟨k + 1, by omega, by go_num, HE.out.1, HE.out.2⟩, by simp [intOf]; omega⟩
        · subst z1
          have g3 : ((p2.toNat : Int) != (b.toNat : Int)) = true := by rw [bne_iff_ne]; intro q; exact z2 (UInt64.toNat_inj.1 (by omega))
          have g4 : ¬ p2.toNat = b.toNat := fun q => z2 (UInt64.toNat_inj.1 q)
          have HE : Hid _ := HIN.out (by simp [z2])
          clear HIN HOUT
          go_wp2_with (first | (at_builtin; refine wpList_appE rfl _ _ rfl w.heap.size _ ((E.take k).filter (fun e => !(e == (p1, b)))) rfl hlvA _ [(p1, p2)] rfl hrd hBs hlen2 ?_; intro v' w' q1 q2 q3) | fail)
          exact ⟨⟨k + 1, by omega, by go_num, (HE.out v' w' q1 q2).1, (HE.out v' w' q1 q2).2⟩, by simp [intOf]; omega⟩
      · have g1 : ((p1.toNat : Int) != (a.toNat : Int)) = true := by rw [bne_iff_ne]; intro q; exact z1 (UInt64.toNat_inj.1 (by omega))
        have g2 : ¬ p1.toNat = a.toNat := fun q => z1 (UInt64.toNat_inj.1 q)
        have HE : Hid _ := HIN.out (by simp [z1])
        clear HIN HOUT
        go_wp2_with (first | (at_builtin; refine wpList_appE rfl _ _ rfl w.heap.size _ ((E.take k).filter (fun e => !(e == (a, b)))) rfl hlvA _ [(p1, p2)] rfl hrd hBs hlen2 ?_; intro v' w' q1 q2 q3) | fail)
        exact ⟨⟨k + 1, by omega, by go_num, (HE.out v' w' q1 q2).1, (HE.out v' w' q1 q2).2⟩, by simp [intOf]; omega⟩
    · obtain rfl : k = E.length := by omega
      rw [List.take_length] at hlv ⊢
      have hfl : (E.filter (fun e => !(e == (a, b)))).length ≤ E.length := List.length_filter_le _ _
      have HP2 : Hid _ := HPUT.out wr _ _ hb hlv
      have HB2 : Hid (∀ g, (Value.slice av (E.filter (fun e => !(e == (a, b)))).length cv).ownBlock = some g → w.heap.size ≤ g) := fun g e => (hlv.lt g e).1
      clear hlv
      generalize hln : (E.filter (fun e => !(e == (a, b)))).length = ln at *
      have HLN : Hid ((E.filter (fun e => !(e == (a, b)))).length = ln) := hln
      have HRT : Hid (decide ((stE E a b).length < E.length) = decide (ln < E.length)) := by show _ = _; rw [← hln]; rfl
      clear hln
      go_wp2_with fail
      go_ret
      exact ⟨_, by rw [HRT.out]; simp, HP2.out.1, HP2.out.2, HB2.out⟩

set_option maxHeartbeats 2000000 in
theorem rdone_any {B y : Nat} {v : Value} {E : List Ed} {w : World} (h : RGr B y v E w) (hl : E.length ≤ 4096) (a : UInt64) :
    Calls Try.prog 29 #[.pointer (some ⟨y, 0, none⟩), .int .u64 (a.toNat : Int)] w fun r w' => ∃ v', r = .returned (.int .i64 ((E.length : Int) - ((dnE E a).length : Int))) ∧ RGr B y v' (dnE E a) w' ∧ Chg (fun b => b = y) w w' ∧ (∀ g, v'.ownBlock = some g → w.heap.size ≤ g) := by
  obtain ⟨c0, cz⟩ := h.vx
  have hyl := h.xlt
  obtain ⟨ao, c, ev, h1, h2⟩ := h.row.rd.shape
  subst ev
  have HRE : Hid (RdE w (.slice ao E.length c) E) := h.row.rd
  have HPUT : Hid (∀ (w' : World) (v2 : Value) (E2 : List Ed), Below w.heap.size w w' → OwE w.heap.size w' v2 E2 → RGr B y v2 E2 (w'.setCell ⟨y, 0, none⟩ v2) ∧ Chg (fun b => b = y) w (w'.setCell ⟨y, 0, none⟩ v2)) := fun w' v2 E2 q1 q2 => h.put q1 q2
  have HKC : Hid (∀ w' : World, Below w.heap.size w w' → w'.cell? ⟨y, 0, none⟩ = some (.slice ao E.length c) ∧ w'.frozen? ⟨y, 0, none⟩ = false) := fun w' hb => ⟨by rw [hb.cell hyl]; exact c0, by rw [World.frozen?_of_block (w := w) (hb.block y hyl)]; exact cz 0⟩
  clear h cz c0
  go_enter Try.func29, Try.ntmps29
  go_wp2_with fail
  go_loopw [5, 6] (fun lv i wr => ∃ k : Nat, k ≤ E.length ∧ i = .int .i64 k ∧ OwE w.heap.size wr lv ((E.take k).filter (fun e => !dlt a e)) ∧ Below w.heap.size w wr) (fun _ i _ => E.length - (intOf i).toNat)
  case atStart => exact ⟨0, Nat.zero_le _, rfl, OwE.nil _ _, Below.refl _ _⟩
  case round =>
    obtain ⟨k, hk, rfl, hlv, hb⟩ := hrel
    obtain ⟨d0, d0f⟩ := HKC.out wr hb
    obtain ⟨av, cv, ev, -⟩ := hlv.rd.shape
    subst ev
    by_cases hlt : k < E.length
    · obtain ⟨⟨p1, p2⟩, hp⟩ : ∃ p, E[k]? = some p := ⟨_, List.getElem?_eq_getElem hlt⟩
      obtain ⟨ad, rfl, e0, e1⟩ := (HRE.out.below hb (Nat.le_refl _)).at_ hp
      simp only [] at e0 e1
      have hki : (k : Int) < (E.length : Int) := by omega
      have HFS : Hid ((E.take (k + 1)).filter (fun e => !dlt a e) = (E.take k).filter (fun e => !dlt a e) ++ (if (fun e => !dlt a e) (p1, p2) then [(p1, p2)] else [])) := rfilt_step hp
      have hln : ((E.take k).filter (fun e => !dlt a e)).length ≤ 4096 := Nat.le_trans (List.length_filter_le _ _) (by simp; omega)
      have hws : w.heap.size ≤ wr.heap.size := hb.size
      have hnw := heap_alloc_new wr (.cells #[.int .u64 (p1.toNat : Int), .int .u64 (p2.toNat : Int)] 31)
      obtain ⟨x0, x1, -⟩ := box2 hnw
      have hrd := rdE_one (wr.alloc (.cells #[.int .u64 (p1.toNat : Int), .int .u64 (p2.toNat : Int)] 31)) wr.heap.size (p1, p2) ⟨x0, x1⟩
      have hbA := w_al wr (.cells #[.int .u64 (p1.toNat : Int), .int .u64 (p2.toNat : Int)] 31)
      have hlvA := hlv.below hbA (Nat.le_refl _)
      have hBs : w.heap.size ≤ (wr.alloc (.cells #[.int .u64 (p1.toNat : Int), .int .u64 (p2.toNat : Int)] 31)).heap.size := Nat.le_trans hws hbA.size
      have hlen2 : ((E.take k).filter (fun e => !dlt a e)).length + [(p1, p2)].length ≤ 1099511627776 := by simp at hln ⊢; omega
      have HIN : Hid ((fun e => !dlt a e) (p1, p2) = true → ∀ v' w', OwE w.heap.size w' v' ((E.take k).filter (fun e => !dlt a e) ++ [(p1, p2)]) → (wr.alloc (.cells #[.int .u64 (p1.toNat : Int), .int .u64 (p2.toNat : Int)] 31)).grownBy w' (Value.slice av ((E.take k).filter (fun e => !dlt a e)).length cv).ownBlock → OwE w.heap.size w' v' ((E.take (k + 1)).filter (fun e => !dlt a e)) ∧ Below w.heap.size w w') := fun hg v' w' q1 q2 => by
        refine ⟨by rw [HFS.out, if_pos hg]; exact q1, hb.trans ((hbA.mono hws).trans ((Below.refl _ _).grown q2 hBs (fun j e => (hlv.lt j e).1)))⟩
      have HOUT : Hid ((fun e => !dlt a e) (p1, p2) = false → OwE w.heap.size wr (.slice av ((E.take k).filter (fun e => !dlt a e)).length cv) ((E.take (k + 1)).filter (fun e => !dlt a e)) ∧ Below w.heap.size w wr) := fun hg => ⟨by rw [HFS.out, if_neg (by rw [hg]; simp)]; simpa using hlv, hb⟩
      clear hp hnw x0 x1 HFS hlv
      by_cases z1 : p1 = a
      · have HE : Hid _ := HOUT.out (by simp [dlt, z1])
        subst z1
        clear HIN HOUT
        generalize ((E.take k).filter (fun e => !dlt p1 e)).length = lnk at *
        go_wp2_with fail
        exact ⟨⟨k + 1, by omega, by go_num, HE.out.1, HE.out.2⟩, by simp [intOf]; omega⟩
      · have g1 : ((p1.toNat : Int) != (a.toNat : Int)) = true := by rw [bne_iff_ne]; intro q; exact z1 (UInt64.toNat_inj.1 (by omega))
        have g2 : ¬ p1.toNat = a.toNat := fun q => z1 (UInt64.toNat_inj.1 q)
        by_cases z2 : p2 = a
        · have HE : Hid _ := HOUT.out (by simp [dlt, z2])
          subst z2
          clear HIN HOUT
          generalize ((E.take k).filter (fun e => !dlt p2 e)).length = lnk at *
          go_wp2_with fail
          exact ⟨⟨k + 1, by omega, by go_num, HE.out.1, HE.out.2⟩, by simp [intOf]; omega⟩
        · have g3 : ((p2.toNat : Int) != (a.toNat : Int)) = true := by rw [bne_iff_ne]; intro q; exact z2 (UInt64.toNat_inj.1 (by omega))
          have g4 : ¬ p2.toNat = a.toNat := fun q => z2 (UInt64.toNat_inj.1 q)
          have HE : Hid _ := HIN.out (by simp [dlt, z1, z2])
          clear HIN HOUT
          go_wp2_with (first | (at_builtin; refine wpList_appE rfl _ _ rfl w.heap.size _ ((E.take k).filter (fun e => !dlt a e)) rfl hlvA _ [(p1, p2)] rfl hrd hBs hlen2 ?_; intro v' w' q1 q2 q3) | fail)
          exact ⟨⟨k + 1, by omega, by go_num, (HE.out v' w' q1 q2).1, (HE.out v' w' q1 q2).2⟩, by simp [intOf]; omega⟩
    · obtain rfl : k = E.length := by omega
      rw [List.take_length] at hlv ⊢
      have hfl : (E.filter (fun e => !dlt a e)).length ≤ E.length := List.length_filter_le _ _
      have HP2 : Hid _ := HPUT.out wr _ _ hb hlv
      have HB2 : Hid (∀ g, (Value.slice av (E.filter (fun e => !dlt a e)).length cv).ownBlock = some g → w.heap.size ≤ g) := fun g e => (hlv.lt g e).1
      clear hlv
      generalize hln : (E.filter (fun e => !dlt a e)).length = ln at *
      have HLN : Hid ((E.filter (fun e => !dlt a e)).length = ln) := hln
      have HRT : Hid ((E.length : Int) - ((dnE E a).length : Int) = (E.length : Int) - (ln : Int)) := by show _ = _; rw [← hln]; rfl
      have hwr : IntKind.i64.wrap ((E.length : Int) - (ln : Int)) = (E.length : Int) - (ln : Int) := by rw [IntKind.wrap_i64]; omega
      clear hln
      go_wp2_with fail
      go_ret
      exact ⟨_, by rw [HRT.out]; rfl, HP2.out.1, HP2.out.2, HB2.out⟩
end Go.Proofs.Ytipnghaphfgalaa
