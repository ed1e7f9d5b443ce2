/- Proved here: DiskNames answers true for every three texts and either sign: a file that is renamed has its bytes, and what was synced of them, under its new name; what had that name is gone, in a crash too; no condition. -/
import Derived.Test.YtbolnelbchffhacDnBase
namespace Go.Proofs.Ytbolnelbchffhac
open Go.ChangeShapes Go.WideShapes Go.ChangeAt Go.RowKit
set_option linter.unusedVariables false
set_option maxRecDepth 100000

set_option maxHeartbeats 4000000 in
theorem names_other {va : Value} {a : List UInt8} {w : World} (hA : Rd w va a) (hAl : a.length ≤ 140737488351232) {vb : Value} {b : List UInt8} (hB : Rd w vb b) (hBl : b.length ≤ 140737488351232) {vm : Value} {m : List UInt8} (hM : Rd w vm m) (hMl : m.length ≤ 140737488351232) :
    Calls Try.prog 6 #[va, vb, vm, .bool false] w fun e w' => e = .returned (.bool true) ∧ Below w.heap.size w w' := by
  obtain ⟨aa, ca, ea, _, a2, _, _⟩ := id hA
  obtain ⟨ab, cb, eb, _, b2, _, _⟩ := id hB
  obtain ⟨am, cm, em, _, m2, _, _⟩ := id hM
  subst ea
  subst eb
  subst em
  unfold maxLen at a2 b2 m2
  go_enter Try.func6, Try.ntmps6
  go_wp2_with fail
  refine (awake_any _).mono ?_
  rintro e w0 ⟨rfl, hb0⟩
  have hBs : w.heap.size ≤ w0.heap.size := hb0.size
  have hA0 := hA.below hb0 (Nat.le_refl _)
  have hB0 := hB.below hb0 (Nat.le_refl _)
  have hM0 := hM.below hb0 (Nat.le_refl _)
  go_wp2_with fail
  refine (new_any w0).mono ?_
  rintro e w1 ⟨d, own1, rfl, hd1, hb1⟩
  have hA1 := hA0.below hb1 (Nat.le_refl _)
  by_cases hbig : 1048576 < a.length + b.length + m.length
  · go_wp2_with fail
    go_ret
    exact ⟨rfl, Below.tr hb0 hb1⟩
  · go_wp2_with fail
    refine (write_new hd1 ⟨#[112]⟩ (by decide) (by decide) rfl hA1 (by omega) (by omega)).mono ?_
    rintro e w2 ⟨rfl, ⟨own2, hd2, _⟩, hc2⟩
    replace hd2 : Dk w0.heap.size d 1 own2 (sp1 (a, 0)) (0 + a.length) (alive d) 0 w2 := hd2
    have hb12 : Below w0.heap.size w0 w2 := hb1.trans (hd1.chg hc2)
    clear hc2
    go_wp2_with fail
    refine (sync_alive hd2 ⟨#[112]⟩ (by simp [ByteArray.size, maxLen]) (a, 0) (sp1_at _)).mono ?_
    rintro e w3 ⟨rfl, ⟨own3, hd3, _⟩, hc3⟩
    replace hd3 : Dk w0.heap.size d 1 own3 (setF (sp1 (a, 0)) PP (some (a, a.length))) (0 + a.length) (alive d) 0 w3 := hd3
    rw [sp1_set] at hd3
    have hb13 := hb12.trans (hd2.chg hc3)
    have hM3 := hM0.below hb13 (Nat.le_refl _)
    clear hc3
    go_wp2_with fail
    refine (write_there hd3 ⟨#[112]⟩ (by decide) (by decide) (a, a.length) (sp1_at _) hM3 (by omega) (by simp only []; omega)).mono ?_
    rintro e w4 ⟨rfl, ⟨own4, hd4, _⟩, hc4⟩
    replace hd4 : Dk w0.heap.size d 1 own4 (setF (sp1 (a, a.length)) PP (some (a ++ m, a.length))) (0 + a.length + m.length) (alive d) 0 w4 := hd4
    rw [sp1_set] at hd4
    have hb14 := hb13.trans (hd3.chg hc4)
    have hB4 := hB0.below hb14 (Nat.le_refl _)
    clear hc4
    go_wp2_with fail
    refine (write_new hd4 ⟨#[113]⟩ (by decide) (by decide) (show sp1 _ QQ = none by unfold sp1; rw [setF_other _ _ (by decide)]; rfl) hB4 (by omega) (by omega)).mono ?_
    rintro e w5 ⟨rfl, ⟨own5, hd5, _⟩, hc5⟩
    replace hd5 : Dk w0.heap.size d 2 own5 (sp2 (a ++ m, a.length) (b, 0)) (0 + a.length + m.length + b.length) (alive d) 0 w5 := hd5
    have hb15 := hb14.trans (hd4.chg hc5)
    clear hc5
    go_wp2_with fail
    refine (sync_alive hd5 ⟨#[113]⟩ (by simp [ByteArray.size, maxLen]) (b, 0) (sp2_new _ _)).mono ?_
    rintro e w6 ⟨rfl, ⟨own6, hd6, _⟩, hc6⟩
    replace hd6 : Dk w0.heap.size d 2 own6 (setF (sp2 (a ++ m, a.length) (b, 0)) QQ (some (b, b.length))) (0 + a.length + m.length + b.length) (alive d) 0 w6 := hd6
    rw [sp2_setN, Nat.zero_add] at hd6
    have hb16 := hb15.trans (hd5.chg hc6)
    clear hc6
    go_wp2_with fail
    refine (rename_over hd6 ⟨#[112]⟩ ⟨#[113]⟩ (by simp [ByteArray.size, maxLen]) (by decide) (by decide) (a ++ m, a.length) (b, b.length) (sp2_file _ _) (sp2_over _ _) (by omega) (by simp only []; omega) (by omega)).mono ?_
    rintro e w7 ⟨rfl, ⟨own7, hd7, _⟩, hc7⟩
    replace hd7 : Dk w0.heap.size d 3 own7 (setF (setF (sp2 (a ++ m, a.length) (b, b.length)) PP none) QQ (some (a ++ m, a.length))) (a.length + m.length + b.length - b.length) (alive d) 0 w7 := hd7
    rw [sq_of, Nat.add_sub_cancel] at hd7
    have hb17 := hb16.trans (hd6.chg hc7)
    clear hc7
    go_wp2_with fail
    refine (read_alive hd7 ⟨#[113]⟩ (by simp [ByteArray.size, maxLen]) (a ++ m, a.length) (sq_at _) (by simp; omega)).mono ?_
    rintro e w8 ⟨v8, rfl, ho8, hb8⟩
    have hd8 := hd7.below hb8
    have hb18 := hb17.trans (hb8.mono hd7.leB)
    have hA8 := hA0.below hb18 (Nat.le_refl _)
    go_wp2_with fail
    refine (lcopy_any hA8 (by omega)).mono ?_
    rintro e w9 ⟨v9, rfl, ho9, hb9⟩
    have hd9 := hd8.below hb9
    have hb19 := hb18.trans (hb9.mono hd8.leB)
    have hM9 := hM0.below hb19 (Nat.le_refl _)
    have hs9 := hb9.size
    have ho89 := ho8.below hb9 (Nat.le_refl _)
    have hlo9 := hd9.lt
    have hv9 : ∀ b, v9.ownBlock = some b → w8.heap.size ≤ b := fun b e => (World.ownsRow.lt ho9 b e).1
    have hlo8 := hd8.lt
    go_wp2_with (first | (at_builtin; refine wpList_unguard rfl ?_; refine wpList_app rfl _ _ rfl w8.heap.size v9 a rfl ho9 _ m rfl hM9 hs9 (by omega) ?_; intro v10 w10 ho10 hb10 hg10) | fail)
    have hd10 := hd9.next (Chg.of_grown (S := fun b => w8.heap.size ≤ b) hg10 (fun b e _ => hv9 b e)) (fun b hb q => by have := (hlo8 b hb).2; omega)
    have ho810 : Ow w7.heap.size w10 v8 (a ++ m) := ho8.below (hb9.trans (hb10.mono (Nat.le_refl _))) (Nat.le_refl _)
    have hb110 := hb19.trans (hb10.mono (Nat.le_trans hd8.leB (Nat.le_refl _)))
    refine (same_any ho810.rd ho10.rd).mono ?_
    rintro e w11 ⟨rfl, k11, rfl⟩
    rw [decide_eq_true rfl]
    have hd11 := hd10.drN k11
    have hb111 := hb110.trans ((Below.dN w10 k11).mono hd10.leB)
    have hd10k := hd10
    clear hd10 hd9 hd8 hd7 hd6 hd5 hd4 hd3 hd2 ho810 ho10 ho89 ho9 ho8 hg10 hb10
    go_wp2_with fail
    refine (read_no hd11 ⟨#[112]⟩ (by simp [ByteArray.size, maxLen]) (sq_no _)).mono ?_
    rintro e w12 ⟨rfl, k12, rfl⟩
    have hd12 := hd10k.drN (k11 + k12)
    have hb112 := hb110.trans ((Below.dN w10 (k11 + k12)).mono hd10k.leB)
    go_wp2_with fail
    refine (crash_any hd12 (sq_names _) (by omega) (by simp [sumB, sq_at]) (sq_small _ (by simp; omega)) (by omega) (by simp) (rdI_nil _) (fun b e => by simp [Value.ownBlock] at e) (by simp)).mono ?_
    rintro e w13 ⟨⟨v13, rfl⟩, ⟨own13, hd13, _⟩, hc13⟩
    rw [crash_q, Nat.add_sub_cancel] at hd13
    have hb113 := hb112.trans (hd12.chg hc13)
    clear hc13
    go_wp2_with fail
    refine (read_alive hd13 ⟨#[113]⟩ (by simp [ByteArray.size, maxLen]) (a, a.length) (sq_at _) (by simp only []; omega)).mono ?_
    rintro e w14 ⟨v14, rfl, ho14, hb14'⟩
    have hd14 := hd13.below hb14'
    have hb114 := hb113.trans (hb14'.mono hd13.leB)
    have hA14 := hA0.below hb114 (Nat.le_refl _)
    go_wp2_with fail
    refine (same_any ho14.rd hA14).mono ?_
    rintro e w15 ⟨rfl, k15, rfl⟩
    rw [decide_eq_true rfl]
    have hd15 := hd14.drN k15
    have hb115 := hb114.trans ((Below.dN w14 k15).mono hd14.leB)
    go_wp2_with fail
    refine (size_alive hd15).mono ?_
    rintro e w16 ⟨rfl, k16, rfl⟩
    have hb116 := hb114.trans ((Below.dN w14 (k15 + k16)).mono hd14.leB)
    have hsz : ((a.length : Int) == (a.length : Int)) = true := by simp
    go_wp2_with fail
    go_ret
    exact ⟨rfl, hb0.trans (hb116.mono hBs)⟩

set_option maxHeartbeats 4000000 in
theorem names_same {va : Value} {a : List UInt8} {w : World} (hA : Rd w va a) (hAl : a.length ≤ 140737488351232) {vb : Value} {b : List UInt8} (hB : Rd w vb b) (hBl : b.length ≤ 140737488351232) {vm : Value} {m : List UInt8} (hM : Rd w vm m) (hMl : m.length ≤ 140737488351232) :
    Calls Try.prog 6 #[va, vb, vm, .bool true] w fun e w' => e = .returned (.bool true) ∧ Below w.heap.size w w' := by
  obtain ⟨aa, ca, ea, _, a2, _, _⟩ := id hA
  obtain ⟨ab, cb, eb, _, b2, _, _⟩ := id hB
  obtain ⟨am, cm, em, _, m2, _, _⟩ := id hM
  subst ea
  subst eb
  subst em
  unfold maxLen at a2 b2 m2
  go_enter Try.func6, Try.ntmps6
  go_wp2_with fail
  refine (awake_any _).mono ?_
  rintro e w0 ⟨rfl, hb0⟩
  have hBs : w.heap.size ≤ w0.heap.size := hb0.size
  have hA0 := hA.below hb0 (Nat.le_refl _)
  have hB0 := hB.below hb0 (Nat.le_refl _)
  have hM0 := hM.below hb0 (Nat.le_refl _)
  go_wp2_with fail
  refine (new_any w0).mono ?_
  rintro e w1 ⟨d, own1, rfl, hd1, hb1⟩
  have hA1 := hA0.below hb1 (Nat.le_refl _)
  by_cases hbig : 1048576 < a.length + b.length + m.length
  · go_wp2_with fail
    go_ret
    exact ⟨rfl, Below.tr hb0 hb1⟩
  · go_wp2_with fail
    refine (write_new hd1 ⟨#[112]⟩ (by decide) (by decide) rfl hA1 (by omega) (by omega)).mono ?_
    rintro e w2 ⟨rfl, ⟨own2, hd2, _⟩, hc2⟩
    replace hd2 : Dk w0.heap.size d 1 own2 (sp1 (a, 0)) (0 + a.length) (alive d) 0 w2 := hd2
    have hb12 : Below w0.heap.size w0 w2 := hb1.trans (hd1.chg hc2)
    clear hc2
    go_wp2_with fail
    refine (sync_alive hd2 ⟨#[112]⟩ (by simp [ByteArray.size, maxLen]) (a, 0) (sp1_at _)).mono ?_
    rintro e w3 ⟨rfl, ⟨own3, hd3, _⟩, hc3⟩
    replace hd3 : Dk w0.heap.size d 1 own3 (setF (sp1 (a, 0)) PP (some (a, a.length))) (0 + a.length) (alive d) 0 w3 := hd3
    rw [sp1_set] at hd3
    have hb13 := hb12.trans (hd2.chg hc3)
    have hM3 := hM0.below hb13 (Nat.le_refl _)
    clear hc3
    go_wp2_with fail
    refine (write_there hd3 ⟨#[112]⟩ (by decide) (by decide) (a, a.length) (sp1_at _) hM3 (by omega) (by simp only []; omega)).mono ?_
    rintro e w4 ⟨rfl, ⟨own4, hd4, _⟩, hc4⟩
    replace hd4 : Dk w0.heap.size d 1 own4 (setF (sp1 (a, a.length)) PP (some (a ++ m, a.length))) (0 + a.length + m.length) (alive d) 0 w4 := hd4
    rw [sp1_set] at hd4
    have hb14 := hb13.trans (hd3.chg hc4)
    have hB4 := hB0.below hb14 (Nat.le_refl _)
    clear hc4
    go_wp2_with fail
    refine (write_new hd4 ⟨#[113]⟩ (by decide) (by decide) (show sp1 _ QQ = none by unfold sp1; rw [setF_other _ _ (by decide)]; rfl) hB4 (by omega) (by omega)).mono ?_
    rintro e w5 ⟨rfl, ⟨own5, hd5, _⟩, hc5⟩
    replace hd5 : Dk w0.heap.size d 2 own5 (sp2 (a ++ m, a.length) (b, 0)) (0 + a.length + m.length + b.length) (alive d) 0 w5 := hd5
    have hb15 := hb14.trans (hd4.chg hc5)
    clear hc5
    go_wp2_with fail
    refine (sync_alive hd5 ⟨#[113]⟩ (by simp [ByteArray.size, maxLen]) (b, 0) (sp2_new _ _)).mono ?_
    rintro e w6 ⟨rfl, ⟨own6, hd6, _⟩, hc6⟩
    replace hd6 : Dk w0.heap.size d 2 own6 (setF (sp2 (a ++ m, a.length) (b, 0)) QQ (some (b, b.length))) (0 + a.length + m.length + b.length) (alive d) 0 w6 := hd6
    rw [sp2_setN, Nat.zero_add] at hd6
    have hb16 := hb15.trans (hd5.chg hc6)
    clear hc6
    go_wp2_with fail
    refine (rename_new hd6 ⟨#[112]⟩ ⟨#[112]⟩ (by simp [ByteArray.size, maxLen]) (by decide) (by decide) (a ++ m, a.length) (sp2_file _ _) (setF_same _ _ _) (by omega)).mono ?_
    rintro e w7 ⟨rfl, ⟨own7, hd7, _⟩, hc7⟩
    replace hd7 : Dk w0.heap.size d 3 own7 (setF (setF (sp2 (a ++ m, a.length) (b, b.length)) PP none) PP (some (a ++ m, a.length))) (a.length + m.length + b.length) (alive d) 0 w7 := hd7
    rw [sp2_again] at hd7
    have hb17 := hb16.trans (hd6.chg hc7)
    clear hc7
    go_wp2_with fail
    refine (read_alive hd7 ⟨#[112]⟩ (by simp [ByteArray.size, maxLen]) (a ++ m, a.length) (sp2_file _ _) (by simp; omega)).mono ?_
    rintro e w8 ⟨v8, rfl, ho8, hb8⟩
    have hd8 := hd7.below hb8
    have hb18 := hb17.trans (hb8.mono hd7.leB)
    have hA8 := hA0.below hb18 (Nat.le_refl _)
    go_wp2_with fail
    refine (lcopy_any hA8 (by omega)).mono ?_
    rintro e w9 ⟨v9, rfl, ho9, hb9⟩
    have hd9 := hd8.below hb9
    have hb19 := hb18.trans (hb9.mono hd8.leB)
    have hM9 := hM0.below hb19 (Nat.le_refl _)
    have hs9 := hb9.size
    have ho89 := ho8.below hb9 (Nat.le_refl _)
    have hlo9 := hd9.lt
    have hv9 : ∀ b, v9.ownBlock = some b → w8.heap.size ≤ b := fun b e => (World.ownsRow.lt ho9 b e).1
    have hlo8 := hd8.lt
    go_wp2_with (first | (at_builtin; refine wpList_unguard rfl ?_; refine wpList_app rfl _ _ rfl w8.heap.size v9 a rfl ho9 _ m rfl hM9 hs9 (by omega) ?_; intro v10 w10 ho10 hb10 hg10) | fail)
    have hd10 := hd9.next (Chg.of_grown (S := fun b => w8.heap.size ≤ b) hg10 (fun b e _ => hv9 b e)) (fun b hb q => by have := (hlo8 b hb).2; omega)
    have ho810 : Ow w7.heap.size w10 v8 (a ++ m) := ho8.below (hb9.trans (hb10.mono (Nat.le_refl _))) (Nat.le_refl _)
    have hb110 := hb19.trans (hb10.mono (Nat.le_trans hd8.leB (Nat.le_refl _)))
    refine (same_any ho810.rd ho10.rd).mono ?_
    rintro e w11 ⟨rfl, k11, rfl⟩
    rw [decide_eq_true rfl]
    have hd11 := hd10.drN k11
    have hb111 := hb110.trans ((Below.dN w10 k11).mono hd10.leB)
    have hd10k := hd10
    clear hd10 hd9 hd8 hd7 hd6 hd5 hd4 hd3 hd2 ho810 ho10 ho89 ho9 ho8 hg10 hb10
    go_wp2_with fail
    refine (read_alive hd11 ⟨#[112]⟩ (by simp [ByteArray.size, maxLen]) (a ++ m, a.length) (sp2_file _ _) (by simp; omega)).mono ?_
    rintro e w12 ⟨v12, rfl, ho12, hb12'⟩
    have hd12 := hd11.below hb12'
    have hb112 := hb111.trans (hb12'.mono hd11.leB)
    go_wp2_with fail
    refine (crash_any hd12 (sp2_names _ _) (by omega) (by rw [sp2_sum]; simp) (sp2_small _ _ (by simp; omega) (by simp only []; omega)) (by omega) (by simp) (rdI_nil _) (fun b e => by simp [Value.ownBlock] at e) (by simp)).mono ?_
    rintro e w13 ⟨⟨v13, rfl⟩, ⟨own13, hd13, _⟩, hc13⟩
    rw [crash_pq, show a.length + m.length + b.length - m.length = a.length + b.length by omega] at hd13
    have hb113 := hb112.trans (hd12.chg hc13)
    clear hc13
    go_wp2_with fail
    refine (read_alive hd13 ⟨#[112]⟩ (by simp [ByteArray.size, maxLen]) (a, a.length) (sp2_file _ _) (by simp only []; omega)).mono ?_
    rintro e w14 ⟨v14, rfl, ho14, hb14'⟩
    have hd14 := hd13.below hb14'
    have hb114 := hb113.trans (hb14'.mono hd13.leB)
    have hA14 := hA0.below hb114 (Nat.le_refl _)
    go_wp2_with fail
    refine (same_any ho14.rd hA14).mono ?_
    rintro e w15 ⟨rfl, k15, rfl⟩
    rw [decide_eq_true rfl]
    have hd15 := hd14.drN k15
    have hb115 := hb114.trans ((Below.dN w14 k15).mono hd14.leB)
    go_wp2_with fail
    refine (size_alive hd15).mono ?_
    rintro e w16 ⟨rfl, k16, rfl⟩
    have hb116 := hb114.trans ((Below.dN w14 (k15 + k16)).mono hd14.leB)
    have hsz : (((a.length + b.length : Nat) : Int) == (a.length : Int) + (b.length : Int)) = true := by simp
    go_wp2_with fail
    go_ret
    exact ⟨rfl, hb0.trans (hb116.mono hBs)⟩

theorem names_walk {va : Value} {a : List UInt8} {w : World} (hA : Rd w va a) (hAl : a.length ≤ 140737488351232) {vb : Value} {b : List UInt8} (hB : Rd w vb b) (hBl : b.length ≤ 140737488351232) {vm : Value} {m : List UInt8} (hM : Rd w vm m) (hMl : m.length ≤ 140737488351232) (same : Bool) :
    Calls Try.prog 6 #[va, vb, vm, .bool same] w fun e w' => e = .returned (.bool true) ∧ Below w.heap.size w w' := by
  cases same
  · exact names_other hA hAl hB hBl hM hMl
  · exact names_same hA hAl hB hBl hM hMl


namespace diskNames
theorem own : ownKnob Try.prog.godebug = none := by kernel_rfl
theorem laidOut : laidOutB Try.prog = true := by kernel_rfl

theorem lifted (os : Os) (started : os.Started) (H : Type) (enc : TypeId × Value → H) :
    ReturnsInHanded {} Try.checked os 6 .any (Rows.diskNamesSpec.pre6 enc Try.prog Try.f6 Rows.diskNamesRow.domain false) (Rows.diskNamesSpec.post enc Try.prog Try.f6 false true false false) := by
  refine returnsInHanded_of_change_sized (C := Try.checked) own started (by kernel_rfl) Try.func6
    (ChangeSpec.witness6 (enc := enc) (C := Try.checked) false ⟨#[], #[.slice none 0 0, .slice none 0 0, .slice none 0 0, .bool false], []⟩ 8 (by kernel_rfl) (by kernel_rfl) (by kernel_rfl) (by kernel_rfl)) ?_
  intro W base args ds gs before hval0 hW _ hsz0 _
  have hsz : (DataW.weightsEach Try.prog (Try.f6.params.toList ++ Rows.diskNamesSpec.plain.varTypes Try.prog) (ds ++ gs)).all (· ≤ reachBytes) = true := hsz0
  have hval : ∀ (j : Nat) t v, Try.f6.params[j]? = some t → args[j]? = some v → Value.okWide Try.prog W .any base t v := hval0
  have hW' := hW
  obtain ⟨p, q, hA0, hV, rfl, hfz, hnd⟩ := hW
  have hA : DataW.TrodAll enc Try.prog W 0 (fun _ => true) true Try.f6.params.toList args.toList ds p := hA0
  rw [Try.params6] at hA hval hsz
  obtain ⟨v0, vs0, d0, ds0, p0, q0, hargs, rfl, rfl, h0, r0⟩ := trodAll_cons hA
  obtain ⟨v1, vs1, d1, ds1, p1, q1, rfl, rfl, rfl, h1, r1⟩ := trodAll_cons r0
  obtain ⟨v2, vs2, d2, ds2, p2, q2, rfl, rfl, rfl, h2, r2⟩ := trodAll_cons r1
  obtain ⟨v3, vs3, d3, ds3, p3, q3, rfl, rfl, rfl, h3, r3⟩ := trodAll_cons r2
  obtain ⟨rfl, rfl, rfl⟩ := trodAll_nil r3
  obtain rfl : args = #[v0, v1, v2, v3] := by cases args; simp_all
  obtain ⟨rfl, rfl⟩ := trodVars_none hV
  obtain ⟨a0, len0, cap0, rfl⟩ := okWide_slice Try.underlying29 (hval 0 29 v0 rfl rfl)
  have k0 := h0
  have lt0 : ∀ x ∈ p0, x.block < W.heap.size := by obtain ⟨m, hm⟩ := k0; exact DataW.trod_lt m _ _ _ hm
  obtain ⟨l0, hr0, hlen0, zs0, hz0⟩ := open_bytes h0
  have hl0 : l0.length ≤ 140737488351232 := by
    rcases hz0 with ⟨_, h⟩ | ⟨hd, hzl, hle⟩
    · omega
    · subst hd
      have := sized_slice hsz (j := 0) (t := 29) (e := 5) rfl rfl Try.underlying29
      rw [Try.bytes5] at this
      simp only [lits, List.length_map, List.length_take, List.length_drop, reachBytes] at this
      omega
  obtain ⟨a1, len1, cap1, rfl⟩ := okWide_slice Try.underlying29 (hval 1 29 v1 rfl rfl)
  have k1 := h1
  have lt1 : ∀ x ∈ p1, x.block < W.heap.size := by obtain ⟨m, hm⟩ := k1; exact DataW.trod_lt m _ _ _ hm
  obtain ⟨l1, hr1, hlen1, zs1, hz1⟩ := open_bytes h1
  have hl1 : l1.length ≤ 140737488351232 := by
    rcases hz1 with ⟨_, h⟩ | ⟨hd, hzl, hle⟩
    · omega
    · subst hd
      have := sized_slice hsz (j := 1) (t := 29) (e := 5) rfl rfl Try.underlying29
      rw [Try.bytes5] at this
      simp only [lits, List.length_map, List.length_take, List.length_drop, reachBytes] at this
      omega
  obtain ⟨a2, len2, cap2, rfl⟩ := okWide_slice Try.underlying29 (hval 2 29 v2 rfl rfl)
  have k2 := h2
  have lt2 : ∀ x ∈ p2, x.block < W.heap.size := by obtain ⟨m, hm⟩ := k2; exact DataW.trod_lt m _ _ _ hm
  obtain ⟨l2, hr2, hlen2, zs2, hz2⟩ := open_bytes h2
  have hl2 : l2.length ≤ 140737488351232 := by
    rcases hz2 with ⟨_, h⟩ | ⟨hd, hzl, hle⟩
    · omega
    · subst hd
      have := sized_slice hsz (j := 2) (t := 29) (e := 5) rfl rfl Try.underlying29
      rw [Try.bytes5] at this
      simp only [lits, List.length_map, List.length_take, List.length_drop, reachBytes] at this
      omega
  obtain ⟨x3, rfl, rfl, rfl⟩ := open_bool Try.underlying4 (hval 3 4 v3 rfl rfl) h3
  clear hA0 hval0
  refine (names_walk hr0 hl0 hr1 hl1 hr2 hl2 x3).mono fun e W' ⟨he, bel⟩ => ?_
  subst he
  exact ⟨_, rfl, _, _, _, [], _, [], hW', trodAll_mk1 (shut_bool Try.underlying4 _), (trodAll_cons_mk (Below.trod laidOut (by kernel_rfl) (of_decide_eq_true (by kernel_rfl)) k0 bel lt0) (trodAll_cons_mk (Below.trod laidOut (by kernel_rfl) (of_decide_eq_true (by kernel_rfl)) k1 bel lt1) (trodAll_cons_mk (Below.trod laidOut (by kernel_rfl) (of_decide_eq_true (by kernel_rfl)) k2 bel lt2) (trodAll_cons_mk (shut_bool Try.underlying4 _) trodAll_mk0)))), rfl, bel.frame _, fun h => by cases h⟩
end diskNames

/-- The statement. -/
theorem diskNames_holds : Rows.DiskNamesSaid :=
  OpenClaim.holds_of_wide 6 Try.f6 rfl rfl rfl rfl rfl rfl rfl ⟨rfl, rfl, rfl, rfl, rfl⟩ rfl rfl rfl rfl rfl (by kernel_rfl) Try.func6 (by kernel_rfl)
    (of_decide_eq_true (by kernel_rfl)) (by unfold Func.isWrapper; first | (rw [if_pos (by decide +kernel)]; kernel_rfl) | (rw [if_neg (by decide +kernel)]; exact ⟨rfl, rfl⟩))
    (fun os started H enc _ => diskNames.lifted os started H enc)
#print axioms diskNames_holds

end Go.Proofs.Ytbolnelbchffhac
