/- A program that is one: the first line of each statement about disks. -/
import Derived.Test.YtbolnelbchffhacDkNew
import Derived.Test.YtbolnelbchffhacDkWrite2
import Derived.Test.YtbolnelbchffhacDkCrash2
import Derived.Test.YtbolnelbchffhacSame
namespace Go.Proofs.Ytbolnelbchffhac
open Go.RowKit Go.Maps
set_option linter.unusedVariables false
set_option maxRecDepth 100000

abbrev St := Nm → Option (List UInt8 × Nat)
def none0 : St := fun _ => none
theorem setF_at (st : St) (s : ByteArray) (x : Option (List UInt8 × Nat)) : setF st s.data.toList x s.data.toList = x := setF_same _ _ _

theorem Below.al (w : World) (o : Obj) : Below w.heap.size w (w.alloc o) := (Below.refl _ _).alloc (Nat.le_refl _) o
theorem Ow.drewN {B : Nat} {w : World} {v : Value} {l : List UInt8} (h : Ow B w v l) (n : Nat) : Ow B (w.drewN n) v l := h.below (below_drewN (Below.refl _ _) n) (Nat.le_refl _)

section
variable {B d n : Nat} {own : Nat → Option Role} {st : Nm → Option (List UInt8 × Nat)} {sz : Nat} {may : Value} {left : Int} {w w' : World}

theorem Dk.below (h : Dk B d n own st sz may left w) (hb : Below w.heap.size w w') : Dk B d n own st sz may left w' :=
  h.next (Chg.of_below hb) (fun b hb' q => by obtain ⟨_, _, _, _, h⟩ := h; have := (h.lo b hb').2; omega)
theorem Dk.lt (h : Dk B d n own st sz may left w) : ∀ b, own b ≠ none → B ≤ b ∧ b < w.heap.size := by obtain ⟨_, _, _, _, h⟩ := h; exact h.lo
theorem Dk.leB (h : Dk B d n own st sz may left w) : B ≤ w.heap.size := by
  obtain ⟨_, _, _, _, h⟩ := h
  have := h.lo d (by rw [h.od]; simp)
  omega
theorem Dk.chg (h : Dk B d n own st sz may left w) (hc : Chg (fun b => own b ≠ none) w w') : Below B w w' := hc.below (fun b hb => (h.lt b hb).1) h.leB
end

theorem rd_lit2 (w : World) (a b : Int) (x y : UInt8) (ha : a = (x.toNat : Int)) (hb : b = (y.toNat : Int)) (t : TypeId) : Rd (w.alloc (.cells #[.int .u8 a, .int .u8 b] t)) (.slice (some ⟨w.heap.size, 0, none⟩) 2 2) [x, y] := by
  subst ha; subst hb
  refine Rd.mk rfl (by simp) (by simp [maxLen]) (fun i hi => ?_)
  have hi' : i = 0 ∨ i = 1 := by simp at hi; omega
  rcases hi' with rfl | rfl
  · rw [Addr.add_lit, World.cell?_alloc_at _ _ _ _ rfl]; rfl
  · rw [Addr.add_lit, World.cell?_alloc_at _ _ _ _ rfl]; rfl
theorem rd_lit3 (w : World) (a b c : Int) (x y z : UInt8) (ha : a = (x.toNat : Int)) (hb : b = (y.toNat : Int)) (hc : c = (z.toNat : Int)) (t : TypeId) : Rd (w.alloc (.cells #[.int .u8 a, .int .u8 b, .int .u8 c] t)) (.slice (some ⟨w.heap.size, 0, none⟩) 3 3) [x, y, z] := by
  subst ha; subst hb; subst hc
  refine Rd.mk rfl (by simp) (by simp [maxLen]) (fun i hi => ?_)
  have hi' : i = 0 ∨ i = 1 ∨ i = 2 := by simp at hi; omega
  rcases hi' with rfl | rfl | rfl
  · rw [Addr.add_lit, World.cell?_alloc_at _ _ _ _ rfl]; rfl
  · rw [Addr.add_lit, World.cell?_alloc_at _ _ _ _ rfl]; rfl
  · rw [Addr.add_lit, World.cell?_alloc_at _ _ _ _ rfl]; rfl
theorem rdI_lit1 (w : World) (x : Int) (t : TypeId) : RdI (w.alloc (.cells #[.int .i64 x] t)) (.slice (some ⟨w.heap.size, 0, none⟩) 1 1) [x] := by
  refine ⟨_, _, rfl, by simp, by simp [maxLen], fun i hi => ⟨_, rfl, ?_⟩⟩
  obtain rfl : i = 0 := by simpa using hi
  rw [Addr.add_lit, World.cell?_alloc_at _ _ _ _ rfl]; rfl
theorem rdI_lit2 (w : World) (x y : Int) (t : TypeId) : RdI (w.alloc (.cells #[.int .i64 x, .int .i64 y] t)) (.slice (some ⟨w.heap.size, 0, none⟩) 2 2) [x, y] := by
  refine ⟨_, _, rfl, by simp, by simp [maxLen], fun i hi => ⟨_, rfl, ?_⟩⟩
  have hi' : i = 0 ∨ i = 1 := by simp at hi; omega
  rcases hi' with rfl | rfl
  · rw [Addr.add_lit, World.cell?_alloc_at _ _ _ _ rfl]; rfl
  · rw [Addr.add_lit, World.cell?_alloc_at _ _ _ _ rfl]; rfl

/-- One file, named a. -/
def stA (b : List UInt8) (k : Nat) : St := setF none0 [97] (some (b, k))
theorem stA_at (b : List UInt8) (k : Nat) : stA b k [97] = some (b, k) := setF_same _ _ _
theorem stA_set (b c : List UInt8) (k j : Nat) : setF (stA b k) [97] (some (c, j)) = stA c j := setF_setF _ _ _ _
theorem stA_names (b : List UInt8) (k : Nat) : NamesOf (stA b k) [[97]] := by
  refine ⟨fun nm => ?_, by simp, by simp⟩
  by_cases h : nm = [97]
  · subst h; simp [stA_at]
  · simp [h, stA, setF_other _ _ h, none0]
theorem stA_small (b : List UInt8) (k : Nat) (hb : b.length ≤ 16777216) : ∀ nm f, stA b k nm = some f → f.1.length ≤ 16777216 := by
  intro nm f e
  by_cases h : nm = [97]
  · subst h; rw [stA_at] at e; obtain rfl := Option.some.inj e; exact hb
  · simp [stA, setF_other _ _ h, none0] at e
theorem stA_crash : crashF [[97]] [1] 0 (stA [1, 2, 3, 4] 2) 4 = (stA [1, 2, 3] 3, 3) := by
  simp [crashF, stA_at, stA_set, stays, keepAt]

set_option maxHeartbeats 2000000 in
theorem awake_any (w : World) : Calls Try.prog 7 #[] w fun e w' => e = .returned (.bool true) ∧ Below w.heap.size w w' := by
  go_enter Try.func7, Try.ntmps7
  go_wp2_with fail
  refine (new_any w).mono ?_
  rintro e w1 ⟨d, own, rfl, hd1, hb1⟩
  go_wp2_with fail
  refine (write_new (hd1.below (Below.al w1 _)) ⟨#[97]⟩ (by decide) (by decide) rfl (rd_lit2 w1 1 2 1 2 rfl rfl _) (by simp) (by omega)).mono ?_
  rintro e w2 ⟨rfl, ⟨own2, hd2, _⟩, hc2⟩
  replace hd2 : Dk w.heap.size d 1 own2 (stA [1, 2] 0) 2 (alive d) 0 w2 := hd2
  have hb2 := (hd1.below (Below.al w1 (.cells #[.int .u8 1, .int .u8 2] 5))).chg hc2
  have hB1 := hd1.leB
  have h02 : Below w.heap.size w w2 := (hb1.trans ((Below.al w1 _).mono hB1)).trans hb2
  clear hc2 hb2
  go_wp2_with fail
  refine (sync_alive hd2 ⟨#[97]⟩ (by simp [ByteArray.size, maxLen]) ([1, 2], 0) (stA_at _ _)).mono ?_
  rintro e w3 ⟨rfl, ⟨own3, hd3, _⟩, hc3⟩
  replace hd3 : Dk w.heap.size d 1 own3 (setF (stA [1, 2] 0) [97] (some ([1, 2], 2))) 2 (alive d) 0 w3 := hd3
  rw [stA_set] at hd3
  have h03 := h02.trans (hd2.chg hc3)
  clear hc3
  go_wp2_with fail
  refine (write_there (hd3.below (Below.al w3 _)) ⟨#[97]⟩ (by decide) (by decide) ([1, 2], 2) (stA_at _ _) (rd_lit2 w3 3 4 3 4 rfl rfl _) (by simp) (by simp)).mono ?_
  rintro e w4 ⟨rfl, ⟨own4, hd4, _⟩, hc4⟩
  replace hd4 : Dk w.heap.size d 1 own4 (setF (stA [1, 2] 2) [97] (some ([1, 2, 3, 4], 2))) 4 (alive d) 0 w4 := hd4
  rw [stA_set] at hd4
  have h04 := (h03.trans ((Below.al w3 (.cells #[.int .u8 3, .int .u8 4] 5)).mono hd3.leB)).trans ((hd3.below (Below.al w3 _)).chg hc4)
  clear hc4
  have hko : ∀ b, (Value.slice (some ⟨w4.heap.size, 0, none⟩) 1 1).ownBlock = some b → own4 b = none := fun b e => by
    by_cases q : own4 b = none
    · exact q
    · have := (hd4.lt b q).2
      have e2 : w4.heap.size = b := by simpa [Value.ownBlock] using e
      omega
  go_wp2_with fail
  refine (crash_any (hd4.below (Below.al w4 _)) (stA_names _ _) (by omega) (by simp [sumB, stA_at]) (stA_small _ _ (by simp)) (by omega) (by simp) (rdI_lit1 w4 1 _) hko (by simp)).mono ?_
  rintro e w5 ⟨⟨v5, rfl⟩, ⟨own5, hd5, _⟩, hc5⟩
  rw [stA_crash] at hd5
  have h05 := (h04.trans ((Below.al w4 (.cells #[.int .i64 1] 3)).mono hd4.leB)).trans ((hd4.below (Below.al w4 _)).chg hc5)
  clear hc5
  go_wp2_with fail
  refine (read_alive hd5 ⟨#[97]⟩ (by simp [ByteArray.size, maxLen]) ([1, 2, 3], 3) (stA_at _ _) (by simp)).mono ?_
  rintro e w6 ⟨v6, rfl, ho6, hb6⟩
  have h06 := h05.trans (hb6.mono hd5.leB)
  have hB6 := h06.size
  go_wp2_with fail
  refine (same_any (ho6.rd.alloc _) (rd_lit3 w6 1 2 3 1 2 3 rfl rfl rfl _)).mono ?_
  rintro e w7 ⟨rfl, k7, rfl⟩
  rw [decide_eq_true rfl]
  go_wp2_with fail
  go_ret
  have h07 := h06.trans ((Below.al w6 (.cells #[.int .u8 1, .int .u8 2, .int .u8 3] 5)).mono hB6)
  exact ⟨rfl, h07.trans ((Below.dN _ k7).mono h07.size)⟩
end Go.Proofs.Ytbolnelbchffhac
