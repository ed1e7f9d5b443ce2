/- heapSort at uint64. -/
import Derived.Test.YtefhinopppdjbaaGreatG33
namespace Go.Proofs.YtefhinopppdjbaaGreat
open Go.RowKit Go.Sort
set_option linter.unusedVariables false
set_option maxRecDepth 100000

theorem sift_size (hi first : Nat) : ∀ (n root : Nat) (d : Array UInt64), hi - root ≤ n → (siftDown ltU hi first root d).size = d.size := by
  intro n
  induction n with
  | zero => intro root d h; rw [sift_stop _ _ _ _ (by omega)]
  | succ n ih =>
    intro root d h
    by_cases hs : 2 * root + 1 ≥ hi
    · rw [sift_stop _ _ _ _ hs]
    · rw [sift_eq _ _ _ _ hs]
      split
      · have hc : root < chil hi first root d := by unfold chil; split <;> omega
        rw [ih _ _ (by omega), swp_size]
      · rfl

set_option maxHeartbeats 4000000 in
theorem uheap_any {B g c : Nat} {d : Array UInt64} {w : World} (h : Rw B g c d w) (a b : Nat) (hb : b ≤ d.size) (ha : a < b) (hsz : d.size ≤ 1152921504606846976) :
    Calls Tryz.prog 52 #[.slice (some ⟨g, 0, none⟩) d.size c, .int .i64 a, .int .i64 b] w fun e w' => e = .returned (.tuple #[]) ∧ Rw B g c (heapSort ltU d a b) w' ∧ Chg (fun x => x = g) w w' := by
  obtain ⟨z1, z2, z3, z4⟩ := h.sz
  unfold heapSort
  generalize hR : heapPop ltU a (b - a) (heapBuild ltU (b - a) a ((b - a - 1) / 2 + 1) d) = R
  have HR : Hid _ := hR
  clear hR
  obtain ⟨hi, hhi⟩ : ∃ k, k = b - a := ⟨_, rfl⟩
  rw [← hhi] at HR
  obtain ⟨m, hm⟩ : ∃ k, k = (hi - 1) / 2 := ⟨_, rfl⟩
  rw [← hm] at HR
  have hhp : 0 < hi := by omega
  have hhs : a + hi ≤ d.size := by omega
  have hms : m < hi := by omega
  have e1 : (b : Int) - (a : Int) = (hi : Int) := by omega
  have e2 : (hi : Int) - 1 = ((hi - 1 : Nat) : Int) := by omega
  have e3 : IntKind.i64.wrap ((hi : Int) - 1) = ((hi - 1 : Nat) : Int) := by rw [IntKind.wrap_i64]; omega
  have e4 : ((hi - 1 : Nat) : Int) / 2 = (m : Int) := by omega
  clear hhi hm
  go_enter Tryz.func52, Tryz.ntmps52
  go_wp2_with fail
  go_loopw [9] (fun vi wr => ∃ (k : Nat) (dk : Array UInt64), vi = .int .i64 ((k : Int) - 1) ∧ k ≤ hi ∧ Hid (dk.size = d.size) ∧ Rw B g c dk wr ∧ Hid (heapPop ltU a hi (heapBuild ltU hi a k dk) = R) ∧ Chg (fun x => x = g) w wr) (fun vi _ => (intOf vi + 1).toNat)
  case atStart => exact ⟨m + 1, d, by first | rfl | go_num | (simp; omega), by omega, rfl, h, HR, Chg.refl _ _⟩
  case round =>
    obtain ⟨k, dk, rfl, hk, HZ, hkw, HO, hch⟩ := hrel
    clear h HR e4
    by_cases hk0 : k = 0
    · subst hk0
      have HO2 : Hid (heapPop ltU a hi dk = R) := by have := HO.out; rw [heapBuild] at this; exact this
      clear HO
      rw [show ((0 : Nat) : Int) - 1 = -1 from rfl]
      go_wp2_with fail
      generalize hWW : wr = wS at *
      clear hWW wr
      go_loopw [10] (fun vi wr => ∃ (k : Nat) (dj : Array UInt64), vi = .int .i64 ((k : Int) - 1) ∧ k ≤ hi ∧ Hid (dj.size = d.size) ∧ Rw B g c dj wr ∧ Hid (heapPop ltU a k dj = R) ∧ Chg (fun x => x = g) w wr) (fun vi _ => (intOf vi + 1).toNat)
      case atStart => exact ⟨hi, dk, by first | rfl | (simp; omega), Nat.le_refl _, HZ, hkw, HO2, hch⟩
      case round =>
        obtain ⟨k, dj, rfl, hk, HZj, hj, HO, hcj⟩ := hrel
        clear hkw HO2 hch
        by_cases hk0 : k = 0
        · subst hk0
          have HO2 : Hid (R = dj) := by have := HO.out; rw [heapPop] at this; exact this.symm
          obtain rfl := HO2.out
          clear HO
          go_wp2_with fail
          go_end0
          exact ⟨rfl, hj, hcj⟩
        · obtain ⟨k', rfl⟩ : ∃ k', k = k' + 1 := ⟨k - 1, by omega⟩
          have f1 : ((k' + 1 : Nat) : Int) - 1 = (k' : Int) := by omega
          obtain ⟨fk, hfk⟩ : ∃ x, x = a + k' := ⟨_, rfl⟩
          have e5 : (a : Int) + (k' : Int) = (fk : Int) := by omega
          have HO2 : Hid (heapPop ltU a k' (siftDown ltU k' a 0 (swp dj a fk)) = R) := by have := HO.out; rw [heapPop] at this; rw [hfk]; exact this
          have ca := hj.cell a (by rw [HZj.out]; omega)
          have ck := hj.cell fk (by rw [HZj.out]; omega)
          have fa := hj.froz a
          have ff := hj.froz fk
          have l1 : (a : Int) < (d.size : Int) := by omega
          have l2 : (fk : Int) < (d.size : Int) := by omega
          have hfs : fk < d.size := by omega
          have hsw : ∀ n, Rw B g c (swp dj a fk) (((wr.drewN n).setCell ⟨g, a, none⟩ (.int .u64 ((dj[fk]!).toNat : Int))).setCell ⟨g, fk, none⟩ (.int .u64 ((dj[a]!).toNat : Int))) := fun n => (hj.drewN n).swp a fk
          have HSZ : Hid ((swp dj a fk).size = d.size) := by show _ = _; rw [swp_size]; exact HZj.out
          have HCALL : Hid (∀ n, Calls Tryz.prog 81 #[.slice (some ⟨g, 0, none⟩) d.size c, .int .i64 (0 : Nat), .int .i64 k', .int .i64 a] (((wr.drewN n).setCell ⟨g, a, none⟩ (.int .u64 ((dj[fk]!).toNat : Int))).setCell ⟨g, fk, none⟩ (.int .u64 ((dj[a]!).toNat : Int))) fun e w' => e = .returned (.tuple #[]) ∧ Rw B g c (siftDown ltU k' a 0 (swp dj a fk)) w' ∧ Chg (fun x => x = g) (((wr.drewN n).setCell ⟨g, a, none⟩ (.int .u64 ((dj[fk]!).toNat : Int))).setCell ⟨g, fk, none⟩ (.int .u64 ((dj[a]!).toNat : Int))) w') := fun n => by
            have := usift_any (hsw n) 0 k' a (by rw [HSZ.out]; omega) (Nat.zero_le _) (by rw [HSZ.out]; exact hsz)
            rw [HSZ.out] at this
            exact this
          have HS2 : Hid ((siftDown ltU k' a 0 (swp dj a fk)).size = d.size) := by show _ = _; rw [sift_size k' a _ _ _ (Nat.le_refl _)]; exact HSZ.out
          by_cases hkz : k' = 0
          · have hfa : fk = a := by omega
            subst hfa
            subst hkz
            clear HO hfk hsw
            rw [f1]
            generalize dj[fk]! = X at *
            go_wp2_with fail
            go_region
            go_wp2_with fail
            refine (HCALL.out _).mono ?_
            rintro e w1 ⟨rfl, hw1, hc1⟩
            go_wp2_with fail
            exact ⟨⟨0, _, by first | rfl | go_num, by omega, HS2, hw1, HO2, (chg_swp hcj _ _ _ _ _).trans (hc1.mono (fun b _ q => .inl q))⟩, by simp [intOf]⟩
          · have hne : ¬ a = fk := by omega
            have hne2 : ¬ fk = a := by omega
            clear HO hfk hsw
            rw [f1]
            generalize dj[fk]! = Y at *
            generalize dj[a]! = X at *
            go_wp2_with fail
            go_region
            go_wp2_with fail
            refine (HCALL.out _).mono ?_
            rintro e w1 ⟨rfl, hw1, hc1⟩
            go_wp2_with fail
            exact ⟨⟨k', _, by first | rfl | go_num, by omega, HS2, hw1, HO2, (chg_swp hcj _ _ _ _ _).trans (hc1.mono (fun b _ q => .inl q))⟩, by simp [intOf]⟩
    · obtain ⟨k', rfl⟩ : ∃ k', k = k' + 1 := ⟨k - 1, by omega⟩
      have f1 : ((k' + 1 : Nat) : Int) - 1 = (k' : Int) := by omega
      have HO2 : Hid (heapPop ltU a hi (heapBuild ltU hi a k' (siftDown ltU hi a k' dk)) = R) := by have := HO.out; rw [heapBuild] at this; exact this
      have hcall := usift_any hkw k' hi a (by rw [HZ.out]; exact hhs) (by rw [HZ.out]; omega) (by rw [HZ.out]; exact hsz)
      rw [HZ.out] at hcall
      clear HO
      rw [f1]
      go_wp2_with fail
      refine hcall.mono ?_
      rintro e w1 ⟨rfl, hw1, hc1⟩
      go_wp2_with fail
      exact ⟨⟨k', _, by first | rfl | go_num, by omega, by show _ = _; rw [sift_size hi a _ _ _ (Nat.le_refl _)]; exact HZ.out, hw1, HO2, hch.trans (hc1.mono (fun b _ q => .inl q))⟩, by simp [intOf]⟩
end Go.Proofs.YtefhinopppdjbaaGreat
