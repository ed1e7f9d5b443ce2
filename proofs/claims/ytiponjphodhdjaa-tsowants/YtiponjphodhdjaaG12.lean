/- The statement TsoWants, walked. -/
import Derived.Test.YtiponjphodhdjaaG11
import Derived.Test.YtiponjphodhdjaaG7
namespace Go.Proofs.Ytiponjphodhdjaa
open Go.RowKit
set_option linter.unusedVariables false
set_option maxRecDepth 100000

set_option maxHeartbeats 4000000 in
theorem wants_walk {v0 : Value} {L : List Int} {w : World} (n : Nat) (hn : n ≤ 18446744073709551615) (hL : Rj w v0 L) :
    Calls Try.prog 5 #[.int .u64 (n : Int), v0] w fun r w' => r = .returned (.bool true) ∧ Below w.heap.size w w' := by
  obtain ⟨a0, cp, rfl, hL1, hL2, hL3, hL4⟩ := hL
  have hlm : L.length ≤ 9223372036854775807 := by unfold maxLen at hL2; omega
  have HL : Hid (∀ i, (h : i < L.length) → ∃ a, a0 = some a ∧ w.cell? (a.add i) = some (.int .i64 L[i])) := hL4
  clear hL4 hL3 hL1 hL2
  obtain ⟨b, hb60, hble⟩ := mask60 n hn
  have haw := tsawake_any w
  go_enter Try.func5, Try.ntmps5
  go_wp2_with fail
  refine haw.mono ?_
  rintro r wa ⟨rfl, hba⟩
  have hnew := tnew_any b (by omega) wa
  clear haw
  go_wp2_with fail
  refine hnew.mono ?_
  rintro r wb ⟨x, c, rfl, ho0, hx0, hc0, hbb⟩
  have hsz : w.heap.size ≤ wa.heap.size := hba.size
  have hx : w.heap.size ≤ x := by omega
  have hB : Below w.heap.size w wb := Below.tr hba hbb
  clear hnew hbb hba hx0 hc0
  go_wp2_with fail
  go_loopw [6, 7, 8, 9, 10, 11, 12, 13, 14] (fun nx i _ _ _ _ _ _ _ wr => ∃ k l m : Nat, k ≤ L.length ∧ k ≤ 60 ∧ i = .int .i64 k ∧ nx = .int .u64 ((l + 1 : Nat) : Int) ∧ Orc x c l m wr ∧ m ≤ 1152921504606846975 + k * 1024 ∧ Below w.heap.size w wr) (fun _ i _ _ _ _ _ _ _ _ => 60 - (intOf i).toNat)
  case atStart => exact ⟨0, b, b, Nat.zero_le _, Nat.zero_le _, rfl, by simp, ho0, by omega, hB⟩
  case round =>
    obtain ⟨k, l, m, hk, hk6, rfl, rfl, ho, hm, hb⟩ := hrel
    clear ho0 hB
    have hle := ho.le
    by_cases hlt : k < L.length ∧ k < 60
    · have q1 : (k : Int) < (L.length : Int) := by omega
      have q2 : (k : Int) < 60 := by omega
      obtain ⟨a, rfl, hcl⟩ := HL.out k hlt.1
      have hcr : wr.cell? (a.add k) = some (.int .i64 L[k]) := by rw [hb.cell (World.block_lt_of_cell? w _ hcl)]; exact hcl
      have hwr : IntKind.i64.wrap ((k : Int) + 1) = ((k + 1 : Nat) : Int) := by rw [IntKind.wrap_i64]; omega
      clear hcl
      generalize hz : L[k] = z at hcr
      clear hz
      by_cases hr : z < 1 ∨ 1024 < z
      · have hwn := wantc_arg ho z hr
        go_wp2_with fail
        refine hwn.mono ?_
        rintro r w1 ⟨rfl, ho1, hc1⟩
        have htk := take_arg ho1 z hr
        have hb1 := chg_bel hb hc1 hx (Nat.le_refl _)
        clear hwn hc1 ho
        go_wp2_with fail
        refine htk.mono ?_
        rintro r w2 ⟨rfl, ho2, hc2⟩
        have hb2 := chg_bel hb1 hc2 hx (Nat.le_refl _)
        clear htk hc2 ho1
        go_wp2_with fail
        all_goals exact ⟨⟨k + 1, l, m, by omega, by omega, by go_num, by simp, ho2, by omega, hb2⟩, by simp [intOf]; omega⟩
      · obtain ⟨j, rfl⟩ := Int.eq_ofNat_of_zero_le (show 0 ≤ z by omega)
        have j1 : 1 ≤ j := by omega
        have j2 : j ≤ 1024 := by omega
        have g1 : decide ((j : Int) < 1) = false := decide_eq_false (by omega)
        have g2 : decide ((j : Int) > 1024) = false := decide_eq_false (by omega)
        clear hr
        by_cases hw : l + j ≤ m
        · have hwn := wantc_ok ho j j1 j2 hw
          go_wp2_with fail
          refine hwn.mono ?_
          rintro r w1 ⟨rfl, ho1, hc1⟩
          have htk := take_ok ho1 j j1 j2 hw
          have hb1 := chg_bel hb hc1 hx (Nat.le_refl _)
          clear hwn hc1 ho
          go_wp2_with fail
          refine htk.mono ?_
          rintro r w2 ⟨rfl, ho2, hc2⟩
          have hb2 := chg_bel hb1 hc2 hx (Nat.le_refl _)
          have hls := last_any ho2
          clear htk hc2 ho1
          go_wp2_with fail
          refine hls.mono ?_
          rintro r w3 ⟨rfl, rfl⟩
          go_wp2_with fail
          exact ⟨⟨k + 1, l + j, m, by omega, by omega, by go_num, by simp; omega, ho2, by omega, hb2⟩, by simp [intOf]; omega⟩
        · have hwn := wantc_win ho j j1 j2 (by omega)
          go_wp2_with fail
          refine hwn.mono ?_
          rintro r w1 ⟨rfl, ho1, hc1⟩
          have htk := take_win ho1 j j1 j2 (by omega)
          have hb1 := chg_bel hb hc1 hx (Nat.le_refl _)
          clear hwn hc1 ho
          go_wp2_with fail
          refine htk.mono ?_
          rintro r w2 ⟨rfl, ho2, hc2⟩
          have hb2 := chg_bel hb1 hc2 hx (Nat.le_refl _)
          have hls := last_any ho2
          clear htk hc2 ho1
          go_wp2_with fail
          refine hls.mono ?_
          rintro r w3 ⟨rfl, rfl⟩
          have hgr := grant_any ho2 (l + j - 1) (by omega)
          have ez : ((l + j - 1 : Nat) : Int) = (l : Int) + (j : Int) - 1 := by omega
          have em : max m (l + j - 1) = l + j - 1 := by omega
          rw [ez, em] at hgr
          clear ez em hls
          go_wp2_with fail
          refine hgr.mono ?_
          rintro r w4 ⟨rfl, ho4, hc4⟩
          have hb4 := chg_bel hb2 hc4 hx (Nat.le_refl _)
          have htk := take_win ho4 j j1 j2 (by omega)
          clear hgr hc4 ho2
          go_wp2_with fail
          refine htk.mono ?_
          rintro r w5 ⟨rfl, ho5, hc5⟩
          have hb5 := chg_bel hb4 hc5 hx (Nat.le_refl _)
          have hgr := grant_any ho5 (l + j) (by omega)
          have ez : ((l + j : Nat) : Int) = (l : Int) + (j : Int) := by omega
          have em : max (l + j - 1) (l + j) = l + j := by omega
          rw [ez, em] at hgr
          clear ez em htk hc5 ho4
          go_wp2_with fail
          refine hgr.mono ?_
          rintro r w6 ⟨rfl, ho6, hc6⟩
          have hb6 := chg_bel hb5 hc6 hx (Nat.le_refl _)
          have htk := take_ok ho6 j j1 j2 (Nat.le_refl _)
          clear hgr hc6 ho5
          go_wp2_with fail
          refine htk.mono ?_
          rintro r w7 ⟨rfl, ho7, hc7⟩
          have hb7 := chg_bel hb6 hc7 hx (Nat.le_refl _)
          have hls := last_any ho7
          clear htk hc7 ho6
          go_wp2_with fail
          refine hls.mono ?_
          rintro r w8 ⟨rfl, rfl⟩
          go_wp2_with fail
          exact ⟨⟨k + 1, l + j, l + j, by omega, by omega, by go_num, by simp; omega, ho7, by omega, hb7⟩, by simp [intOf]; omega⟩
    · have hls := last_any ho
      have hlm2 := limit_any ho
      by_cases p1 : k < L.length
      · have l1 : (k : Int) < (L.length : Int) := by omega
        have l2 : decide ((k : Int) < 60) = false := decide_eq_false (by omega)
        go_wp2_with fail
        refine hls.mono ?_
        rintro r w1 ⟨rfl, rfl⟩
        go_wp2_with fail
        refine hlm2.mono ?_
        rintro r w2 ⟨rfl, rfl⟩
        go_wp2_with fail
        refine hls.mono ?_
        rintro r w3 ⟨rfl, rfl⟩
        go_wp2_with fail
        go_ret
        exact ⟨by simp, hb⟩
      · have l1 : decide ((k : Int) < (L.length : Int)) = false := decide_eq_false (by omega)
        go_wp2_with fail
        refine hls.mono ?_
        rintro r w1 ⟨rfl, rfl⟩
        go_wp2_with fail
        refine hlm2.mono ?_
        rintro r w2 ⟨rfl, rfl⟩
        go_wp2_with fail
        refine hls.mono ?_
        rintro r w3 ⟨rfl, rfl⟩
        go_wp2_with fail
        go_ret
        exact ⟨by simp, hb⟩
end Go.Proofs.Ytiponjphodhdjaa
