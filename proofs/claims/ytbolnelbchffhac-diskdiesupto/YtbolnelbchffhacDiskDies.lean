/- Proved here: DiskDies answers true for every number and every list of steps, where what is read is of bulk at most 1048576: an armed disk does just so many calls that answer OK, then it is dead, and answers nothing but ErrDead. -/
import Derived.Test.YtbolnelbchffhacDkTurn
import Derived.Test.YtbolnelbchffhacStepArgs
namespace Go.Proofs.Ytbolnelbchffhac
open Go.ChangeShapes Go.WideShapes Go.ChangeAt Go.RowKit
set_option linter.unusedVariables false
set_option maxRecDepth 100000

theorem rd_lit1 (w : World) (a : Int) (x : UInt8) (ha : a = (x.toNat : Int)) (t : TypeId) : Rd (w.alloc (.cells #[.int .u8 a] t)) (.slice (some ⟨w.heap.size, 0, none⟩) 1 1) [x] := by
  subst ha
  refine Rd.mk rfl (by simp) (by simp [maxLen]) (fun i hi => ?_)
  obtain rfl : i = 0 := by simpa using hi
  rw [Addr.add_lit, World.cell?_alloc_at _ _ _ _ rfl]; rfl
theorem stA_sum : Sum (stA [1] 1) 1 := ⟨[[97]], by simp, fun nm h => by
  by_cases q : nm = [97]
  · simp [q]
  · simp [stA, setF_other _ _ q, none0] at h, by simp [sumB, stA_at]⟩

theorem StepAt.below {w w' : World} {a : Addr} {x : SV} (h : StepAt w a x) (hb : Below w.heap.size w w') : StepAt w' a x := by
  have k : ∀ i v, w.cell? (a.add i) = some v → w'.cell? (a.add i) = some v := fun i v q => by rw [hb.cell (World.block_lt_of_cell? w _ q)]; exact q
  exact ⟨k _ _ h.c0, k _ _ h.c1, k _ _ h.c2, k _ _ h.c3, k _ _ h.c4, k _ _ h.c5, h.rd.below hb (Nat.le_refl _), h.l2, h.l3⟩

set_option maxHeartbeats 4000000 in
theorem dies_walk (n : Int) (hn : -9223372036854775808 ≤ n ∧ n ≤ 9223372036854775807) {v : Value} {xs : List SV} {w : World} (hS : Steps w v xs) (hl : xs.length ≤ 1048576) (hd : ∀ x ∈ xs, x.data.length ≤ 1048576) :
    Calls Try.prog 5 #[.int .i64 n, v] w fun e w' => e = .returned (.bool true) ∧ Below w.heap.size w w' := by
  obtain ⟨ao, c, rfl, h1, h2, h4⟩ := hS
  unfold maxLen at h2
  go_enter Try.func5, Try.ntmps5
  go_wp2_with fail
  refine (awake_any _).mono ?_
  rintro e w0 ⟨rfl, hb0⟩
  have hB0 : w.heap.size ≤ w0.heap.size := hb0.size
  go_wp2_with fail
  refine (new_any w0).mono ?_
  rintro e w1 ⟨d, own1, rfl, hd1, hb1⟩
  go_wp2_with fail
  refine (write_new (hd1.below (Below.al w1 _)) ⟨#[97]⟩ (by decide) (by decide) rfl (rd_lit1 w1 1 1 rfl _) (by simp) (by omega)).mono ?_
  rintro e w2 ⟨rfl, ⟨own2, hd2, _⟩, hc2⟩
  replace hd2 : Dk w0.heap.size d 1 own2 (stA [1] 0) 1 (alive d) 0 w2 := hd2
  have hb2 : Below w0.heap.size w0 w2 := (hb1.trans ((Below.al w1 (.cells #[.int .u8 1] 5)).mono hd1.leB)).trans ((hd1.below (Below.al w1 _)).chg hc2)
  clear hc2
  go_wp2_with fail
  refine (sync_alive hd2 ⟨#[97]⟩ (by simp [ByteArray.size, maxLen]) ([1], 0) (stA_at _ _)).mono ?_
  rintro e w3 ⟨rfl, ⟨own3, hd3, _⟩, hc3⟩
  replace hd3 : Dk w0.heap.size d 1 own3 (setF (stA [1] 0) [97] (some ([1], 1))) 1 (alive d) 0 w3 := hd3
  rw [stA_set] at hd3
  have hb3 := hb2.trans (hd2.chg hc3)
  clear hc3
  go_wp2_with fail
  refine (arm_alive hd3 n hn).mono ?_
  rintro e w4 ⟨⟨v4, rfl⟩, hd4, hc4⟩
  have hb4 := hb3.trans (hd3.chg hc4)
  have hmax : max 0 n = ((max n 0).toNat : Int) := by omega
  have hmax2 : max n 0 = ((max n 0).toNat : Int) := by omega
  have hK0 : (max n 0).toNat ≤ 9223372036854775807 := by omega
  rw [hmax2] at hd4
  generalize (max n 0).toNat = K0 at *
  have hDD : DD w0.heap.size d 1 K0 w4 := ⟨1, own3, _, 1, by omega, hd4, stA_sum, by omega⟩
  clear hmax2 hd4 hc4 hd3 hd2 hd1 hb3 hb2 hb1
  go_wp2_with fail
  go_loopw [6, 7] (fun left i wr => ∃ (k K N : Nat), k ≤ xs.length ∧ K ≤ 9223372036854775807 ∧ N ≤ k + 1 ∧ left = .int .i64 K ∧ i = .int .i64 k ∧ DD w0.heap.size d N K wr ∧ Below w0.heap.size w0 wr) (fun _ i _ => xs.length - (intOf i).toNat)
  case atStart => exact ⟨0, K0, 1, by omega, hK0, by omega, rfl, rfl, hDD, hb4⟩
  case round =>
    obtain ⟨k, K, N, hk, hK, hN, rfl, rfl, hD, hb⟩ := hrel
    clear hDD hb4 hmax hK0
    by_cases hlt : k < xs.length
    · obtain ⟨a, rfl, hst⟩ := h4 k hlt
      have hdk := hd xs[k] (List.getElem_mem hlt)
      have hst0 := hst.below hb0
      have hstr := hst0.below hb
      have hrd0 := hst0.rd
      generalize xs[k] = x at *
      obtain ⟨g0, g1, g2, g3, g4, g5, _, l2, l3⟩ := hstr
      obtain ⟨act, num, nm, to, data, ad, cd, ak, lk, ck⟩ := x
      simp only [] at *
      clear h4 hst hst0
      replace g0 : wr.cell? (a.add (k * 6)) = some (.int .i64 act) := g0
      replace g1 : wr.cell? ⟨(a.add (k * 6)).block, (a.add (k * 6)).off + 1, none⟩ = some (.int .i64 num) := g1
      replace g2 : wr.cell? ⟨(a.add (k * 6)).block, (a.add (k * 6)).off + 2, none⟩ = some (.string nm) := g2
      replace g3 : wr.cell? ⟨(a.add (k * 6)).block, (a.add (k * 6)).off + 3, none⟩ = some (.string to) := g3
      replace g4 : wr.cell? ⟨(a.add (k * 6)).block, (a.add (k * 6)).off + 4, none⟩ = some (.slice ad data.length cd) := g4
      replace g5 : wr.cell? ⟨(a.add (k * 6)).block, (a.add (k * 6)).off + 5, none⟩ = some (.slice ak lk ck) := g5
      have hba : ∀ o, Below w0.heap.size w0 (wr.alloc o) := fun o => hb.trans ((Below.al wr o).mono hD.leB)
      by_cases a0 : act = 0
      · subst a0
        go_wp2_with fail
        refine (write_turn (hD.below (Below.al wr _)) hK (by omega) nm l2 (fun W hW => hrd0.below ((hba _).trans hW) (Nat.le_refl _)) (by omega)).mono ?_
        rintro e w6 ⟨v6, rfl, hbA, hcase⟩
        have hb6 : Below w0.heap.size w0 w6 := (hba _).trans hbA
        rcases hcase with ⟨hv0, hv21, hD6⟩ | ⟨rfl, hK0', hX⟩ | ⟨rfl, K', hKK, hD6⟩
        · obtain ⟨n6, own6, st6, sz6, q1, hd6, q3, q4⟩ := hD6
          have b1 : (v6 == 21) = false := by simpa using hv21
          have b2 : (v6 == 0) = false := by simpa using hv0
          go_wp2_with fail
          refine (deadQ_armed hd6).mono ?_
          rintro e w7 ⟨rfl, q7, rfl⟩
          go_wp2_with fail
          exact ⟨⟨k + 1, K, N + 1, by omega, hK, by omega, rfl, by go_num, ⟨n6, own6, st6, sz6, q1, hd6.drN q7, q3, q4⟩, hb6.trans ((Below.dN w6 q7).mono hd6.leB)⟩, by simp [intOf]; omega⟩
        · subst hK0'
          obtain ⟨n6, own6, st6, sz6, hx⟩ := hX
          go_wp2_with fail
          refine (deadQ_dead hx).mono ?_
          rintro e w7 ⟨rfl, q7, rfl⟩
          go_wp2_with fail
          refine (read_dead (hx.drN q7) ⟨#[97]⟩ (by simp [ByteArray.size, maxLen])).mono ?_
          rintro e w8 ⟨rfl, q8, rfl⟩
          go_wp2_with fail
          refine (sync_dead (hx.drN (q7 + q8)) ⟨#[97]⟩ (by simp [ByteArray.size, maxLen])).mono ?_
          rintro e w9 ⟨rfl, q9, rfl⟩
          go_wp2_with fail
          refine (namesQ_dead (hx.drN _)).mono ?_
          rintro e w10 ⟨rfl, q10, rfl⟩
          go_wp2_with fail
          go_ret
          exact ⟨rfl, hb0.trans ((hb6.trans ((Below.dN w6 _).mono hx.leB)).mono hB0)⟩
        · obtain ⟨n6, own6, st6, sz6, q1, hd6, q3, q4⟩ := hD6
          have b3 : ((K : Int) == 0) = false := by simp; omega
          have b4 : (K : Int) - 1 = (K' : Int) := by omega
          go_wp2_with fail
          refine (deadQ_armed hd6).mono ?_
          rintro e w7 ⟨rfl, q7, rfl⟩
          go_wp2_with fail
          exact ⟨⟨k + 1, K', N + 1, by omega, by omega, by omega, by go_num, by go_num, ⟨n6, own6, st6, sz6, q1, hd6.drN q7, q3, q4⟩, hb6.trans ((Below.dN w6 q7).mono hd6.leB)⟩, by simp [intOf]; omega⟩
      · have na0 : (act == 0) = false := by simpa using a0
        by_cases a1 : act = 1
        · subst a1
          go_wp2_with fail
          refine (sync_turn (hD.below (Below.al wr _)) hK nm l2).mono ?_
          rintro e w6 ⟨v6, rfl, hbA, hcase⟩
          have hb6 : Below w0.heap.size w0 w6 := (hba _).trans hbA
          rcases hcase with ⟨hv0, hv21, hD6⟩ | ⟨rfl, hK0', hX⟩ | ⟨rfl, K', hKK, hD6⟩
          · obtain ⟨n6, own6, st6, sz6, q1, hd6, q3, q4⟩ := hD6
            have b1 : (v6 == 21) = false := by simpa using hv21
            have b2 : (v6 == 0) = false := by simpa using hv0
            go_wp2_with fail
            refine (deadQ_armed hd6).mono ?_
            rintro e w7 ⟨rfl, q7, rfl⟩
            go_wp2_with fail
            exact ⟨⟨k + 1, K, N + 1, by omega, hK, by omega, rfl, by go_num, ⟨n6, own6, st6, sz6, q1, hd6.drN q7, q3, q4⟩, hb6.trans ((Below.dN w6 q7).mono hd6.leB)⟩, by simp [intOf]; omega⟩
          · subst hK0'
            obtain ⟨n6, own6, st6, sz6, hx⟩ := hX
            go_wp2_with fail
            refine (deadQ_dead hx).mono ?_
            rintro e w7 ⟨rfl, q7, rfl⟩
            go_wp2_with fail
            refine (read_dead (hx.drN q7) ⟨#[97]⟩ (by simp [ByteArray.size, maxLen])).mono ?_
            rintro e w8 ⟨rfl, q8, rfl⟩
            go_wp2_with fail
            refine (sync_dead (hx.drN (q7 + q8)) ⟨#[97]⟩ (by simp [ByteArray.size, maxLen])).mono ?_
            rintro e w9 ⟨rfl, q9, rfl⟩
            go_wp2_with fail
            refine (namesQ_dead (hx.drN _)).mono ?_
            rintro e w10 ⟨rfl, q10, rfl⟩
            go_wp2_with fail
            go_ret
            exact ⟨rfl, hb0.trans ((hb6.trans ((Below.dN w6 _).mono hx.leB)).mono hB0)⟩
          · obtain ⟨n6, own6, st6, sz6, q1, hd6, q3, q4⟩ := hD6
            have b3 : ((K : Int) == 0) = false := by simp; omega
            have b4 : (K : Int) - 1 = (K' : Int) := by omega
            go_wp2_with fail
            refine (deadQ_armed hd6).mono ?_
            rintro e w7 ⟨rfl, q7, rfl⟩
            go_wp2_with fail
            exact ⟨⟨k + 1, K', N + 1, by omega, by omega, by omega, by go_num, by go_num, ⟨n6, own6, st6, sz6, q1, hd6.drN q7, q3, q4⟩, hb6.trans ((Below.dN w6 q7).mono hd6.leB)⟩, by simp [intOf]; omega⟩
        · have na1 : (act == 1) = false := by simpa using a1
          by_cases a3 : act = 3
          · subst a3
            go_wp2_with fail
            refine (remove_turn (hD.below (Below.al wr _)) hK nm l2).mono ?_
            rintro e w6 ⟨v6, rfl, hbA, hcase⟩
            have hb6 : Below w0.heap.size w0 w6 := (hba _).trans hbA
            rcases hcase with ⟨hv0, hv21, hD6⟩ | ⟨rfl, hK0', hX⟩ | ⟨rfl, K', hKK, hD6⟩
            · obtain ⟨n6, own6, st6, sz6, q1, hd6, q3, q4⟩ := hD6
              have b1 : (v6 == 21) = false := by simpa using hv21
              have b2 : (v6 == 0) = false := by simpa using hv0
              go_wp2_with fail
              refine (deadQ_armed hd6).mono ?_
              rintro e w7 ⟨rfl, q7, rfl⟩
              go_wp2_with fail
              exact ⟨⟨k + 1, K, N + 1, by omega, hK, by omega, rfl, by go_num, ⟨n6, own6, st6, sz6, q1, hd6.drN q7, q3, q4⟩, hb6.trans ((Below.dN w6 q7).mono hd6.leB)⟩, by simp [intOf]; omega⟩
            · subst hK0'
              obtain ⟨n6, own6, st6, sz6, hx⟩ := hX
              go_wp2_with fail
              refine (deadQ_dead hx).mono ?_
              rintro e w7 ⟨rfl, q7, rfl⟩
              go_wp2_with fail
              refine (read_dead (hx.drN q7) ⟨#[97]⟩ (by simp [ByteArray.size, maxLen])).mono ?_
              rintro e w8 ⟨rfl, q8, rfl⟩
              go_wp2_with fail
              refine (sync_dead (hx.drN (q7 + q8)) ⟨#[97]⟩ (by simp [ByteArray.size, maxLen])).mono ?_
              rintro e w9 ⟨rfl, q9, rfl⟩
              go_wp2_with fail
              refine (namesQ_dead (hx.drN _)).mono ?_
              rintro e w10 ⟨rfl, q10, rfl⟩
              go_wp2_with fail
              go_ret
              exact ⟨rfl, hb0.trans ((hb6.trans ((Below.dN w6 _).mono hx.leB)).mono hB0)⟩
            · obtain ⟨n6, own6, st6, sz6, q1, hd6, q3, q4⟩ := hD6
              have b3 : ((K : Int) == 0) = false := by simp; omega
              have b4 : (K : Int) - 1 = (K' : Int) := by omega
              go_wp2_with fail
              refine (deadQ_armed hd6).mono ?_
              rintro e w7 ⟨rfl, q7, rfl⟩
              go_wp2_with fail
              exact ⟨⟨k + 1, K', N + 1, by omega, by omega, by omega, by go_num, by go_num, ⟨n6, own6, st6, sz6, q1, hd6.drN q7, q3, q4⟩, hb6.trans ((Below.dN w6 q7).mono hd6.leB)⟩, by simp [intOf]; omega⟩
          · have na3 : (act == 3) = false := by simpa using a3
            by_cases a4 : act = 4
            · subst a4
              go_wp2_with fail
              refine (rename_turn (hD.below (Below.al wr _)) hK (by omega) nm to l2).mono ?_
              rintro e w6 ⟨v6, rfl, hbA, hcase⟩
              have hb6 : Below w0.heap.size w0 w6 := (hba _).trans hbA
              rcases hcase with ⟨hv0, hv21, hD6⟩ | ⟨rfl, hK0', hX⟩ | ⟨rfl, K', hKK, hD6⟩
              · obtain ⟨n6, own6, st6, sz6, q1, hd6, q3, q4⟩ := hD6
                have b1 : (v6 == 21) = false := by simpa using hv21
                have b2 : (v6 == 0) = false := by simpa using hv0
                go_wp2_with fail
                refine (deadQ_armed hd6).mono ?_
                rintro e w7 ⟨rfl, q7, rfl⟩
                go_wp2_with fail
                exact ⟨⟨k + 1, K, N + 1, by omega, hK, by omega, rfl, by go_num, ⟨n6, own6, st6, sz6, q1, hd6.drN q7, q3, q4⟩, hb6.trans ((Below.dN w6 q7).mono hd6.leB)⟩, by simp [intOf]; omega⟩
              · subst hK0'
                obtain ⟨n6, own6, st6, sz6, hx⟩ := hX
                go_wp2_with fail
                refine (deadQ_dead hx).mono ?_
                rintro e w7 ⟨rfl, q7, rfl⟩
                go_wp2_with fail
                refine (read_dead (hx.drN q7) ⟨#[97]⟩ (by simp [ByteArray.size, maxLen])).mono ?_
                rintro e w8 ⟨rfl, q8, rfl⟩
                go_wp2_with fail
                refine (sync_dead (hx.drN (q7 + q8)) ⟨#[97]⟩ (by simp [ByteArray.size, maxLen])).mono ?_
                rintro e w9 ⟨rfl, q9, rfl⟩
                go_wp2_with fail
                refine (namesQ_dead (hx.drN _)).mono ?_
                rintro e w10 ⟨rfl, q10, rfl⟩
                go_wp2_with fail
                go_ret
                exact ⟨rfl, hb0.trans ((hb6.trans ((Below.dN w6 _).mono hx.leB)).mono hB0)⟩
              · obtain ⟨n6, own6, st6, sz6, q1, hd6, q3, q4⟩ := hD6
                have b3 : ((K : Int) == 0) = false := by simp; omega
                have b4 : (K : Int) - 1 = (K' : Int) := by omega
                go_wp2_with fail
                refine (deadQ_armed hd6).mono ?_
                rintro e w7 ⟨rfl, q7, rfl⟩
                go_wp2_with fail
                exact ⟨⟨k + 1, K', N + 1, by omega, by omega, by omega, by go_num, by go_num, ⟨n6, own6, st6, sz6, q1, hd6.drN q7, q3, q4⟩, hb6.trans ((Below.dN w6 q7).mono hd6.leB)⟩, by simp [intOf]; omega⟩
            · have na4 : (act == 4) = false := by simpa using a4
              go_wp2_with fail
              exact ⟨⟨k + 1, K, N, by omega, hK, by omega, rfl, by go_num, hD.below (Below.al wr _), hba _⟩, by simp [intOf]; omega⟩
    · obtain ⟨n', own', st', sz', _, hdd, _, _⟩ := hD
      go_wp2_with fail
      refine (deadQ_armed hdd).mono ?_
      rintro e w5 ⟨rfl, q5, rfl⟩
      go_wp2_with fail
      go_ret
      exact ⟨rfl, hb0.trans ((hb.trans ((Below.dN wr q5).mono hdd.leB)).mono hB0)⟩
end Go.Proofs.Ytbolnelbchffhac
