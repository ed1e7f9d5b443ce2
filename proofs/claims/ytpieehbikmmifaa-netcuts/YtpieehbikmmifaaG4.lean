/- Proved here: NetCuts answers true for every two lists of pairs, healed or not: what two actors that are cut off send one another is lost when it is delivered, and comes when they are joined ahead of that; all other pairs' messages come. -/
import Derived.Test.YtpieehbikmmifaaG3
import Derived.Deep.RegionHeld3
import Derived.Deep.QuietTactic
import Derived.BigQuiet
import Derived.Deep.Cut
import Derived.Deep.CutRange
import Derived.Laws.OwnMore
namespace Go.Proofs.Ytpieehbikmmifaa
open Go.ChangeShapes Go.WideShapes Go.ChangeAt Go.RowKit
set_option linter.unusedVariables false
set_option maxRecDepth 100000

theorem Try.infoBool : (Try.prog.info? 4).map (fun i => (i.zero, i.size, i.bytes)) = some (some (.bool false), 1, 1) := by kernel_rfl
theorem chg_belN {T : Nat → Prop} {w w1 : World} (h : Below w.heap.size w w1) : Chg T w w1 := (Chg.of_below h).mono (fun b hb q => absurd hb (Nat.not_lt.2 q))
theorem bools_made {w : World} {B g : Nat} (h : w.ownsRow B 4 1 (.slice (some ⟨g, 0, none⟩) 25 25) 25 (madeCells (Value.bool false).cells (25 * 1)).toList) : w.heap[g]? = some (.cells ((List.replicate 25 false).map Value.bool).toArray 4 (0, 0)) := by
  obtain ⟨_, h2⟩ := h
  rcases h2 with ⟨hv, _⟩ | ⟨g', cap, cur, hv, _, hh, hn, _, hsz, htake⟩
  · cases hv
  · simp only [Value.slice.injEq, Option.some.injEq, Addr.mk.injEq, and_true, true_and] at hv
    obtain ⟨rfl, rfl⟩ := hv
    rw [hh]
    have e : (madeCells (Value.bool false).cells (25 * 1)).toList = (List.replicate 25 false).map Value.bool := by
      rw [show (Value.bool false).cells = #[Value.bool false] from rfl, toList_madeCells_one]
      simp
    have : cur.toList = (List.replicate 25 false).map Value.bool := by
      rw [← e, ← htake, List.take_of_length_le (by simp; omega)]
    rw [← this]

set_option maxHeartbeats 4000000 in
theorem cuts_walk {va vb : Value} {na nb : Nat} (heal : Bool) {w : World} (hA : Prs w va na) (hB : Prs w vb nb) :
    Calls Try.prog 6 #[va, vb, .bool heal] w fun e w' => e = .returned (.bool true) ∧ Below w.heap.size w w' := by
  obtain ⟨i, hi, hz0, hz1, hz2⟩ := info_parts Try.infoBool
  go_enter Try.func6, Try.ntmps6
  go_wp2_with fail
  refine (nawake_any _).mono ?_
  rintro e w0 ⟨rfl, hb0⟩
  replace hA := hA.below hb0
  replace hB := hB.below hb0
  have hB0 : w.heap.size ≤ w0.heap.size := hb0.size
  go_wp2_with fail
  refine (netNew_ok 4 (by omega) (by omega) w0).mono ?_
  rintro e w1 ⟨x, rfl, hN1, hb1⟩
  obtain ⟨ao, ca, rfl, a1, a2, a3⟩ := hA
  obtain ⟨bo, cb, rfl, b1, b2, b3⟩ := hB
  unfold maxLen at a2 b2
  go_wp2_with (first | (at_make; refine wpList_make_full _ rfl _ _ 55 rfl w0.heap.size 4 i _ 1 Try.underlying55 hi hz0 hz1 _ _ _ _ 25 rfl rfl rfl rfl (by rw [hz2]; omega) (by unfold maxLen; omega) hb1.size ?_; intro w2 hown hgr) | fail)
  have hof := bools_made hown
  have hb2 : Below w1.heap.size w1 w2 := (Chg.of_grown (S := fun _ => False) hgr (fun b e _ => by cases e)).below (fun b q => q.elim) (Nat.le_refl _)
  have hc0 : Nc w0.heap.size x w1.heap.size 0 0 _ [] noC (List.replicate 25 false) w2 := ⟨hN1.below hb2, hof, by simp, fun q => by omega, Rel4.zero⟩
  have hs0 : Self noC := fun a => rfl
  have hbP : Below w0.heap.size w0 w2 := hb1.trans (hb2.mono hb1.size)
  have hgn : w0.heap.size ≤ w1.heap.size := hb1.size
  clear hof hb2 hown hgr hN1 hb1
  generalize w1.heap.size = g at *
  go_loopw [10] (fun i wr => ∃ (k : Nat) (n : Nat) (S : Nat → Prop) (C : Ct) (F : List Bool), k ≤ na ∧ k ≤ 20 ∧ n ≤ k ∧ i = .int .i64 k ∧ Nc w0.heap.size x g 0 n S [] C F wr ∧ Self C ∧ Below w0.heap.size w0 wr) (fun i _ => 20 - (intOf i).toNat)
  case atStart => exact ⟨0, 0, _, _, _, by omega, by omega, by omega, rfl, hc0, hs0, hbP⟩
  case round =>
    obtain ⟨k, n, S, C, F, hk, hk20, hnk, rfl, hc, hself, hb⟩ := hrel
    go_upto_region 8 with fail
    go_cut [41] from 34 to 97 (fun s wx => s = .bool (decide (k < na ∧ k < 20)) ∧ wx = wr)
    case first =>
      by_cases q1 : k < na
      · have l1 : (k : Int) < (na : Int) := by omega
        by_cases q2 : k < 20
        · have l2 : (k : Int) < 20 := by omega
          go_wp2_with fail
          go_meet
          exact ⟨by simp [q1, q2], rfl⟩
        · have l2 : decide ((k : Int) < 20) = false := decide_eq_false (by omega)
          go_wp2_with fail
          go_meet
          exact ⟨by simp [q1, q2], rfl⟩
      · have l1 : decide ((k : Int) < (na : Int)) = false := decide_eq_false (by omega)
        go_wp2_with fail
        go_meet
        exact ⟨by simp [q1], rfl⟩
    case rest =>
    obtain ⟨rfl, rfl⟩ := hcut
    by_cases hlt : k < na ∧ k < 20
    · rw [decide_eq_true hlt]
      obtain ⟨a, p, q, rfl, x0, x1, hp, hq⟩ := a3 k hlt.1
      have y0 : wc.cell? (a.add (k * 2)) = some (.int .i64 p) := (hb.cell (World.block_lt_of_cell? _ _ x0)).trans x0
      have y1 : wc.cell? ((a.add (k * 2)).add 1) = some (.int .i64 q) := (hb.cell (World.block_lt_of_cell? _ _ x1)).trans x1
      replace y1 : wc.cell? ⟨(a.add (k * 2)).block, (a.add (k * 2)).off + 1, none⟩ = some (.int .i64 q) := y1
      have hl1 : (k : Int) < (na : Int) := by omega
      have hl2 : (k : Int) < 20 := by omega
      obtain ⟨a', ea, ha1, ha4⟩ := act_of p
      obtain ⟨b', eb, hb1, hb4⟩ := act_of q
      clear x0 x1 a3 b3
      go_wp2_with fail
      go_quiet (fail)
      rw [ea, eb]
      clear ea eb y0 y1
      replace hc := hc.below (below_drewN (Below.refl wc.heap.size wc) nq)
      replace hb := hb.trans ((below_drewN (Below.refl wc.heap.size wc) nq).mono hb.size)
      generalize wc.drewN nq = w3 at *
      obtain ⟨ka, hka⟩ : ∃ ka, 5 * a' + b' = ka := ⟨_, rfl⟩
      obtain ⟨kb, hkb⟩ : ∃ kb, 5 * b' + a' = kb := ⟨_, rfl⟩
      have eka : 5 * (a' : Int) + (b' : Int) = (ka : Int) := by omega
      have ekb : 5 * (b' : Int) + (a' : Int) = (kb : Int) := by omega
      have hka25 : (ka : Int) < 25 := by omega
      have hkb25 : (kb : Int) < 25 := by omega
      by_cases hab : a' = b'
      · subst hab
        obtain rfl : ka = kb := by omega
        obtain ⟨t, ht, hcell, hfz⟩ := hc.cell ka (by omega)
        have htf : t = false := by
          have := hc.rel a' a' ha1 ha4 ha1 ha4
          rw [hka, ht, show min (a' : Int) a' = a' by omega, show max (a' : Int) a' = a' by omega, hself] at this
          exact Option.some.inj this
        subst htf
        have hno : isPr 4 (a' : Int) (a' : Int) = false := by simp [isPr]
        have hfin := hc.set2w hc.nt (Chg.refl _ _) a' a' false (hc.rel.same hc.len hself a' ⟨ha1, ha4⟩)
        rw [hka] at hfin
        have hbf : Below w0.heap.size w0 ((w3.setCell ⟨g, ka, none⟩ (.bool false)).setCell ⟨g, ka, none⟩ (.bool false)) := hb.trans ((((Chg.refl (fun b => b = g) w3).put g ka (.bool false) rfl).put g ka (.bool false) rfl).below (fun b q => by omega) hb.size)
        have HE : Hid _ := And.intro hfin hbf
        clear hfin hbf hka hkb
        go_wp2_with fail
        refine (cut_no hc.nt (a' : Int) (a' : Int) hno).mono ?_
        rintro e w4 ⟨rfl, rfl⟩
        go_wp2_with fail
        exact ⟨⟨k + 1, n, S, C, _, by omega, by omega, by omega, by go_num, HE.out.1, hself, HE.out.2⟩, by simp [intOf]; omega⟩
      · obtain ⟨t, ht, hcell, hfz⟩ := hc.cell ka (by omega)
        obtain ⟨t2, ht2, hcell2, hfz2⟩ := hc.cell kb (by omega)
        have hpr : isPr 4 (a' : Int) (b' : Int) = true := by
          unfold isPr isAct
          rw [decide_eq_true (by omega), decide_eq_true (by omega)]
          simp; omega
        have hne : ((a' : Int) == (b' : Int)) = false := by rw [beq_eq_false_iff_ne]; omega
        have hne2 : ((a' : Int) != (b' : Int)) = true := by rw [bne, hne]; rfl
        have hkk : ka ≠ kb := by omega
        have hself2 := hself.set (a' : Int) (b' : Int) (by omega) true
        have hcut := cut_ok hc.nt (by omega) (a' : Int) (b' : Int) (by unfold I64; omega) (by unfold I64; omega) hpr
        have hrel2 := hc.rel.set2 hc.len a' b' true ⟨ha1, ha4⟩ ⟨hb1, hb4⟩
        have HK : Hid _ := And.intro hka hkb
        clear hka hkb ht ht2
        have hgl := hc.lt
        go_wp2_with fail
        refine hcut.mono ?_
        rintro e w4 ⟨rfl, hN4, hc4⟩
        have hfin := hc.set2w hN4 hc4 a' b' true hrel2
        rw [HK.out.1, HK.out.2] at hfin
        have hb4 := hb.trans (hc.nt.chg hc4)
        have hbf : Below w0.heap.size w0 ((w4.setCell ⟨g, ka, none⟩ (.bool true)).setCell ⟨g, kb, none⟩ (.bool true)) := hb4.trans ((((Chg.refl (fun b => b = g) w4).put g ka (.bool true) rfl).put g kb (.bool true) rfl).below (fun b q => by omega) hb4.size)
        have d1 := box_cell hc4 hc.gs hgl hcell
        have d2 := box_cell hc4 hc.gs hgl hcell2
        have dz1 : w4.frozen? ⟨g, ka, none⟩ = false := (World.frozen?_of_block (hc4.block g hgl hc.gs)).trans hfz
        have dz2 : w4.frozen? ⟨g, kb, none⟩ = false := (World.frozen?_of_block (hc4.block g hgl hc.gs)).trans hfz2
        have HE : Hid _ := And.intro hfin hbf
        clear hfin hbf hcell hcell2 hfz hfz2 hcut hrel2 hN4 hc4 hc hb
        cases t with
        | true =>
          go_wp2_with fail
          exact ⟨⟨k + 1, n + 1, S, _, _, by omega, by omega, by omega, by go_num, HE.out.1, hself2, HE.out.2⟩, by simp [intOf]; omega⟩
        | false =>
          go_wp2_with fail
          exact ⟨⟨k + 1, n + 1, S, _, _, by omega, by omega, by omega, by go_num, HE.out.1, hself2, HE.out.2⟩, by simp [intOf]; omega⟩
    · rw [decide_eq_false hlt]
      clear hc0 hs0 hbP a3
      have hn20 : n ≤ 20 := by omega
      clear hnk hk hlt hk20
      go_wp2_with fail
      go_loopw [13] (fun i W => ∃ (a0 : Nat) (S : Nat → Prop), 1 ≤ a0 ∧ a0 ≤ 5 ∧ i = .int .i64 a0 ∧ Nc w0.heap.size x g (4 * (a0 - 1)) n S (msgs (4 * (a0 - 1))) C F W ∧ Below w0.heap.size w0 W) (fun i _ => 5 - (intOf i).toNat)
      case atStart => exact ⟨1, S, by omega, by omega, rfl, hc, hb⟩
      case round =>
        obtain ⟨a0, S2, ha1, ha5, rfl, hc2, hb2⟩ := hrel
        clear hc hb
        by_cases hlt : a0 ≤ 4
        · have hl : (a0 : Int) ≤ 4 := by omega
          go_wp2_with fail
          go_loopw [14] (fun i W => ∃ (b0 : Nat) (S : Nat → Prop), 1 ≤ b0 ∧ b0 ≤ 5 ∧ i = .int .i64 b0 ∧ Nc w0.heap.size x g (4 * (a0 - 1) + (b0 - 1)) n S (msgs (4 * (a0 - 1) + (b0 - 1))) C F W ∧ Below w0.heap.size w0 W) (fun i _ => 5 - (intOf i).toNat)
          case atStart => exact ⟨1, S2, by omega, by omega, rfl, hc2, hb2⟩
          case round =>
            obtain ⟨b0, S3, hb1, hb5, rfl, hc3, hb3⟩ := hrel
            clear hc2 hb2
            by_cases hlt2 : b0 ≤ 4
            · have hl2 : (b0 : Int) ≤ 4 := by omega
              obtain ⟨m, hm⟩ : ∃ m, 4 * (a0 - 1) + (b0 - 1) = m := ⟨_, rfl⟩
              rw [hm] at hc3
              have e1 : m / 4 + 1 = a0 := by omega
              have e2 : m % 4 + 1 = b0 := by omega
              have hm16 : m < 16 := by omega
              have u1 : (UInt8.ofNat a0).toNat = a0 := by rw [UInt8.toNat_ofNat']; omega
              have u2 : (UInt8.ofNat b0).toNat = b0 := by rw [UInt8.toNat_ofNat']; omega
              have hal := Below.al wr (.cells #[.int .u8 (a0 : Int), .int .u8 (b0 : Int)] 5)
              have hsend := send_ok (hc3.nt.below hal) a0 b0 (by unfold isAct; rw [decide_eq_true (by omega), decide_eq_true (by omega)]; rfl) (by rw [msgs_len]; omega) (by omega) (nrd2 wr (a0 : Int) (b0 : Int) (UInt8.ofNat a0) (UInt8.ofNat b0) (by rw [u1]) (by rw [u2]) 5) (by simp)
              have hms : msgs m ++ [(m + 1, a0, b0, [UInt8.ofNat a0, UInt8.ofNat b0])] = msgs (m + 1) := by rw [msgs_succ, e1, e2]
              rw [hms] at hsend
              obtain ⟨ka, hka⟩ : ∃ ka, 5 * a0 + b0 = ka := ⟨_, rfl⟩
              have eka : 5 * (a0 : Int) + (b0 : Int) = (ka : Int) := by omega
              have hka25 : (ka : Int) < 25 := by omega
              have hka0 : (0 : Int) ≤ (ka : Int) := by omega
              have hw1 : IntKind.i64.wrap (5 * (a0 : Int)) = 5 * (a0 : Int) := by rw [IntKind.wrap_i64]; omega
              have hw2 : IntKind.i64.wrap (5 * (a0 : Int) + (b0 : Int)) = (ka : Int) := by rw [IntKind.wrap_i64]; omega
              have hw3 : IntKind.i64.wrap (ka : Int) = (ka : Int) := by rw [IntKind.wrap_i64]; omega
              obtain ⟨t, ht, hcell, _⟩ := hc3.cell ka (by omega)
              have hCt : C (min (a0 : Int) b0) (max (a0 : Int) b0) = t := by
                have := hc3.rel a0 b0 ha1 hlt hb1 hlt2
                rw [hka, ht] at this
                exact (Option.some.inj this).symm
              have hgl := hc3.lt
              have hgs := hc3.gs
              have HM : Hid _ := And.intro hm hka
              clear hm hka ht hms e1 e2 u1 u2
              go_wp2_with fail
              refine hsend.mono ?_
              rintro e w4 ⟨rfl, ⟨S4, hN4, hS4⟩, hc4⟩
              have hz3 : (wr.alloc (.cells #[.int .u8 (a0 : Int), .int .u8 (b0 : Int)] 5)).heap.size = wr.heap.size + 1 := by simp
              have hcw : Chg S3 wr w4 := (chg_belN hal).trans (hc4.mono (fun b _ q => .inl q))
              have hNc4 := hc3.turn hN4 hcw (fun b q => by
                rcases hS4 b q with q | q
                · exact .inl q
                · exact .inr (by omega)) hc3.rel
              have hb4 := hb3.trans (hc3.nt.chg hcw)
              have d1 := box_cell hcw hgs hgl hcell
              have hg4 := hNc4.lt
              have hcut := fun q => isCut_any (hN4.below (below_drewN (Below.refl w4.heap.size w4) q)) (a0 : Int) (b0 : Int) (by unfold I64; omega) (by unfold I64; omega)
              rw [hCt] at hcut
              clear hcell hsend hc4 hcw hS4 hN4
              go_wp2_with fail
              go_region_held3 (fun w' => w'.cell? ⟨g, ka, none⟩ = some (.bool t)) (go_keep) (first
                | (go_at_call 18; refine (hcut _).mono ?_; rintro e w5 ⟨rfl, hb5⟩; have hb45 : Below w4.heap.size w4 w5 := Below.tr (below_drewN (Below.refl w4.heap.size w4) _) hb5; have d2 := (hb45.cell hg4).trans d1)
                | fail)
              go_wp2_with fail
              have hm := HM.out.1
              exact ⟨⟨b0 + 1, S4, by omega, by omega, by go_num, by rw [show 4 * (a0 - 1) + (b0 + 1 - 1) = m + 1 by omega]; exact hNc4.below hb45, hb4.trans (hb45.mono hb4.size)⟩, by simp [intOf]; omega⟩
            · obtain rfl : b0 = 5 := by omega
              go_wp2_with fail
              exact ⟨⟨a0 + 1, S3, by omega, by omega, by go_num, by rw [show 4 * (a0 + 1 - 1) = 4 * (a0 - 1) + (5 - 1) by omega]; exact hc3, hb3⟩, by simp [intOf]; omega⟩
        · have ha05 : a0 = 5 := by omega
          rw [ha05] at hc2
          replace hc2 : Nc w0.heap.size x g 16 n S2 (msgs 16) C F wr := hc2
          have hl : decide ((a0 : Int) ≤ 4) = false := decide_eq_false (by omega)
          clear ha05 hlt ha1 ha5
          clear hi hz0 hz1 hz2
          go_wp2_with fail
          go_loopw [17] (fun i W => ∃ (k : Nat) (C : Ct) (F : List Bool), k ≤ nb ∧ k ≤ 20 ∧ i = .int .i64 k ∧ Nc w0.heap.size x g 16 n S2 (msgs 16) C F W ∧ Self C ∧ Below w0.heap.size w0 W) (fun i _ => 20 - (intOf i).toNat)
          case atStart => exact ⟨0, C, F, by omega, by omega, rfl, hc2, hself, hb2⟩
          case round =>
            clear hc2 hself hb2
            obtain ⟨k4, C4, F4, hk, hk20, rfl, hc, hself, hb⟩ := hrel
            go_upto_region 25 with fail
            go_cut [141] from 134 to 173 (fun s wx => s = .bool (decide (k4 < nb ∧ k4 < 20)) ∧ wx = wr)
            case first =>
              by_cases q1 : k4 < nb
              · have l1 : (k4 : Int) < (nb : Int) := by omega
                by_cases q2 : k4 < 20
                · have l2 : (k4 : Int) < 20 := by omega
                  go_wp2_with fail
                  go_meet
                  exact ⟨by simp [q1, q2], rfl⟩
                · have l2 : decide ((k4 : Int) < 20) = false := decide_eq_false (by omega)
                  go_wp2_with fail
                  go_meet
                  exact ⟨by simp [q1, q2], rfl⟩
              · have l1 : decide ((k4 : Int) < (nb : Int)) = false := decide_eq_false (by omega)
                go_wp2_with fail
                go_meet
                exact ⟨by simp [q1], rfl⟩
            case rest =>
            obtain ⟨rfl, rfl⟩ := hcut
            by_cases hlt : k4 < nb ∧ k4 < 20
            · rw [decide_eq_true hlt]
              obtain ⟨a, p, q, rfl, x0, x1, hp, hq⟩ := b3 k4 hlt.1
              have y0 : wc.cell? (a.add (k4 * 2)) = some (.int .i64 p) := (hb.cell (World.block_lt_of_cell? _ _ x0)).trans x0
              have y1 : wc.cell? ((a.add (k4 * 2)).add 1) = some (.int .i64 q) := (hb.cell (World.block_lt_of_cell? _ _ x1)).trans x1
              replace y1 : wc.cell? ⟨(a.add (k4 * 2)).block, (a.add (k4 * 2)).off + 1, none⟩ = some (.int .i64 q) := y1
              have hl1 : (k4 : Int) < (nb : Int) := by omega
              have hl2 : (k4 : Int) < 20 := by omega
              obtain ⟨a', ea, ha1, ha4⟩ := act_of p
              obtain ⟨b', eb, hb1, hb4⟩ := act_of q
              clear x0 x1 b3
              go_wp2_with fail
              go_quiet (fail)
              rw [ea, eb]
              clear ea eb y0 y1
              replace hc := hc.below (below_drewN (Below.refl wc.heap.size wc) nq)
              replace hb := hb.trans ((below_drewN (Below.refl wc.heap.size wc) nq).mono hb.size)
              generalize wc.drewN nq = w3 at *
              obtain ⟨ka, hka⟩ : ∃ ka, 5 * a' + b' = ka := ⟨_, rfl⟩
              obtain ⟨kb, hkb⟩ : ∃ kb, 5 * b' + a' = kb := ⟨_, rfl⟩
              have eka : 5 * (a' : Int) + (b' : Int) = (ka : Int) := by omega
              have ekb : 5 * (b' : Int) + (a' : Int) = (kb : Int) := by omega
              have hka25 : (ka : Int) < 25 := by omega
              have hkb25 : (kb : Int) < 25 := by omega
              by_cases hab : a' = b'
              · subst hab
                obtain rfl : ka = kb := by omega
                obtain ⟨t, ht, hcell, hfz⟩ := hc.cell ka (by omega)
                have hno : isPr 4 (a' : Int) (a' : Int) = false := by simp [isPr]
                have hfin := hc.set2w hc.nt (Chg.refl _ _) a' a' false (hc.rel.same hc.len hself a' ⟨ha1, ha4⟩)
                rw [hka] at hfin
                have hbf : Below w0.heap.size w0 ((w3.setCell ⟨g, ka, none⟩ (.bool false)).setCell ⟨g, ka, none⟩ (.bool false)) := hb.trans ((((Chg.refl (fun b => b = g) w3).put g ka (.bool false) rfl).put g ka (.bool false) rfl).below (fun b q => by omega) hb.size)
                have HE : Hid _ := And.intro hfin hbf
                clear hfin hbf hka hkb
                go_wp2_with fail
                refine (join_no hc.nt (a' : Int) (a' : Int) hno).mono ?_
                rintro e w4 ⟨rfl, rfl⟩
                go_wp2_with fail
                exact ⟨⟨k4 + 1, C4, _, by omega, by omega, by go_num, HE.out.1, hself, HE.out.2⟩, by simp [intOf]; omega⟩
              · obtain ⟨t, ht, hcell, hfz⟩ := hc.cell ka (by omega)
                obtain ⟨t2, ht2, hcell2, hfz2⟩ := hc.cell kb (by omega)
                have hpr : isPr 4 (a' : Int) (b' : Int) = true := by
                  unfold isPr isAct
                  rw [decide_eq_true (by omega), decide_eq_true (by omega)]
                  simp; omega
                have hkk : ka ≠ kb := by omega
                have hself2 := hself.set (a' : Int) (b' : Int) (by omega) false
                have hjoin := join_ok hc.nt (a' : Int) (b' : Int) (by unfold I64; omega) (by unfold I64; omega) hpr
                have hrel2 := hc.rel.set2 hc.len a' b' false ⟨ha1, ha4⟩ ⟨hb1, hb4⟩
                have HK : Hid _ := And.intro hka hkb
                clear hka hkb ht ht2
                have hgl := hc.lt
                go_wp2_with fail
                refine hjoin.mono ?_
                rintro e w4 ⟨rfl, hN4, hc4⟩
                have hfin := hc.set2w hN4 hc4 a' b' false hrel2
                rw [HK.out.1, HK.out.2] at hfin
                have hb4 := hb.trans (hc.nt.chg hc4)
                have hbf : Below w0.heap.size w0 ((w4.setCell ⟨g, ka, none⟩ (.bool false)).setCell ⟨g, kb, none⟩ (.bool false)) := hb4.trans ((((Chg.refl (fun b => b = g) w4).put g ka (.bool false) rfl).put g kb (.bool false) rfl).below (fun b q => by omega) hb4.size)
                have d1 := box_cell hc4 hc.gs hgl hcell
                have d2 := box_cell hc4 hc.gs hgl hcell2
                have dz1 : w4.frozen? ⟨g, ka, none⟩ = false := (World.frozen?_of_block (hc4.block g hgl hc.gs)).trans hfz
                have dz2 : w4.frozen? ⟨g, kb, none⟩ = false := (World.frozen?_of_block (hc4.block g hgl hc.gs)).trans hfz2
                have HE : Hid _ := And.intro hfin hbf
                clear hfin hbf hcell hcell2 hfz hfz2 hjoin hrel2 hN4 hc4 hc hb
                go_wp2_with fail
                exact ⟨⟨k4 + 1, _, _, by omega, by omega, by go_num, HE.out.1, hself2, HE.out.2⟩, by simp [intOf]; omega⟩
            · rw [decide_eq_false hlt]
              clear hk hlt hk20 b3
              cases heal with
              | true =>
                go_wp2_with fail
                refine (heal_any hc.nt).mono ?_
                rintro e w5 ⟨⟨ve, rfl⟩, hN5, hc5⟩
                have hf5 := hc.nf.turn hN5 hc5
                have hb5 := hb.trans (hc.nt.chg hc5)
                have hgone : ∀ a b : Nat, 1 ≤ a → a ≤ 4 → 1 ≤ b → b ≤ 4 → ∃ t, F4[5 * a + b]? = some t ∧ noC (min (a : Int) b) (max (a : Int) b) = (t && !true) := fun a b p1 p2 p3 p4 => ⟨_, hc.rel a b p1 p2 p3 p4, by simp [noC]⟩
                clear hc hb hself hN5 hc5
                go_wp2_with fail
                refine (pending_any hf5.nt (by rw [msgs_len]; omega) (fun p hp => Nat.le_trans ((msgs_inv 16 (by omega)).small p hp) (by omega))).mono ?_
                rintro e w6 ⟨vp, rfl, Q, hQ, hT6, hb6⟩
                have hrow6 := hT6.row
                have hf6 := hf5.below hb6
                have hb06 := hb5.trans (hb6.mono hb5.size)
                have hSl := hf5.nt.lt
                obtain ⟨gp, cp, rfl, p1, p2, hgp, _, _, _, _⟩ := told_msg hrow6 hQ 0 (by omega)
                unfold maxLen at p2
                have hgpS : ¬ S2 gp := fun q => by have := (hSl _ q).2; omega
                clear hT6 hf5 hb5
                generalize w5.heap.size = B1 at *
                go_wp2_with fail
                go_loopw [21] (fun i W => ∃ i0 : Nat, i0 ≤ 16 ∧ i = .int .i64 i0 ∧ Nf w0.heap.size x g 16 n S2 ((msgs 16).drop i0) noC F4 W ∧ W.ownsRow B1 46 4 (.slice (some ⟨gp, 0, none⟩) 16 cp) Q.length (pkCs Q) ∧ Below w0.heap.size w0 W) (fun i _ => 16 - (intOf i).toNat)
                case atStart => exact ⟨0, by omega, rfl, hf6, hrow6, hb06⟩
                case round =>
                  obtain ⟨i0, hi16, rfl, hf, hrow, hb⟩ := hrel
                  clear hf6 hrow6 hb06
                  by_cases hlt : i0 < 16
                  · obtain ⟨gp', c', e', _, _, _, hgl, m0, m1, m2⟩ := told_msg hrow hQ i0 hlt
                    simp only [Value.slice.injEq, Option.some.injEq, Addr.mk.injEq, and_true, true_and] at e'
                    obtain ⟨rfl, rfl⟩ := e'
                    obtain ⟨hpl, hnn, hdrop⟩ := left_pl i0 hlt
                    have hhead := left_head i0 hlt
                    have hinv := left_inv i0
                    have hli : (i0 : Int) < 16 := by omega
                    obtain ⟨fr, hfr⟩ : ∃ fr, i0 / 4 + 1 = fr := ⟨_, rfl⟩
                    obtain ⟨tu, htu⟩ : ∃ tu, i0 % 4 + 1 = tu := ⟨_, rfl⟩
                    obtain ⟨id, hid⟩ : ∃ id, i0 + 1 = id := ⟨_, rfl⟩
                    have hfr1 : 1 ≤ fr ∧ fr ≤ 4 := by omega
                    have htu1 : 1 ≤ tu ∧ tu ≤ 4 := by omega
                    rw [hfr] at m1 hhead
                    rw [htu] at m2 hhead
                    rw [hid] at m0 hhead hpl hnn
                    obtain ⟨tF, hF, hCg⟩ := hgone fr tu hfr1.1 hfr1.2 htu1.1 htu1.2
                    obtain ⟨ka, hka⟩ : ∃ ka, 5 * fr + tu = ka := ⟨_, rfl⟩
                    rw [hka] at hF
                    have eka : 5 * (fr : Int) + (tu : Int) = (ka : Int) := by omega
                    have hka25 : (ka : Int) < 25 := by omega
                    have hka0 : (0 : Int) ≤ (ka : Int) := by omega
                    have hw1 : IntKind.i64.wrap (5 * (fr : Int)) = 5 * (fr : Int) := by rw [IntKind.wrap_i64]; omega
                    have hw2 : IntKind.i64.wrap (5 * (fr : Int) + (tu : Int)) = (ka : Int) := by rw [IntKind.wrap_i64]; omega
                    have hw3 : IntKind.i64.wrap (ka : Int) = (ka : Int) := by rw [IntKind.wrap_i64]; omega
                    have hFc := fun W (h : Nf w0.heap.size x g 16 n S2 ((msgs 16).drop (i0 + 1)) noC F4 W) => h.cell ka tF hF
                    have hp0 : ((msgs 16).drop i0)[plN ((msgs 16).drop i0) (id : Int)]? = some (id, fr, tu, [UInt8.ofNat fr, UInt8.ofNat tu]) := by rw [hpl]; exact hhead
                    have hdr : dropM ((msgs 16).drop i0) (plN ((msgs 16).drop i0) (id : Int)) = (msgs 16).drop (i0 + 1) := by rw [hpl]; exact hdrop
                    have hlm : ((msgs 16).drop i0).length ≤ 1048576 := by rw [List.length_drop, msgs_len]; omega
                    cases hC : noC (min (fr : Int) tu) (max (fr : Int) tu) with
                    | true =>
                      exact absurd hC (by simp [noC])
                    | false =>
                      cases tF with
                      | true =>
                        have hdv := deliver_ok hf.nt hinv.rise hlm (id : Int) hnn hp0 (by simp only []; omega) (by simp) hC
                        rw [hdr] at hdv
                        have u1 : (UInt8.ofNat fr).toNat = fr := by rw [UInt8.toNat_ofNat']; omega
                        have u2 : (UInt8.ofNat tu).toNat = tu := by rw [UInt8.toNat_ofNat']; omega
                        have HI : Hid _ := And.intro hid (And.intro u1 u2)
                        have hfr4 : (fr : Int) ≤ 4 := by omega
                        have htu4 : (tu : Int) ≤ 4 := by omega
                        clear hid hnn hp0 hdr hpl hdrop hhead hinv hlm hC hCg hF u1 u2
                        go_wp2_with fail
                        refine hdv.mono ?_
                        rintro e w7 ⟨v7, rfl, ho7, hN7, hc7⟩
                        obtain ⟨a7, n7, c7, rfl⟩ := rowP_shape ho7
                        have hf7 := hf.turn hN7 hc7
                        have hrow7 := ownsRow_keptC hrow hc7 (fun b e => by have e : gp = b := Option.some.inj e; rw [← e]; exact hgpS)
                        have hf8 := hf7.below (Below.al w7 (.cells #[.int .i64 (id : Int), .int .i64 (fr : Int), .int .i64 (tu : Int), .slice a7 n7 c7] 46))
                        have hrow8 := ownsRow_keptC hrow7 (Chg.of_below (Below.al w7 (.cells #[.int .i64 (id : Int), .int .i64 (fr : Int), .int .i64 (tu : Int), .slice a7 n7 c7] 46))) (fun b e q => by have e : gp = b := Option.some.inj e; have := (World.ownsRow.lt hrow7 gp rfl).2; omega)
                        have hb7 := hb.trans (hf.nt.chg hc7)
                        have hb8 := hb7.trans ((Below.al w7 (.cells #[.int .i64 (id : Int), .int .i64 (fr : Int), .int .i64 (tu : Int), .slice a7 n7 c7] 46)).mono hb7.size)
                        have hU8 := block_new w7 (.cells #[.int .i64 (id : Int), .int .i64 (fr : Int), .int .i64 (tu : Int), .slice a7 n7 c7] 46)
                        have d1 := by have := told_msg hrow8 hQ i0 hlt; exact this
                        obtain ⟨gp', c', e', _, _, _, _, d0, d1, d2⟩ := d1
                        simp only [Value.slice.injEq, Option.some.injEq, Addr.mk.injEq, and_true, true_and] at e'
                        obtain ⟨rfl, rfl⟩ := e'
                        rw [hfr] at d1
                        rw [htu] at d2
                        have dF := hFc _ hf8
                        have hr8 := ho7.rd.alloc (.cells #[.int .i64 (id : Int), .int .i64 (fr : Int), .int .i64 (tu : Int), .slice a7 n7 c7] 46)
                        clear hdv hf hrow hb hf7 hrow7 hb7 hN7 hc7 m0 m1 m2 ho7
                        go_wp2_with fail
                        go_quiet (fail)
                        have hf9 := hf8.below (below_drewN (Below.refl (w7.alloc (.cells #[.int .i64 (id : Int), .int .i64 (fr : Int), .int .i64 (tu : Int), .slice a7 n7 c7] 46)).heap.size (w7.alloc (.cells #[.int .i64 (id : Int), .int .i64 (fr : Int), .int .i64 (tu : Int), .slice a7 n7 c7] 46))) nq)
                        have hrow9 := ownsRow_keptC hrow8 (Chg.of_below (below_drewN (Below.refl (w7.alloc (.cells #[.int .i64 (id : Int), .int .i64 (fr : Int), .int .i64 (tu : Int), .slice a7 n7 c7] 46)).heap.size (w7.alloc (.cells #[.int .i64 (id : Int), .int .i64 (fr : Int), .int .i64 (tu : Int), .slice a7 n7 c7] 46))) nq)) (fun b e q => by have e : gp = b := Option.some.inj e; have := (World.ownsRow.lt hrow8 gp rfl).2; omega)
                        have hb9 := hb8.trans ((below_drewN (Below.refl (w7.alloc (.cells #[.int .i64 (id : Int), .int .i64 (fr : Int), .int .i64 (tu : Int), .slice a7 n7 c7] 46)).heap.size (w7.alloc (.cells #[.int .i64 (id : Int), .int .i64 (fr : Int), .int .i64 (tu : Int), .slice a7 n7 c7] 46))) nq).mono hb8.size)
                        have hU9 : ((w7.alloc (.cells #[.int .i64 (id : Int), .int .i64 (fr : Int), .int .i64 (tu : Int), .slice a7 n7 c7] 46)).drewN nq).heap[w7.heap.size]? = _ := hU8
                        have hr9 := hr8.drewN nq
                        generalize (w7.alloc (.cells #[.int .i64 (id : Int), .int .i64 (fr : Int), .int .i64 (tu : Int), .slice a7 n7 c7] 46)).drewN nq = w9 at *
                        clear hf8 hrow8 hb8 hU8 hr8 d0 d1 d2 dF
                        obtain ⟨k0, k1, k2, k3⟩ := cells4 hU9
                        have hs9 := same_any (hr9.alloc (.cells #[.int .u8 (fr : Int), .int .u8 (tu : Int)] 5)) (nrd2 w9 (fr : Int) (tu : Int) (UInt8.ofNat fr) (UInt8.ofNat tu) (by rw [HI.out.2.1]) (by rw [HI.out.2.2]) 5)
                        rw [decide_eq_true rfl] at hs9
                        have HF : Hid _ := And.intro hf9 (And.intro hrow9 hb9)
                        have hw9l := (World.ownsRow.lt hrow9 gp rfl).2
                        clear hf9 hrow9 hb9 hU9 hr9
                        go_wp2_with fail
                        refine hs9.mono ?_
                        rintro e w10 ⟨rfl, q10, rfl⟩
                        go_wp2_with fail
                        have hbB : Below w9.heap.size w9 ((w9.alloc (.cells #[.int .u8 (fr : Int), .int .u8 (tu : Int)] 5)).drewN q10) := below_drewN ((Below.refl _ _).alloc (Nat.le_refl _) _) q10
                        exact ⟨⟨i0 + 1, by omega, by go_num, HF.out.1.below hbB, ownsRow_keptC HF.out.2.1 (Chg.of_below hbB) (fun b e q => by have e : gp = b := Option.some.inj e; omega), HF.out.2.2.trans (hbB.mono HF.out.2.2.size)⟩, by simp [intOf]; omega⟩
                      | false =>
                        have hdv := deliver_ok hf.nt hinv.rise hlm (id : Int) hnn hp0 (by simp only []; omega) (by simp) hC
                        rw [hdr] at hdv
                        have u1 : (UInt8.ofNat fr).toNat = fr := by rw [UInt8.toNat_ofNat']; omega
                        have u2 : (UInt8.ofNat tu).toNat = tu := by rw [UInt8.toNat_ofNat']; omega
                        have HI : Hid _ := And.intro hid (And.intro u1 u2)
                        have hfr4 : (fr : Int) ≤ 4 := by omega
                        have htu4 : (tu : Int) ≤ 4 := by omega
                        clear hid hnn hp0 hdr hpl hdrop hhead hinv hlm hC hCg hF u1 u2
                        go_wp2_with fail
                        refine hdv.mono ?_
                        rintro e w7 ⟨v7, rfl, ho7, hN7, hc7⟩
                        obtain ⟨a7, n7, c7, rfl⟩ := rowP_shape ho7
                        have hf7 := hf.turn hN7 hc7
                        have hrow7 := ownsRow_keptC hrow hc7 (fun b e => by have e : gp = b := Option.some.inj e; rw [← e]; exact hgpS)
                        have hf8 := hf7.below (Below.al w7 (.cells #[.int .i64 (id : Int), .int .i64 (fr : Int), .int .i64 (tu : Int), .slice a7 n7 c7] 46))
                        have hrow8 := ownsRow_keptC hrow7 (Chg.of_below (Below.al w7 (.cells #[.int .i64 (id : Int), .int .i64 (fr : Int), .int .i64 (tu : Int), .slice a7 n7 c7] 46))) (fun b e q => by have e : gp = b := Option.some.inj e; have := (World.ownsRow.lt hrow7 gp rfl).2; omega)
                        have hb7 := hb.trans (hf.nt.chg hc7)
                        have hb8 := hb7.trans ((Below.al w7 (.cells #[.int .i64 (id : Int), .int .i64 (fr : Int), .int .i64 (tu : Int), .slice a7 n7 c7] 46)).mono hb7.size)
                        have hU8 := block_new w7 (.cells #[.int .i64 (id : Int), .int .i64 (fr : Int), .int .i64 (tu : Int), .slice a7 n7 c7] 46)
                        have d1 := by have := told_msg hrow8 hQ i0 hlt; exact this
                        obtain ⟨gp', c', e', _, _, _, _, d0, d1, d2⟩ := d1
                        simp only [Value.slice.injEq, Option.some.injEq, Addr.mk.injEq, and_true, true_and] at e'
                        obtain ⟨rfl, rfl⟩ := e'
                        rw [hfr] at d1
                        rw [htu] at d2
                        have dF := hFc _ hf8
                        have hr8 := ho7.rd.alloc (.cells #[.int .i64 (id : Int), .int .i64 (fr : Int), .int .i64 (tu : Int), .slice a7 n7 c7] 46)
                        clear hdv hf hrow hb hf7 hrow7 hb7 hN7 hc7 m0 m1 m2 ho7
                        go_wp2_with fail
                        go_quiet (fail)
                        have hf9 := hf8.below (below_drewN (Below.refl (w7.alloc (.cells #[.int .i64 (id : Int), .int .i64 (fr : Int), .int .i64 (tu : Int), .slice a7 n7 c7] 46)).heap.size (w7.alloc (.cells #[.int .i64 (id : Int), .int .i64 (fr : Int), .int .i64 (tu : Int), .slice a7 n7 c7] 46))) nq)
                        have hrow9 := ownsRow_keptC hrow8 (Chg.of_below (below_drewN (Below.refl (w7.alloc (.cells #[.int .i64 (id : Int), .int .i64 (fr : Int), .int .i64 (tu : Int), .slice a7 n7 c7] 46)).heap.size (w7.alloc (.cells #[.int .i64 (id : Int), .int .i64 (fr : Int), .int .i64 (tu : Int), .slice a7 n7 c7] 46))) nq)) (fun b e q => by have e : gp = b := Option.some.inj e; have := (World.ownsRow.lt hrow8 gp rfl).2; omega)
                        have hb9 := hb8.trans ((below_drewN (Below.refl (w7.alloc (.cells #[.int .i64 (id : Int), .int .i64 (fr : Int), .int .i64 (tu : Int), .slice a7 n7 c7] 46)).heap.size (w7.alloc (.cells #[.int .i64 (id : Int), .int .i64 (fr : Int), .int .i64 (tu : Int), .slice a7 n7 c7] 46))) nq).mono hb8.size)
                        have hU9 : ((w7.alloc (.cells #[.int .i64 (id : Int), .int .i64 (fr : Int), .int .i64 (tu : Int), .slice a7 n7 c7] 46)).drewN nq).heap[w7.heap.size]? = _ := hU8
                        have hr9 := hr8.drewN nq
                        generalize (w7.alloc (.cells #[.int .i64 (id : Int), .int .i64 (fr : Int), .int .i64 (tu : Int), .slice a7 n7 c7] 46)).drewN nq = w9 at *
                        clear hf8 hrow8 hb8 hU8 hr8 d0 d1 d2 dF
                        obtain ⟨k0, k1, k2, k3⟩ := cells4 hU9
                        have hs9 := same_any (hr9.alloc (.cells #[.int .u8 (fr : Int), .int .u8 (tu : Int)] 5)) (nrd2 w9 (fr : Int) (tu : Int) (UInt8.ofNat fr) (UInt8.ofNat tu) (by rw [HI.out.2.1]) (by rw [HI.out.2.2]) 5)
                        rw [decide_eq_true rfl] at hs9
                        have HF : Hid _ := And.intro hf9 (And.intro hrow9 hb9)
                        have hw9l := (World.ownsRow.lt hrow9 gp rfl).2
                        clear hf9 hrow9 hb9 hU9 hr9
                        go_wp2_with fail
                        refine hs9.mono ?_
                        rintro e w10 ⟨rfl, q10, rfl⟩
                        go_wp2_with fail
                        have hbB : Below w9.heap.size w9 ((w9.alloc (.cells #[.int .u8 (fr : Int), .int .u8 (tu : Int)] 5)).drewN q10) := below_drewN ((Below.refl _ _).alloc (Nat.le_refl _) _) q10
                        exact ⟨⟨i0 + 1, by omega, by go_num, HF.out.1.below hbB, ownsRow_keptC HF.out.2.1 (Chg.of_below hbB) (fun b e q => by have e : gp = b := Option.some.inj e; omega), HF.out.2.2.trans (hbB.mono HF.out.2.2.size)⟩, by simp [intOf]; omega⟩
                  · obtain rfl : i0 = 16 := by omega
                    have hl0 : ((msgs 16).drop 16).length = 0 := by simp [msgs]
                    have hpd := pend_len hf.nt (left_inv 16)
                    rw [hl0] at hpd
                    clear hgone
                    go_wp2_with fail
                    refine hpd.mono ?_
                    rintro e w7 ⟨pa, pc, rfl, _, _, hb7⟩
                    go_wp2_with fail
                    go_ret
                    exact ⟨rfl, hb0.trans ((hb.trans (hb7.mono hb.size)).mono hB0)⟩
              | false =>
                have hf5 := hc.nf
                have hb5 := hb
                have hgone : ∀ a b : Nat, 1 ≤ a → a ≤ 4 → 1 ≤ b → b ≤ 4 → ∃ t, F4[5 * a + b]? = some t ∧ C4 (min (a : Int) b) (max (a : Int) b) = (t && !false) := fun a b p1 p2 p3 p4 => ⟨_, hc.rel a b p1 p2 p3 p4, by simp⟩
                clear hc hb hself
                go_wp2_with fail
                generalize wc = w5 at *
                refine (pending_any hf5.nt (by rw [msgs_len]; omega) (fun p hp => Nat.le_trans ((msgs_inv 16 (by omega)).small p hp) (by omega))).mono ?_
                rintro e w6 ⟨vp, rfl, Q, hQ, hT6, hb6⟩
                have hrow6 := hT6.row
                have hf6 := hf5.below hb6
                have hb06 := hb5.trans (hb6.mono hb5.size)
                have hSl := hf5.nt.lt
                obtain ⟨gp, cp, rfl, p1, p2, hgp, _, _, _, _⟩ := told_msg hrow6 hQ 0 (by omega)
                unfold maxLen at p2
                have hgpS : ¬ S2 gp := fun q => by have := (hSl _ q).2; omega
                clear hT6 hf5 hb5
                generalize w5.heap.size = B1 at *
                go_wp2_with fail
                go_loopw [21] (fun i W => ∃ i0 : Nat, i0 ≤ 16 ∧ i = .int .i64 i0 ∧ Nf w0.heap.size x g 16 n S2 ((msgs 16).drop i0) C4 F4 W ∧ W.ownsRow B1 46 4 (.slice (some ⟨gp, 0, none⟩) 16 cp) Q.length (pkCs Q) ∧ Below w0.heap.size w0 W) (fun i _ => 16 - (intOf i).toNat)
                case atStart => exact ⟨0, by omega, rfl, hf6, hrow6, hb06⟩
                case round =>
                  obtain ⟨i0, hi16, rfl, hf, hrow, hb⟩ := hrel
                  clear hf6 hrow6 hb06
                  by_cases hlt : i0 < 16
                  · obtain ⟨gp', c', e', _, _, _, hgl, m0, m1, m2⟩ := told_msg hrow hQ i0 hlt
                    simp only [Value.slice.injEq, Option.some.injEq, Addr.mk.injEq, and_true, true_and] at e'
                    obtain ⟨rfl, rfl⟩ := e'
                    obtain ⟨hpl, hnn, hdrop⟩ := left_pl i0 hlt
                    have hhead := left_head i0 hlt
                    have hinv := left_inv i0
                    have hli : (i0 : Int) < 16 := by omega
                    obtain ⟨fr, hfr⟩ : ∃ fr, i0 / 4 + 1 = fr := ⟨_, rfl⟩
                    obtain ⟨tu, htu⟩ : ∃ tu, i0 % 4 + 1 = tu := ⟨_, rfl⟩
                    obtain ⟨id, hid⟩ : ∃ id, i0 + 1 = id := ⟨_, rfl⟩
                    have hfr1 : 1 ≤ fr ∧ fr ≤ 4 := by omega
                    have htu1 : 1 ≤ tu ∧ tu ≤ 4 := by omega
                    rw [hfr] at m1 hhead
                    rw [htu] at m2 hhead
                    rw [hid] at m0 hhead hpl hnn
                    obtain ⟨tF, hF, hCg⟩ := hgone fr tu hfr1.1 hfr1.2 htu1.1 htu1.2
                    obtain ⟨ka, hka⟩ : ∃ ka, 5 * fr + tu = ka := ⟨_, rfl⟩
                    rw [hka] at hF
                    have eka : 5 * (fr : Int) + (tu : Int) = (ka : Int) := by omega
                    have hka25 : (ka : Int) < 25 := by omega
                    have hka0 : (0 : Int) ≤ (ka : Int) := by omega
                    have hw1 : IntKind.i64.wrap (5 * (fr : Int)) = 5 * (fr : Int) := by rw [IntKind.wrap_i64]; omega
                    have hw2 : IntKind.i64.wrap (5 * (fr : Int) + (tu : Int)) = (ka : Int) := by rw [IntKind.wrap_i64]; omega
                    have hw3 : IntKind.i64.wrap (ka : Int) = (ka : Int) := by rw [IntKind.wrap_i64]; omega
                    have hFc := fun W (h : Nf w0.heap.size x g 16 n S2 ((msgs 16).drop (i0 + 1)) C4 F4 W) => h.cell ka tF hF
                    have hp0 : ((msgs 16).drop i0)[plN ((msgs 16).drop i0) (id : Int)]? = some (id, fr, tu, [UInt8.ofNat fr, UInt8.ofNat tu]) := by rw [hpl]; exact hhead
                    have hdr : dropM ((msgs 16).drop i0) (plN ((msgs 16).drop i0) (id : Int)) = (msgs 16).drop (i0 + 1) := by rw [hpl]; exact hdrop
                    have hlm : ((msgs 16).drop i0).length ≤ 1048576 := by rw [List.length_drop, msgs_len]; omega
                    cases hC : C4 (min (fr : Int) tu) (max (fr : Int) tu) with
                    | true =>
                      have htT : tF = true := by rw [hC] at hCg; simpa using hCg.symm
                      subst htT
                      have hdv := deliver_cut hf.nt hinv.rise hlm (id : Int) hnn hp0 (by simp only []; omega) hC
                      rw [hdr] at hdv
                      have HI : Hid _ := hid
                      clear hid hnn hp0 hdr hpl hdrop hhead hinv hlm hC hCg hF
                      go_wp2_with fail
                      refine hdv.mono ?_
                      rintro e w7 ⟨rfl, hN7, hc7⟩
                      have hf7 := hf.turn hN7 hc7
                      have hrow7 := ownsRow_keptC hrow hc7 (fun b e => by have e : gp = b := Option.some.inj e; rw [← e]; exact hgpS)
                      have hf8 := hf7.below (Below.al w7 (.cells #[.int .i64 0, .int .i64 0, .int .i64 0, .slice none 0 0] 46))
                      have hrow8 := ownsRow_keptC hrow7 (Chg.of_below (Below.al w7 (.cells #[.int .i64 0, .int .i64 0, .int .i64 0, .slice none 0 0] 46))) (fun b e q => by have e : gp = b := Option.some.inj e; have := (World.ownsRow.lt hrow7 gp rfl).2; omega)
                      have hb7 := hb.trans (hf.nt.chg hc7)
                      have hb8 := hb7.trans ((Below.al w7 (.cells #[.int .i64 0, .int .i64 0, .int .i64 0, .slice none 0 0] 46)).mono hb7.size)
                      have hU8 := block_new w7 (.cells #[.int .i64 0, .int .i64 0, .int .i64 0, .slice none 0 0] 46)
                      have d1 := by have := told_msg hrow8 hQ i0 hlt; exact this
                      obtain ⟨gp', c', e', _, _, _, _, d0, d1, d2⟩ := d1
                      simp only [Value.slice.injEq, Option.some.injEq, Addr.mk.injEq, and_true, true_and] at e'
                      obtain ⟨rfl, rfl⟩ := e'
                      rw [hfr] at d1
                      rw [htu] at d2
                      have dF := hFc _ hf8
                      clear hdv hf hrow hb hf7 hrow7 hb7 hN7 hc7 m0 m1 m2
                      go_wp2_with fail
                      go_quiet (fail)
                      go_wp2_with fail
                      exact ⟨⟨i0 + 1, by omega, by go_num, hf8.below (below_drewN (Below.refl (w7.alloc (.cells #[.int .i64 0, .int .i64 0, .int .i64 0, .slice none 0 0] 46)).heap.size (w7.alloc (.cells #[.int .i64 0, .int .i64 0, .int .i64 0, .slice none 0 0] 46))) nq), ownsRow_keptC hrow8 (Chg.of_below (below_drewN (Below.refl (w7.alloc (.cells #[.int .i64 0, .int .i64 0, .int .i64 0, .slice none 0 0] 46)).heap.size (w7.alloc (.cells #[.int .i64 0, .int .i64 0, .int .i64 0, .slice none 0 0] 46))) nq)) (fun b e q => by have e : gp = b := Option.some.inj e; have := (World.ownsRow.lt hrow8 gp rfl).2; omega), hb8.trans ((below_drewN (Below.refl (w7.alloc (.cells #[.int .i64 0, .int .i64 0, .int .i64 0, .slice none 0 0] 46)).heap.size (w7.alloc (.cells #[.int .i64 0, .int .i64 0, .int .i64 0, .slice none 0 0] 46))) nq).mono hb8.size)⟩, by simp [intOf]; omega⟩
                    | false =>
                      have htF : tF = false := by rw [hC] at hCg; simpa using hCg.symm
                      subst htF
                      have hdv := deliver_ok hf.nt hinv.rise hlm (id : Int) hnn hp0 (by simp only []; omega) (by simp) hC
                      rw [hdr] at hdv
                      have u1 : (UInt8.ofNat fr).toNat = fr := by rw [UInt8.toNat_ofNat']; omega
                      have u2 : (UInt8.ofNat tu).toNat = tu := by rw [UInt8.toNat_ofNat']; omega
                      have HI : Hid _ := And.intro hid (And.intro u1 u2)
                      have hfr4 : (fr : Int) ≤ 4 := by omega
                      have htu4 : (tu : Int) ≤ 4 := by omega
                      clear hid hnn hp0 hdr hpl hdrop hhead hinv hlm hC hCg hF u1 u2
                      go_wp2_with fail
                      refine hdv.mono ?_
                      rintro e w7 ⟨v7, rfl, ho7, hN7, hc7⟩
                      obtain ⟨a7, n7, c7, rfl⟩ := rowP_shape ho7
                      have hf7 := hf.turn hN7 hc7
                      have hrow7 := ownsRow_keptC hrow hc7 (fun b e => by have e : gp = b := Option.some.inj e; rw [← e]; exact hgpS)
                      have hf8 := hf7.below (Below.al w7 (.cells #[.int .i64 (id : Int), .int .i64 (fr : Int), .int .i64 (tu : Int), .slice a7 n7 c7] 46))
                      have hrow8 := ownsRow_keptC hrow7 (Chg.of_below (Below.al w7 (.cells #[.int .i64 (id : Int), .int .i64 (fr : Int), .int .i64 (tu : Int), .slice a7 n7 c7] 46))) (fun b e q => by have e : gp = b := Option.some.inj e; have := (World.ownsRow.lt hrow7 gp rfl).2; omega)
                      have hb7 := hb.trans (hf.nt.chg hc7)
                      have hb8 := hb7.trans ((Below.al w7 (.cells #[.int .i64 (id : Int), .int .i64 (fr : Int), .int .i64 (tu : Int), .slice a7 n7 c7] 46)).mono hb7.size)
                      have hU8 := block_new w7 (.cells #[.int .i64 (id : Int), .int .i64 (fr : Int), .int .i64 (tu : Int), .slice a7 n7 c7] 46)
                      have d1 := by have := told_msg hrow8 hQ i0 hlt; exact this
                      obtain ⟨gp', c', e', _, _, _, _, d0, d1, d2⟩ := d1
                      simp only [Value.slice.injEq, Option.some.injEq, Addr.mk.injEq, and_true, true_and] at e'
                      obtain ⟨rfl, rfl⟩ := e'
                      rw [hfr] at d1
                      rw [htu] at d2
                      have dF := hFc _ hf8
                      have hr8 := ho7.rd.alloc (.cells #[.int .i64 (id : Int), .int .i64 (fr : Int), .int .i64 (tu : Int), .slice a7 n7 c7] 46)
                      clear hdv hf hrow hb hf7 hrow7 hb7 hN7 hc7 m0 m1 m2 ho7
                      go_wp2_with fail
                      go_quiet (fail)
                      have hf9 := hf8.below (below_drewN (Below.refl (w7.alloc (.cells #[.int .i64 (id : Int), .int .i64 (fr : Int), .int .i64 (tu : Int), .slice a7 n7 c7] 46)).heap.size (w7.alloc (.cells #[.int .i64 (id : Int), .int .i64 (fr : Int), .int .i64 (tu : Int), .slice a7 n7 c7] 46))) nq)
                      have hrow9 := ownsRow_keptC hrow8 (Chg.of_below (below_drewN (Below.refl (w7.alloc (.cells #[.int .i64 (id : Int), .int .i64 (fr : Int), .int .i64 (tu : Int), .slice a7 n7 c7] 46)).heap.size (w7.alloc (.cells #[.int .i64 (id : Int), .int .i64 (fr : Int), .int .i64 (tu : Int), .slice a7 n7 c7] 46))) nq)) (fun b e q => by have e : gp = b := Option.some.inj e; have := (World.ownsRow.lt hrow8 gp rfl).2; omega)
                      have hb9 := hb8.trans ((below_drewN (Below.refl (w7.alloc (.cells #[.int .i64 (id : Int), .int .i64 (fr : Int), .int .i64 (tu : Int), .slice a7 n7 c7] 46)).heap.size (w7.alloc (.cells #[.int .i64 (id : Int), .int .i64 (fr : Int), .int .i64 (tu : Int), .slice a7 n7 c7] 46))) nq).mono hb8.size)
                      have hU9 : ((w7.alloc (.cells #[.int .i64 (id : Int), .int .i64 (fr : Int), .int .i64 (tu : Int), .slice a7 n7 c7] 46)).drewN nq).heap[w7.heap.size]? = _ := hU8
                      have hr9 := hr8.drewN nq
                      generalize (w7.alloc (.cells #[.int .i64 (id : Int), .int .i64 (fr : Int), .int .i64 (tu : Int), .slice a7 n7 c7] 46)).drewN nq = w9 at *
                      clear hf8 hrow8 hb8 hU8 hr8 d0 d1 d2 dF
                      obtain ⟨k0, k1, k2, k3⟩ := cells4 hU9
                      have hs9 := same_any (hr9.alloc (.cells #[.int .u8 (fr : Int), .int .u8 (tu : Int)] 5)) (nrd2 w9 (fr : Int) (tu : Int) (UInt8.ofNat fr) (UInt8.ofNat tu) (by rw [HI.out.2.1]) (by rw [HI.out.2.2]) 5)
                      rw [decide_eq_true rfl] at hs9
                      have HF : Hid _ := And.intro hf9 (And.intro hrow9 hb9)
                      have hw9l := (World.ownsRow.lt hrow9 gp rfl).2
                      clear hf9 hrow9 hb9 hU9 hr9
                      go_wp2_with fail
                      refine hs9.mono ?_
                      rintro e w10 ⟨rfl, q10, rfl⟩
                      go_wp2_with fail
                      have hbB : Below w9.heap.size w9 ((w9.alloc (.cells #[.int .u8 (fr : Int), .int .u8 (tu : Int)] 5)).drewN q10) := below_drewN ((Below.refl _ _).alloc (Nat.le_refl _) _) q10
                      exact ⟨⟨i0 + 1, by omega, by go_num, HF.out.1.below hbB, ownsRow_keptC HF.out.2.1 (Chg.of_below hbB) (fun b e q => by have e : gp = b := Option.some.inj e; omega), HF.out.2.2.trans (hbB.mono HF.out.2.2.size)⟩, by simp [intOf]; omega⟩
                  · obtain rfl : i0 = 16 := by omega
                    have hl0 : ((msgs 16).drop 16).length = 0 := by simp [msgs]
                    have hpd := pend_len hf.nt (left_inv 16)
                    rw [hl0] at hpd
                    clear hgone
                    go_wp2_with fail
                    refine hpd.mono ?_
                    rintro e w7 ⟨pa, pc, rfl, _, _, hb7⟩
                    go_wp2_with fail
                    go_ret
                    exact ⟨rfl, hb0.trans ((hb.trans (hb7.mono hb.size)).mono hB0)⟩
end Go.Proofs.Ytpieehbikmmifaa
