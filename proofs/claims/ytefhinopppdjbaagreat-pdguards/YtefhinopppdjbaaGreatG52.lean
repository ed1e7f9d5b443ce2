/- What PdGuards answers. -/
import Derived.Test.YtefhinopppdjbaaGreatG51
import Derived.Deep.CutRange
namespace Go.Proofs.YtefhinopppdjbaaGreat
open Go.RowKit
set_option linter.unusedVariables false
set_option linter.unusedSimpArgs false
set_option maxRecDepth 100000

/-- The driver and its registered ones in a world. -/
structure GW (B p : Nat) (d : DC) (w0 w : World) (H : List EN) : Prop where
  rg : Rg B p d w H
  hp : M.Hp elt H H.length
  bl : Below B w0 w
theorem GW.next {B p : Nat} {d d' : DC} {w0 w w' : World} {H H' : List EN} {x : Option Addr × Nat × Nat} (h : GW B p d w0 w H) (hd : d'.ev = d.ev) (hB : B ≤ w.heap.size) (hT : Tu B p d' w w' x H') : GW B p { d' with ev := x } w0 w' H' := by
  refine ⟨hT.rg, hT.hp, h.bl.trans (Chg.below hT.ch (fun b q => ?_) hB)⟩
  have q' : RgS p d b := by
    rcases q with q | q
    · exact .inl q
    · exact .inr (by rw [← hd]; exact q)
  exact (h.rg.tn q').1
theorem GW.al {B p : Nat} {d : DC} {w0 w : World} {H : List EN} (h : GW B p d w0 w H) (hB : B ≤ w.heap.size) (o : Obj) : GW B p d w0 (w.alloc o) H :=
  ⟨h.rg.below (h_al w o) (Nat.le_refl _), h.hp, h.bl.alloc hB o⟩
theorem GW.raise {B p : Nat} {d d' : DC} {w0 w w' : World} {H : List EN} (h : GW B p d w0 w H) (hB : B ≤ w.heap.size) (hr : Rg B p d' w' H) (hc : Chg (fun b => b = p) w w') : GW B p d' w0 w' H :=
  ⟨hr, h.hp, h.bl.trans (Chg.below hc (fun b q => by have q' : b = p := q; rw [q']; exact h.rg.lo) hB)⟩
theorem GM.lft {l : List UInt64} {k tt L : Nat} {H : List EN} (h : GM l k tt L H) (hk : k ≤ 40) : Lft l 0 k H :=
  ⟨h.nd, Nat.le_trans h.len hk, fun e he => (h.un e he).2.1, fun e he => by obtain ⟨j, x, q1, q2⟩ := h.src e he; exact ⟨j, x, Nat.zero_le _, q1, q2⟩⟩
/-- How a list of numbers of the call's own is long. -/
theorem Ou.slen {B : Nat} {w : World} {v : Value} {l : List UInt64} (h : Ou B w v l) : ∃ a c, v = .slice a l.length c := by
  obtain ⟨a, c, e, _⟩ := row_reads h
  exact ⟨a, c, e⟩
set_option maxHeartbeats 8000000 in
theorem pdGuards_any {v0 : Value} {l : List UInt64} (t ask : UInt64) (rel : Bool) {w : World} (hl : Ru w v0 l) :
    Calls Tryz.prog 3 #[v0, .int .u64 (t.toNat : Int), .int .u64 (ask.toNat : Int), .bool rel] w fun e w' => e = .returned (.bool true) ∧ Below w.heap.size w w' := by
  have haw := pdawake_any w
  have hnew := fun W => pnew_any 1 (by omega) (by omega) W
  obtain ⟨ao, co, rfl, l1, l2, l3, l4⟩ := hl
  unfold maxLen at l2
  have ht := and15g t
  have htl := and15g_lt t
  have hak := and50 ask
  have hal := mk50_lt ask
  obtain ⟨tt, htt⟩ : ∃ tt, 1 + (t &&& 15).toNat = tt := ⟨_, rfl⟩
  have gt : (1 : Int) + ((t &&& 15).toNat : Int) = (tt : Int) := by omega
  obtain ⟨av, hav⟩ : ∃ av, (mk50 ask).toNat = av := ⟨_, rfl⟩
  rw [hav] at hak hal
  have ht1 : 1 ≤ tt ∧ tt ≤ 16 := by omega
  clear htt hav
  generalize (t &&& 15).toNat = t15 at *
  go_enter Tryz.func3, Tryz.ntmps3
  go_wp2_with fail
  refine haw.mono ?_
  rintro e w1 ⟨rfl, hb1⟩
  go_wp2_with fail
  refine (hnew _).mono ?_
  rintro e w2 ⟨rfl, hd2, -, -, -, hb2⟩
  have hbs := hb1.size
  obtain ⟨p, hp⟩ : ∃ p, w1.heap.size + 3 = p := ⟨_, rfl⟩
  rw [hp] at hd2 ⊢
  have hBp : w.heap.size ≤ p := by omega
  have hG0 : ∃ d, d.c = 0 ∧ d.s = 0 ∧ GW w.heap.size p d w w2 [] := ⟨_, rfl, rfl, ⟨hd2, World.ownsRow_nil _ _ _ _, hBp⟩, fun i x y _ h => absurd h (by simp), hb1.trans (hb2.mono hbs)⟩
  clear hd2 hb2 hb1 haw hnew hp hbs
  go_wp2_with fail
  go_loopw [11, 10, 12, 13] (fun is ls _ _ wr => ∃ (k L : Nat) (H : List EN) (d : DC), k ≤ l.length ∧ k ≤ 40 ∧ is = .int .i64 k ∧ ls = .int .u64 (L : Int) ∧ d.c = 0 ∧ d.s = 0 ∧ GW w.heap.size p d w wr H ∧ GM l k tt L H) (fun is _ _ _ _ => 40 - (intOf is).toNat)
  case atStart =>
    obtain ⟨d, q1, q2, q3⟩ := hG0
    exact ⟨0, 1152921504606846976, [], d, Nat.zero_le _, by omega, rfl, rfl, q1, q2, q3, GM.start l tt⟩
  case round =>
    obtain ⟨k, L, H, d, hk, hk40, rfl, rfl, hdc, hds, hG, hM⟩ := hrel
    go_upto_region 8 with fail
    go_cut [33] from 26 to 56 (fun s wx => s = .bool (decide (k < l.length ∧ k < 40)) ∧ wx = wr)
    case first =>
      by_cases q1 : k < l.length
      · have g1 : (k : Int) < (l.length : Int) := by omega
        by_cases q2 : k < 40
        · have g2 : (k : Int) < 40 := by omega
          go_wp2_with fail
          go_meet
          exact ⟨by simp [q1, q2], rfl⟩
        · have g2 : decide ((k : Int) < 40) = false := decide_eq_false (by omega)
          go_wp2_with fail
          go_meet
          exact ⟨by simp [q1, q2], rfl⟩
      · have g1 : decide ((k : Int) < (l.length : Int)) = false := decide_eq_false (by omega)
        go_wp2_with fail
        go_meet
        exact ⟨by simp [q1], rfl⟩
    case rest =>
    obtain ⟨rfl, rfl⟩ := hcut
    by_cases hlt : k < l.length ∧ k < 40
    · rw [decide_eq_true hlt]
      obtain ⟨a, rfl, hc0⟩ := l4 k hlt.1
      have hc1 : wc.cell? (a.add k) = some (.int .u64 (l[k].toNat : Int)) := by rw [hG.bl.cell (World.block_lt_of_cell? w _ hc0)]; exact hc0
      have hx : l[k]? = some l[k] := List.getElem?_eq_getElem hlt.1
      have hki : (k : Int) < (l.length : Int) := by omega
      clear hc0
      generalize l[k] = x at *
      have hmx := and50 x
      have hml := mk50_lt x
      have hsz : w.heap.size ≤ wc.heap.size := hG.bl.size
      by_cases h0 : (mk50 x).toNat = 0
      · have hdo := dregarg (ts := (mk50 x).toNat) (ttl := tt) (.inl h0) hG.rg hG.hp
        have HN : Hid (∀ w1, Tu w.heap.size p d wc w1 d.ev H → ∃ d', d'.c = 0 ∧ d'.s = 0 ∧ GW w.heap.size p d' w w1 H ∧ GM l (k + 1) tt L H) := fun w1 hT => ⟨{ d with ev := d.ev }, hdc, hds, hG.next rfl hsz hT, hM.more⟩
        rw [h0] at hdo hmx
        clear hM hG hdc hds h0
        go_wp2_with fail
        refine hdo.mono ?_
        rintro e w3 ⟨rfl, hT3⟩
        obtain ⟨d3, q1, q2, hG3, hM3⟩ := HN.out _ hT3
        have hG4 := hG3.al hG3.bl.size (.cells #[.int .i64 1, .int .u64 0, .int .i64 0] 29)
        simp only [prA]
        clear hT3 hdo HN hG3
        go_wp2_with fail
        exact ⟨⟨k + 1, L, H, d3, by omega, by omega, by go_num, rfl, q1, q2, hG4, hM3⟩, by simp [intOf]; omega⟩
      · obtain ⟨U, hU⟩ : ∃ U : UInt64, U.toNat = tt := ⟨UInt64.ofNat tt, by simp; omega⟩
        have hdo := dregok (mk50 x) U tt (by rw [hdc, hU]; omega) h0 ht1.1 (by omega) (by rw [hds]; omega) hG.rg hG.hp hM.nd (by have := hM.len; omega)
        have HN : Hid (∀ x1 H1 w1, Tu w.heap.size p d wc w1 x1 H1 → H1.Perm (regE (mk50 x) U H) → ∃ d', d'.c = 0 ∧ d'.s = 0 ∧ GW w.heap.size p d' w w1 H1 ∧ GM l (k + 1) tt (min L (mk50 x).toNat) H1) := fun x1 H1 w1 hT hp1 => ⟨{ d with ev := x1 }, hdc, hds, hG.next rfl hsz hT, hM.reg hx h0 hU hp1⟩
        have g0 : (0 : Int) < ((mk50 x).toNat : Int) := by omega
        have g1 : (((mk50 x).toNat : Int) > 0) := g0
        obtain ⟨m, hm⟩ : ∃ m, min L (mk50 x).toNat = m := ⟨_, rfl⟩
        have gm : min (L : Int) ((mk50 x).toNat : Int) = (m : Int) := by omega
        rw [hm] at HN
        clear hM hG hdc hds h0 hU hm
        generalize (mk50 x).toNat = tz at *
        have gz : 0 < tz := by omega
        go_wp2_with fail
        refine hdo.mono ?_
        rintro e w3 ⟨rfl, x3, H3, hT3, hp3⟩
        obtain ⟨d3, q1, q2, hG3, hM3⟩ := HN.out _ _ _ hT3 hp3
        have hG4 := hG3.al hG3.bl.size (.cells #[.int .i64 0, .int .u64 0, .int .i64 0] 29)
        simp only [prA]
        clear hT3 hdo HN hG3 hp3
        go_wp2_with fail
        exact ⟨⟨k + 1, m, H3, d3, by omega, by omega, by go_num, rfl, q1, q2, hG4, hM3⟩, by simp [intOf]; omega⟩
    · rw [decide_eq_false hlt]
      have hLb := hM.L_le
      have hHl := hM.len
      have hls := hM.ls hal
      obtain ⟨N, hN⟩ : ∃ N, min av (L - 1) = N := ⟨_, rfl⟩
      rw [hN] at hls
      have hsz : w.heap.size ≤ wc.heap.size := hG.bl.size
      have hra : Calls Tryz.prog 7 #[.pointer (some ⟨p, 0, none⟩), .agg (pcA (pc0 8 0 av 0 0))] wc fun e w' => e = .returned (prA 0 (N : Int) 0) ∧ Rg w.heap.size p { d with s := N } w' H ∧ Chg (fun b => b = p) wc w' := by
        have hq := draise av (by omega) (by omega) (fun e he => (hM.un e he).2.1) (by omega) hG.rg
        have e1 : max d.s (lsF av H) = N := by rw [hls, hds]; omega
        rw [e1] at hq
        exact hq
      have hNa : N ≤ av := by omega
      have gN : min (av : Int) ((L : Int) - 1) = (N : Int) := by omega
      have gL : IntKind.u64.wrap ((L : Int) - 1) = ((L - 1 : Nat) : Int) := by rw [IntKind.wrap_u64]; omega
      have gN2 : min (av : Int) ((L - 1 : Nat) : Int) = (N : Int) := by omega
      have HK : Hid (k = min l.length 40) := (by show _ = _; omega)
      clear hN hls
      go_wp2_with fail
      refine hra.mono ?_
      rintro e w3 ⟨rfl, hr3, hc3⟩
      have hG3 := hG.raise hsz hr3 hc3
      simp only [prA]
      go_upto_region 17 with fail
      have hn3 := heap_new w3 (.cells #[.int .i64 0, .int .u64 (N : Int), .int .i64 0] 29)
      have hG4 := hG3.al hG3.bl.size (.cells #[.int .i64 0, .int .u64 (N : Int), .int .i64 0] 29)
      generalize World.alloc w3 _ = w4 at *
      obtain ⟨m0, m1, m2, _⟩ := cells3 hn3
      have hsf := fun n => safe_any (hG4.rg.drewN n).drv
      have hG5 : ∀ n, GW w.heap.size p { d with s := N } w (w4.drewN n) H := fun n => ⟨hG4.rg.drewN n, hG4.hp, hG4.bl.trans ((Below.dN w4 n).mono hG4.bl.size)⟩
      have HG5 : Hid _ := hG5
      clear hra hr3 hc3 hG3 hG hn3 hG4 hG5
      go_region_held3 (fun w' => w'.cell? ⟨w3.heap.size, 1, none⟩ = some (.int .u64 (N : Int))) (go_keep) (first
        | (go_at_call 8; refine (hsf _).mono ?_; rintro e w5 ⟨rfl, rfl⟩)
        | fail)
      have hG6 := HG5.out 1
      clear hds
      have hd6 : ({ d with s := N } : DC).s = N := rfl
      have hdc6 : ({ d with s := N } : DC).c = 0 := hdc
      clear hdc
      generalize ({ d with s := N } : DC) = d6 at *
      generalize w4.drewN 1 = w6 at *
      cases rel with
      | true =>
        have hL0 : Lft l 0 k H := hM.lft hk40
        go_wp2_with fail
        go_loopw [15] (fun is wr => ∃ (j : Nat) (H : List EN) (d : DC), j ≤ l.length ∧ j ≤ 40 ∧ is = .int .i64 j ∧ d.s = N ∧ GW w.heap.size p d w wr H ∧ Lft l j k H) (fun is _ => 40 - (intOf is).toNat)
        case atStart => exact ⟨0, H, d6, Nat.zero_le _, by omega, rfl, hd6, hG6, hL0⟩
        case round =>
          obtain ⟨j, H7, d7, hj, hj40, rfl, hd7, hG7, hL7⟩ := hrel
          clear hL0 hG6 hd6 hM
          go_upto_region 21 with fail
          go_cut [83] from 76 to 93 (fun s wx => s = .bool (decide (j < l.length ∧ j < 40)) ∧ wx = wr)
          case first =>
            by_cases q1 : j < l.length
            · have g1 : (j : Int) < (l.length : Int) := by omega
              by_cases q2 : j < 40
              · have g2 : (j : Int) < 40 := by omega
                go_wp2_with fail
                go_meet
                exact ⟨by simp [q1, q2], rfl⟩
              · have g2 : decide ((j : Int) < 40) = false := decide_eq_false (by omega)
                go_wp2_with fail
                go_meet
                exact ⟨by simp [q1, q2], rfl⟩
            · have g1 : decide ((j : Int) < (l.length : Int)) = false := decide_eq_false (by omega)
              go_wp2_with fail
              go_meet
              exact ⟨by simp [q1], rfl⟩
          case rest =>
          obtain ⟨rfl, rfl⟩ := hcut
          by_cases hjl : j < l.length ∧ j < 40
          · rw [decide_eq_true hjl]
            obtain ⟨a, rfl, hc0⟩ := l4 j hjl.1
            have hc1 : wc.cell? (a.add j) = some (.int .u64 (l[j].toNat : Int)) := by rw [hG7.bl.cell (World.block_lt_of_cell? w _ hc0)]; exact hc0
            have hx : l[j]? = some l[j] := List.getElem?_eq_getElem hjl.1
            have hki : (j : Int) < (l.length : Int) := by omega
            clear hc0
            generalize l[j] = x at *
            have hmx := and50 x
            have hsz7 := hG7.bl.size
            have hdo := drelease (mk50 x) hG7.rg hG7.hp hL7.1 (by have := hL7.2.1; omega)
            have HN : Hid (∀ x1 H1 w1, Tu w.heap.size p d7 wc w1 x1 H1 → H1.Perm (outE (mk50 x) H7) → ∃ d', d'.s = N ∧ GW w.heap.size p d' w w1 H1 ∧ Lft l (j + 1) k H1) := fun x1 H1 w1 hT hp1 => ⟨{ d7 with ev := x1 }, hd7, hG7.next rfl hsz7 hT, hL7.out hx hp1⟩
            clear hL7 hG7 hd7
            generalize (mk50 x).toNat = tz at *
            go_wp2_with fail
            refine hdo.mono ?_
            rintro e w8 ⟨rfl, x8, H8, hT8, hp8⟩
            obtain ⟨d8, q1, hG8, hL8⟩ := HN.out _ _ _ hT8 hp8
            clear hT8 hdo HN hp8
            go_wp2_with fail
            exact ⟨⟨j + 1, H8, d8, by omega, by omega, by go_num, q1, hG8, hL8⟩, by simp [intOf]; omega⟩
          · rw [decide_eq_false hjl]
            have hH7 : H7 = [] := hL7.none (by have := HK.out; omega)
            subst hH7
            have hd9 : d7.s ≤ av := by omega
            have hG9 := hG7
            generalize d7 = d9 at *
            generalize wc = W9 at *
            clear hL7 hG7 hd7
            have hsz9 := hG9.bl.size
            have hra : Calls Tryz.prog 7 #[.pointer (some ⟨p, 0, none⟩), .agg (pcA (pc0 8 0 av 0 0))] W9 fun e w' => e = .returned (prA 0 (av : Int) 0) ∧ Rg w.heap.size p { d9 with s := av } w' [] ∧ Chg (fun b => b = p) W9 w' := by
              have hq := draise av (by omega) (by omega) (fun e he => (by cases he)) (by simp) hG9.rg
              have e1 : max d9.s (lsF av []) = av := by show max d9.s av = av; omega
              rw [e1] at hq
              exact hq
            go_wp2_with fail
            refine hra.mono ?_
            rintro e w10 ⟨rfl, hr10, hc10⟩
            have hG10 := hG9.raise hsz9 hr10 hc10
            have hsz10 := hG10.bl.size
            simp only [prA]
            go_upto_region 31 with fail
            have hn10 := heap_new w10 (.cells #[.int .i64 0, .int .u64 (av : Int), .int .i64 0] 29)
            have hG11 := hG10.al hsz10 (.cells #[.int .i64 0, .int .u64 (av : Int), .int .i64 0] 29)
            generalize World.alloc w10 _ = w11 at *
            obtain ⟨m0, m1, m2, _⟩ := cells3 hn10
            have hrg := registered_any (by simp) hG11.rg
            have hlt11 := (Array.getElem?_eq_some_iff.1 hn10).1
            clear hra hr10 hc10 hG10 hG9 hn10
            go_wp2_with fail
            refine hrg.mono ?_
            rintro e w12 ⟨v12, l12, rfl, ho12, hp12, -, hb12⟩
            obtain ⟨a12, c12, rfl⟩ := ho12.slen
            have hl12 : l12.length = 0 := by rw [hp12.length_eq]; rfl
            rw [hl12]
            have n1 : w12.cell? ⟨w10.heap.size, 1, none⟩ = some (.int .u64 (av : Int)) := by rw [hb12.cell hlt11]; exact m1
            have hsf := safe_any (hG11.rg.below hb12 (Nat.le_refl _)).drv
            have HB : Hid (Below w.heap.size w w12) := hG11.bl.trans (hb12.mono hG11.bl.size)
            clear hrg ho12 hp12 hl12 hG11 m0 m1 m2
            go_wp2_with fail
            refine hsf.mono ?_
            rintro e w13 ⟨rfl, rfl⟩
            go_wp2_with fail
            go_ret
            exact ⟨rfl, HB.out⟩
      | false =>
        go_wp2_with fail
        go_loopw [16] (fun is wr => ∃ (i : Nat) (H : List EN) (d : DC), i ≤ tt + 1 ∧ is = .int .u64 (i : Int) ∧ d.c = i ∧ d.s = N ∧ GW w.heap.size p d w wr H ∧ (i ≤ tt → GM l k tt L H) ∧ (tt < i → H = [])) (fun is _ => tt + 1 - (intOf is).toNat)
        case atStart => exact ⟨0, H, d6, Nat.zero_le _, rfl, hdc6, hd6, hG6, fun _ => hM, fun q => absurd q (by omega)⟩
        case round =>
          obtain ⟨i, H7, d7, hi, rfl, hc7, hd7, hG7, hM7, hE7⟩ := hrel
          clear hG6 hd6 hM hdc6
          by_cases hit : i ≤ tt
          · have hii : (i : Int) ≤ (tt : Int) := by omega
            have hMi := hM7 hit
            have hsz7 := hG7.bl.size
            have hl7 := hMi.len
            have hLb7 := hMi.L_le
            have hne7 : L < 1152921504606846976 → 0 < H7.length := fun q => by
              rcases hMi.at_ with ⟨_, r⟩ | ⟨e, he, _⟩
              · omega
              · exact List.length_pos_of_mem he
            have hdo : ∀ W, GW w.heap.size p d7 w W H7 → Calls Tryz.prog 7 #[.pointer (some ⟨p, 0, none⟩), .agg (pcA (pc0 3 0 0 0 0))] W fun e w' => e = .returned (prA 0 ((d7.c + 1 : Nat) : Int) 0) ∧ ∃ x H', Tu w.heap.size p { d7 with c := d7.c + 1 } W w' x H' ∧ H'.Perm (stayE (d7.c + 1) H7) := fun W hW => dtick (by rw [hc7]; omega) (by omega) hW.rg hW.hp
            have HN : Hid (∀ W x1 H1 w1, GW w.heap.size p d7 w W H7 → Tu w.heap.size p { d7 with c := d7.c + 1 } W w1 x1 H1 → H1.Perm (stayE (d7.c + 1) H7) → ∃ d', d'.c = i + 1 ∧ d'.s = N ∧ GW w.heap.size p d' w w1 H1 ∧ (i + 1 ≤ tt → GM l k tt L H1) ∧ (tt < i + 1 → H1 = [])) := fun W x1 H1 w1 hW hT hp1 => by
              refine ⟨{ ({ d7 with c := d7.c + 1 } : DC) with ev := x1 }, by show d7.c + 1 = _; rw [hc7], hd7, hW.next (d' := { d7 with c := d7.c + 1 }) rfl hW.bl.size hT, fun q => ?_, fun q => ?_⟩
              · rw [stay_all (fun e he => by have := (hMi.un e he).1; omega)] at hp1
                exact hMi.perm hp1
              · rw [stay_none (fun e he => by have := (hMi.un e he).1; omega)] at hp1
                exact List.Perm.eq_nil hp1
            have HG7 : Hid _ := hG7
            have hrg := registered_any (by omega) hG7.rg
            clear hM7 hE7 hMi hc7 hd7
            by_cases hLL : L < 1152921504606846976
            · have hLi : (L : Int) < 1152921504606846976 := by omega
              have hn7 := hne7 hLL
              clear hne7 hG7
              go_wp2_with fail
              refine hrg.mono ?_
              rintro e w8 ⟨v8, l8, rfl, ho8, hp8, -, hb8⟩
              obtain ⟨a8, c8, rfl⟩ := ho8.slen
              have hl8 : l8.length = H7.length := by rw [hp8.length_eq, List.length_map]
              have hG8 : GW w.heap.size p d7 w w8 H7 := ⟨HG7.out.rg.below hb8 (Nat.le_refl _), HG7.out.hp, HG7.out.bl.trans (hb8.mono HG7.out.bl.size)⟩
              have hq8 : ((l8.length : Int) == 0) = false := by rw [beq_eq_false_iff_ne]; omega
              have hq9 : ¬ l8.length = 0 := by omega
              have hdo8 := hdo w8 hG8
              generalize l8.length = n8 at *
              clear hrg ho8 hp8 hl8 hdo
              go_wp2_with fail
              refine hdo8.mono ?_
              rintro e w9 ⟨rfl, x9, H9, hT9, hp9⟩
              obtain ⟨d9, q1, q2, hG9, q3, q4⟩ := HN.out _ _ _ _ hG8 hT9 hp9
              have HQ : Hid _ := And.intro q3 q4
              clear hT9 hp9 hdo8 q3 q4 HN hG8
              go_wp2_with fail
              exact ⟨⟨i + 1, H9, d9, by omega, by go_num, q1, q2, hG9, HQ.out.1, HQ.out.2⟩, by simp [intOf]; omega⟩
            · have hLi : ¬ (L : Int) < 1152921504606846976 := by omega
              have hdo8 := hdo wr hG7
              clear hne7 hG7 hrg hdo
              go_wp2_with fail
              refine hdo8.mono ?_
              rintro e w9 ⟨rfl, x9, H9, hT9, hp9⟩
              obtain ⟨d9, q1, q2, hG9, q3, q4⟩ := HN.out _ _ _ _ HG7.out hT9 hp9
              have HQ : Hid _ := And.intro q3 q4
              clear hT9 hp9 hdo8 q3 q4 HN
              go_wp2_with fail
              exact ⟨⟨i + 1, H9, d9, by omega, by go_num, q1, q2, hG9, HQ.out.1, HQ.out.2⟩, by simp [intOf]; omega⟩
          · have hii : ¬ (i : Int) ≤ (tt : Int) := by omega
            have hH7 : H7 = [] := hE7 (by omega)
            subst hH7
            have hd9 : d7.s ≤ av := by omega
            have hG9 := hG7
            generalize d7 = d9 at *
            generalize wr = W9 at *
            clear hG7 hd7 hc7 hM7 hE7
            have hsz9 := hG9.bl.size
            have hra : Calls Tryz.prog 7 #[.pointer (some ⟨p, 0, none⟩), .agg (pcA (pc0 8 0 av 0 0))] W9 fun e w' => e = .returned (prA 0 (av : Int) 0) ∧ Rg w.heap.size p { d9 with s := av } w' [] ∧ Chg (fun b => b = p) W9 w' := by
              have hq := draise av (by omega) (by omega) (fun e he => (by cases he)) (by simp) hG9.rg
              have e1 : max d9.s (lsF av []) = av := by show max d9.s av = av; omega
              rw [e1] at hq
              exact hq
            go_wp2_with fail
            refine hra.mono ?_
            rintro e w10 ⟨rfl, hr10, hc10⟩
            have hG10 := hG9.raise hsz9 hr10 hc10
            have hsz10 := hG10.bl.size
            simp only [prA]
            go_upto_region 31 with fail
            have hn10 := heap_new w10 (.cells #[.int .i64 0, .int .u64 (av : Int), .int .i64 0] 29)
            have hG11 := hG10.al hsz10 (.cells #[.int .i64 0, .int .u64 (av : Int), .int .i64 0] 29)
            generalize World.alloc w10 _ = w11 at *
            obtain ⟨m0, m1, m2, _⟩ := cells3 hn10
            have hrg := registered_any (by simp) hG11.rg
            have hlt11 := (Array.getElem?_eq_some_iff.1 hn10).1
            clear hra hr10 hc10 hG10 hG9 hn10
            go_wp2_with fail
            refine hrg.mono ?_
            rintro e w12 ⟨v12, l12, rfl, ho12, hp12, -, hb12⟩
            obtain ⟨a12, c12, rfl⟩ := ho12.slen
            have hl12 : l12.length = 0 := by rw [hp12.length_eq]; rfl
            rw [hl12]
            have n1 : w12.cell? ⟨w10.heap.size, 1, none⟩ = some (.int .u64 (av : Int)) := by rw [hb12.cell hlt11]; exact m1
            have hsf := safe_any (hG11.rg.below hb12 (Nat.le_refl _)).drv
            have HB : Hid (Below w.heap.size w w12) := hG11.bl.trans (hb12.mono hG11.bl.size)
            clear hrg ho12 hp12 hl12 hG11 m0 m1 m2
            go_wp2_with fail
            refine hsf.mono ?_
            rintro e w13 ⟨rfl, rfl⟩
            go_wp2_with fail
            go_ret
            exact ⟨rfl, HB.out⟩
end Go.Proofs.YtefhinopppdjbaaGreat
