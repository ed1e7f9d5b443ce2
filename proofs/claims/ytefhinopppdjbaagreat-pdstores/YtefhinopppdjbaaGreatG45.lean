/- Do by its kinds: numbers, clock, registered ones, the safepoint; what every statement begins with. -/
import Derived.Test.YtefhinopppdjbaaGreatG15
import Derived.Test.YtefhinopppdjbaaGreatG44
namespace Go.Proofs.YtefhinopppdjbaaGreat
open Go.RowKit
set_option linter.unusedVariables false
set_option linter.unusedSimpArgs false
set_option maxRecDepth 100000

theorem chg_of_bl {S : Nat → Prop} {w w1 w2 : World} (hb : Below w.heap.size w w1) (h : Chg S w1 w2) : Chg S w w2 := (chg_bl hb).trans (h.mono (fun b _ q => .inl q))
section
variable {B p : Nat} {d : DC} {w w' : World} {H : List EN}
theorem dgive (n : Nat) (h : Drv p d w) (hB : B ≤ p) (h1 : 1 ≤ n) (h2 : n ≤ 1000) (h3 : d.g + n < 18446744073709551616) :
    Calls Tryz.prog 7 #[.pointer (some ⟨p, 0, none⟩), .agg (pcA (pc0 1 n 0 0 0))] w fun e w' => e = .returned (prA 0 ((d.g + 1 : Nat) : Int) 0) ∧ Drv p { d with g := d.g + n } w' ∧ Chg (fun b => b = p) w w' := by
  have := do_any (pc0 1 n 0 0 0) 1 17 rfl (by decide) (by decide) rfl (enters_of Tryz.func17 (by kernel_rfl) rfl) (p := p) (B := B) (w := w) (P := fun er m st w' => er = 0 ∧ m = ((d.g + 1 : Nat) : Int) ∧ st = 0 ∧ Drv p { d with g := d.g + n } w' ∧ Chg (fun b => b = p) w w')
    (fun W hb => (give_ok (pc0 1 n 0 0 0) (h.belowN hb (Nat.le_refl _)) h1 h2 h3).mono (fun e w' q => ⟨_, _, _, q.1, ⟨rfl, rfl, rfl, q.2.1, chg_of_bl hb q.2.2⟩, (h.belowN hb (Nat.le_refl _)).ik hB q.2.2⟩))
    (fun er m st w1 w2 q hbx hc => ⟨q.1, q.2.1, q.2.2.1, q.2.2.2.1.next hc (by have := h.lt; show ¬ p = _; omega), q.2.2.2.2.trans (hc.mono (fun b _ q => .inr (by omega)))⟩)
  refine this.mono ?_
  rintro e w' ⟨er, m, st, rfl, ⟨rfl, rfl, rfl, q1, q2⟩, _⟩
  exact ⟨rfl, q1, q2⟩
theorem Tu.later {w1 w2 : World} {x : Option Addr × Nat × Nat} {H' : List EN} {c : PC} {xx : Nat} (hT : Tu B p d w w1 x H') (hp : p < w.heap.size) (hb : Bxd c xx (w.heap.size + 1) w1) (hc : Chg (fun b => b = w.heap.size + 1) w1 w2) : Tu B p d w w2 x H' :=
  ⟨hT.rg.kept hc (by show ¬ p = _; omega) (fun b q1 q2 => (hT.rg.ner hb q1).1 q2), hT.hp, hT.ch.trans (hc.mono (fun b _ q => .inr (by omega))), hT.bl⟩
theorem dregok (T U : UInt64) (ttl : Nat) (hU : U.toNat = d.c + ttl) (h0 : T.toNat ≠ 0) (h1 : 1 ≤ ttl) (h2 : ttl ≤ 1048576) (h3 : d.s < T.toNat) (h : Rg B p d w H) (hH : M.Hp elt H H.length) (hN : Ndp H) (hl : H.length < 256) :
    Calls Tryz.prog 7 #[.pointer (some ⟨p, 0, none⟩), .agg (pcA (pc0 6 0 T.toNat ttl 0))] w fun e w' => e = .returned (prA 0 0 0) ∧ ∃ x H', Tu B p d w w' x H' ∧ H'.Perm (regE T U H) := by
  have := do_any (pc0 6 0 T.toNat ttl 0) 6 22 rfl (by decide) (by decide) rfl (enters_of Tryz.func22 (by kernel_rfl) rfl) (p := p) (B := B) (w := w) (P := fun er m st w' => er = 0 ∧ m = 0 ∧ st = 0 ∧ ∃ x H', Tu B p d w w' x H' ∧ H'.Perm (regE T U H))
    (fun W hb => (register_ok (pc0 6 0 T.toNat ttl 0) T U rfl hU h0 h1 h2 h3 (h.below hb (Nat.le_refl _)) hH hN hl).mono (fun e w' q => by
      obtain ⟨rfl, x, H', hT, hp⟩ := q
      exact ⟨_, _, _, rfl, ⟨rfl, rfl, rfl, x, H', Tu.after hb hT, hp⟩, (h.below hb (Nat.le_refl _)).ik hT.ch⟩))
    (fun er m st w1 w2 q hbx hc => by
      obtain ⟨q1, q2, q3, x, H', hT, hp⟩ := q
      exact ⟨q1, q2, q3, x, H', hT.later h.drv.lt hbx hc, hp⟩)
  refine this.mono ?_
  rintro e w' ⟨er, m, st, rfl, ⟨rfl, rfl, rfl, q1⟩, _⟩
  exact ⟨rfl, q1⟩
theorem dregarg (ts ttl : Nat) (hbad : ts = 0 ∨ ttl < 1 ∨ 1048576 < ttl) (h : Rg B p d w H) (hH : M.Hp elt H H.length) :
    Calls Tryz.prog 7 #[.pointer (some ⟨p, 0, none⟩), .agg (pcA (pc0 6 0 ts ttl 0))] w fun e w' => e = .returned (prA 1 0 0) ∧ Tu B p d w w' d.ev H := by
  have := do_any (pc0 6 0 ts ttl 0) 6 22 rfl (by decide) (by decide) rfl (enters_of Tryz.func22 (by kernel_rfl) rfl) (p := p) (B := B) (w := w) (P := fun er m st w' => er = 1 ∧ m = 0 ∧ st = 0 ∧ Tu B p d w w' d.ev H)
    (fun W hb => (register_arg (pc0 6 0 ts ttl 0) hbad W).mono (fun e w' q => ⟨_, _, _, q.1, ⟨rfl, rfl, rfl, Tu.after hb (Tu.ofBelow (h.below hb (Nat.le_refl _)) hH q.2)⟩, Ik.of_below q.2 (Nat.le_refl _)⟩))
    (fun er m st w1 w2 q hbx hc => ⟨q.1, q.2.1, q.2.2.1, q.2.2.2.later h.drv.lt hbx hc⟩)
  refine this.mono ?_
  rintro e w' ⟨er, m, st, rfl, ⟨rfl, rfl, rfl, q1⟩, _⟩
  exact ⟨rfl, q1⟩
theorem drelease (T : UInt64) (h : Rg B p d w H) (hH : M.Hp elt H H.length) (hN : Ndp H) (hl : H.length ≤ 1099511627776) :
    Calls Tryz.prog 7 #[.pointer (some ⟨p, 0, none⟩), .agg (pcA (pc0 7 0 T.toNat 0 0))] w fun e w' => e = .returned (prA 0 0 0) ∧ ∃ x H', Tu B p d w w' x H' ∧ H'.Perm (outE T H) := by
  have := do_any (pc0 7 0 T.toNat 0 0) 7 23 rfl (by decide) (by decide) rfl (enters_of Tryz.func23 (by kernel_rfl) rfl) (p := p) (B := B) (w := w) (P := fun er m st w' => er = 0 ∧ m = 0 ∧ st = 0 ∧ ∃ x H', Tu B p d w w' x H' ∧ H'.Perm (outE T H))
    (fun W hb => (release_any (pc0 7 0 T.toNat 0 0) T rfl (h.below hb (Nat.le_refl _)) hH hN hl).mono (fun e w' q => by
      obtain ⟨rfl, x, H', hT, hp⟩ := q
      exact ⟨_, _, _, rfl, ⟨rfl, rfl, rfl, x, H', Tu.after hb hT, hp⟩, (h.below hb (Nat.le_refl _)).ik hT.ch⟩))
    (fun er m st w1 w2 q hbx hc => by
      obtain ⟨q1, q2, q3, x, H', hT, hp⟩ := q
      exact ⟨q1, q2, q3, x, H', hT.later h.drv.lt hbx hc, hp⟩)
  refine this.mono ?_
  rintro e w' ⟨er, m, st, rfl, ⟨rfl, rfl, rfl, q1⟩, _⟩
  exact ⟨rfl, q1⟩
/-- The row stands in a driver whose other cells have turned. -/
theorem Rg.other {d' : DC} (h : Rg B p d w H) (he : d'.ev = d.ev) (hd : Drv p d' w') (hc : Chg (fun b => b = p) w w') : Rg B p d' w' H :=
  ⟨hd, by rw [he]; exact ownsRow_keptC h.row hc (fun b q1 q2 => h.ne (by rw [q1]; exact congrArg some q2)), h.lo⟩
theorem draise (ts : Nat) (hts : ts < 18446744073709551616) (hs : d.s < 18446744073709551616) (hpos : ∀ e ∈ H, 1 ≤ e.1.toNat) (hl : H.length ≤ 1099511627776) (h : Rg B p d w H) :
    Calls Tryz.prog 7 #[.pointer (some ⟨p, 0, none⟩), .agg (pcA (pc0 8 0 ts 0 0))] w fun e w' => e = .returned (prA 0 ((max d.s (lsF ts H) : Nat) : Int) 0) ∧ Rg B p { d with s := max d.s (lsF ts H) } w' H ∧ Chg (fun b => b = p) w w' := by
  have := do_any (pc0 8 0 ts 0 0) 8 24 rfl (by decide) (by decide) rfl (enters_of Tryz.func24 (by kernel_rfl) rfl) (p := p) (B := B) (w := w) (P := fun er m st w' => er = 0 ∧ m = ((max d.s (lsF ts H) : Nat) : Int) ∧ st = 0 ∧ Drv p { d with s := max d.s (lsF ts H) } w' ∧ Chg (fun b => b = p) w w')
    (fun W hb => (raise_any (pc0 8 0 ts 0 0) hts hs hpos hl (h.below hb (Nat.le_refl _))).mono (fun e w' q => ⟨_, _, _, q.1, ⟨rfl, rfl, rfl, q.2.1, chg_of_bl hb q.2.2⟩, (h.below hb (Nat.le_refl _)).drv.ik h.lo q.2.2⟩))
    (fun er m st w1 w2 q hbx hc => ⟨q.1, q.2.1, q.2.2.1, q.2.2.2.1.next hc (by have := h.drv.lt; show ¬ p = _; omega), q.2.2.2.2.trans (hc.mono (fun b _ q => .inr (by omega)))⟩)
  refine this.mono ?_
  rintro e w' ⟨er, m, st, rfl, ⟨rfl, rfl, rfl, q1, q2⟩, _⟩
  exact ⟨rfl, h.other rfl q1 q2, q2⟩
theorem dtick (hcl : d.c + 1 < 18446744073709551616) (hl : H.length ≤ 1099511627776) (h : Rg B p d w H) (hH : M.Hp elt H H.length) :
    Calls Tryz.prog 7 #[.pointer (some ⟨p, 0, none⟩), .agg (pcA (pc0 3 0 0 0 0))] w fun e w' => e = .returned (prA 0 ((d.c + 1 : Nat) : Int) 0) ∧ ∃ x H', Tu B p { d with c := d.c + 1 } w w' x H' ∧ H'.Perm (stayE (d.c + 1) H) := by
  have hpl := h.drv.lt
  have key : ∀ W, Below w.heap.size w W → Calls Tryz.prog 19 #[.pointer (some ⟨p, 0, none⟩), .agg (pcA (pc0 3 0 0 0 0))] W fun e w' => e = .returned (prA 0 ((d.c + 1 : Nat) : Int) 0) ∧ ∃ v, Drv p { d with c := d.c + 1, ev := v } w' ∧ (∃ H', Tu B p { d with c := d.c + 1 } W w' v H' ∧ H'.Perm (stayE (d.c + 1) H)) ∧ Ik B W w' := fun W hb => by
    have hW := h.below hb (Nat.le_refl _)
    refine tick_any (pc0 3 0 0 0 0) hW.drv h.lo hcl (P := fun v w' => (∃ H', Tu B p { d with c := d.c + 1 } W w' v H' ∧ H'.Perm (stayE (d.c + 1) H))) (fun W1 hd1 hc1 => ?_) (fun v w1 w2 q hbx hc => ?_)
    · have hW1 : Rg B p { d with c := d.c + 1 } W1 H := hW.other rfl hd1 hc1
      refine (expire_any hW1 hH hl).mono ?_
      rintro e w' ⟨hu, x, H', hT, hp⟩
      refine ⟨hu, x, hT.rg.drv, ⟨H', ⟨hT.rg, hT.hp, (hc1.mono (fun b _ q => Or.inl q)).trans (hT.ch.mono (fun b _ q => .inl q)), ?_⟩, hp⟩, hW1.ik hT.ch⟩
      rcases hT.bl with q | ⟨b, q1, q2⟩
      · exact .inl q
      · exact .inr ⟨b, q1, Nat.le_trans hc1.size q2⟩
    · obtain ⟨H', hT, hp⟩ := q
      exact ⟨H', hT.later hW.drv.lt hbx hc, hp⟩
  have := do_any (pc0 3 0 0 0 0) 3 19 rfl (by decide) (by decide) rfl (enters_of Tryz.func19 (by kernel_rfl) rfl) (p := p) (B := B) (w := w) (P := fun er m st w' => er = 0 ∧ m = ((d.c + 1 : Nat) : Int) ∧ st = 0 ∧ ∃ x H', Tu B p { d with c := d.c + 1 } w w' x H' ∧ H'.Perm (stayE (d.c + 1) H))
    (fun W hb => (key W hb).mono (fun e w' q => by
      obtain ⟨rfl, v, _, ⟨H', hT, hp⟩, hi⟩ := q
      exact ⟨_, _, _, rfl, ⟨rfl, rfl, rfl, v, H', Tu.after hb hT, hp⟩, hi⟩))
    (fun er m st w1 w2 q hbx hc => by
      obtain ⟨q1, q2, q3, x, H', hT, hp⟩ := q
      exact ⟨q1, q2, q3, x, H', hT.later h.drv.lt hbx hc, hp⟩)
  refine this.mono ?_
  rintro e w' ⟨er, m, st, rfl, ⟨rfl, rfl, rfl, q1⟩, _⟩
  exact ⟨rfl, q1⟩
end
set_option maxHeartbeats 1000000 in
theorem pdawake_any (w : World) : Calls Tryz.prog 5 #[] w fun e w' => e = .returned (.bool true) ∧ Below w.heap.size w w' := by
  have hnew := pnew_any 100 (by omega) (by omega) w
  go_enter Tryz.func5, Tryz.ntmps5
  go_wp2_with fail
  refine hnew.mono ?_
  rintro e w1 ⟨rfl, hd, -, -, -, hb1⟩
  have h1 : Calls Tryz.prog 7 #[.pointer (some ⟨w.heap.size + 3, 0, none⟩), .agg (pcA (pc0 1 3 0 0 0))] w1 fun e w' => e = .returned (prA 0 100 0) ∧ Drv (w.heap.size + 3) ⟨102, 0, 0, 0, w.heap.size, (none, 0, 0), (none, 0, 0), w.heap.size + 1, w.heap.size + 2⟩ w' ∧ Chg (fun b => b = w.heap.size + 3) w1 w' := dgive (B := 0) 3 hd (Nat.zero_le _) (by omega) (by omega) (by show 100 - 1 + 3 < _; omega)
  go_wp2_with fail
  refine h1.mono ?_
  rintro e w2 ⟨rfl, hd2, hc2⟩
  simp only [prA]
  go_upto_region 5 with fail
  have ha := heap_new w2 (.cells #[.int .i64 0, .int .u64 100, .int .i64 0] 29)
  have hba : Below w2.heap.size w2 (w2.alloc (.cells #[.int .i64 0, .int .u64 100, .int .i64 0] 29)) := (Below.refl _ _).alloc (Nat.le_refl _) _
  generalize World.alloc w2 _ = w3 at *
  have hd3 := hd2.belowN hba (Nat.le_refl _)
  have h2 : Calls Tryz.prog 7 #[.pointer (some ⟨w.heap.size + 3, 0, none⟩), .agg (pcA (pc0 1 1 0 0 0))] w3 fun e w' => e = .returned (prA 0 103 0) ∧ Drv (w.heap.size + 3) ⟨103, 0, 0, 0, w.heap.size, (none, 0, 0), (none, 0, 0), w.heap.size + 1, w.heap.size + 2⟩ w' ∧ Chg (fun b => b = w.heap.size + 3) w3 w' := dgive (B := 0) 1 hd3 (Nat.zero_le _) (by omega) (by omega) (by show 102 + 1 < _; omega)
  go_wp2_with fail
  refine h2.mono ?_
  rintro e w4 ⟨rfl, hd4, hc4⟩
  simp only [prA]
  have hl2 := hd2.lt
  have hl4 := hc4.size
  have hl3 := hba.size
  have ha4 : w4.heap[w2.heap.size]? = some (.cells #[.int .i64 0, .int .u64 100, .int .i64 0] 29 (0, 0)) := by
    rw [hc4.block _ (Array.getElem?_eq_some_iff.1 ha).1 (by show ¬ _ = w.heap.size + 3; omega)]; exact ha
  obtain ⟨k0, k1, k2, _⟩ := cells3 ha4
  have hlt := (Array.getElem?_eq_some_iff.1 ha4).1
  have hne : w2.heap.size ≠ w4.heap.size := by omega
  have hB4 : Below w.heap.size w w4 := ((hb1.trans (Chg.below hc2 (fun b q => by have q' : b = w.heap.size + 3 := q; omega) hb1.size)).trans (hba.mono (by omega))).trans (Chg.below hc4 (fun b q => by have q' : b = w.heap.size + 3 := q; omega) (by omega))
  clear hc4 hc2 hd2 hd3 hd4 ha ha4 h1 h2 hnew hd
  go_wp2_with fail
  go_ret
  exact ⟨rfl, hB4.alloc (by omega) _⟩
end Go.Proofs.YtefhinopppdjbaaGreat
