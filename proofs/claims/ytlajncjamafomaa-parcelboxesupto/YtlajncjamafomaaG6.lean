/- What the Lender's Back answers where nothing was written: true; and all that was lent is written over. -/
import Derived.Test.YtlajncjamafomaaG5
namespace Go.Proofs.Ytlajncjamafomaa
open Go.RowKit
set_option linter.unusedVariables false
set_option maxRecDepth 100000

theorem lent_length (l : List UInt8) : (lent l).length = l.length + 16 := by simp [lent]
theorem lent_out (l : List UInt8) (k : Nat) (hk : k < l.length + 16) (h : k < 8 ∨ 8 + l.length ≤ k) : (lent l).getD k 0 = 165 := by
  unfold lent
  rw [List.getD_eq_getElem?_getD, List.append_assoc]
  rcases h with h | h
  · rw [List.getElem?_append_left (by simpa using h), List.getElem?_replicate, if_pos h]; rfl
  · rw [List.getElem?_append_right (by simp; omega), List.getElem?_append_right (by simp; omega)]
    simp only [List.length_replicate]
    rw [List.getElem?_replicate, if_pos (by omega)]; rfl
theorem lent_in (l : List UInt8) (k : Nat) (h : 8 ≤ k) (hk : k < 8 + l.length) : (lent l).getD k 0 = l[k - 8] := by
  unfold lent
  rw [List.getD_eq_getElem?_getD, List.append_assoc, List.getElem?_append_right (by simpa using h), List.getElem?_append_left (by simp; omega)]
  simp [show k - 8 < l.length by omega]

/-- What is left to be looked at. -/
structure BSt (w : World) (b g : Nat) (l : List UInt8) (k : Nat) (wr : World) : Prop where
  blk : ∃ L, L.length = l.length + 16 ∧ Blk wr g L ∧ ∀ j, k ≤ j → j < l.length + 16 → L.getD j 0 = (lent l).getD j 0
  c0 : wr.cell? ⟨b, 0, none⟩ = some (.slice (some ⟨g, 0, none⟩) (l.length + 16) (l.length + 16))
  gr : w.grownBy wr (some g)

theorem BSt.put {w : World} {b g : Nat} {l : List UInt8} {k : Nat} {wr : World} (h : BSt w b g l k wr) (hne : b ≠ g) (x : Nat) (hx : x < 256) :
    BSt w b g l (k + 1) ((wr.setCell ⟨g, k, none⟩ (.int .u8 (bits BinOp.xor IntKind.u8 (if IntKind.u8.signed = true then -1 else IntKind.u8.max) (x : Int)))).drew) := by
  obtain ⟨L, h1, h2, h3⟩ := h.blk
  have e : bits BinOp.xor IntKind.u8 (if IntKind.u8.signed = true then -1 else IntKind.u8.max) (x : Int) = ((UInt8.ofNat (255 ^^^ x)).toNat : Int) := by
    rw [show (if IntKind.u8.signed = true then (-1 : Int) else IntKind.u8.max) = ((255 : Nat) : Int) from rfl, u8_xor_nat _ _ (by decide) hx, M.u8_ofNat]
    have : 255 ^^^ x < 2 ^ 8 := Nat.xor_lt_two_pow (n := 8) (by decide) (by omega)
    omega
  have hg : wr.grownBy (wr.setCell ⟨g, k, none⟩ (.int .u8 (bits BinOp.xor IntKind.u8 (if IntKind.u8.signed = true then -1 else IntKind.u8.max) (x : Int)))).drew (some g) := by
    have := grown_set wr g k (.int .u8 (bits BinOp.xor IntKind.u8 (if IntKind.u8.signed = true then -1 else IntKind.u8.max) (x : Int)))
    exact ⟨this.os, this.tape, this.output, this.size, this.block⟩
  refine ⟨⟨L.set k (UInt8.ofNat (255 ^^^ x)), by simpa using h1, h2.set k _ _ e, fun j hj hj' => ?_⟩, ?_, grown_tr h.gr hg⟩
  · rw [List.getD_eq_getElem?_getD, List.getElem?_set_ne (by omega), ← List.getD_eq_getElem?_getD]
    exact h3 j (by omega) hj'
  · show (wr.setCell _ _).cell? _ = _
    rw [World.cell?_setCell_other _ _ _ _ (by intro e; exact hne (congrArg Addr.block e).symm)]; exact h.c0

set_option maxHeartbeats 1000000 in
theorem back_any {B b g : Nat} {v : Value} {l : List UInt8} {w : World} (hr : RdB B w v l) (hl : l.length ≤ 140737488355000) (hBg : B ≤ g) (hne : b ≠ g)
    (hbl : Blk w g (lent l)) (h0 : w.cell? ⟨b, 0, none⟩ = some (.slice (some ⟨g, 0, none⟩) (l.length + 16) (l.length + 16))) (h1 : w.cell? ⟨b, 1, none⟩ = some (.int .i64 l.length)) :
    Calls Try.prog 12 #[.pointer (some ⟨b, 0, none⟩), v] w fun e w' => e = .returned (.bool true) ∧ w.grownBy w' (some g) := by
  have hgw := hbl.lt
  have hrw := hr w (Below.refl _ _)
  obtain ⟨ao, c, rfl, h2, h3, _, _⟩ := hrw
  unfold maxLen at h3
  have hs0 : BSt w b g l 0 w := ⟨⟨lent l, lent_length l, hbl, fun _ _ _ => rfl⟩, h0, World.grownBy.refl _ _⟩
  have HS : Hid _ := hs0
  clear hs0 hbl
  go_enter Try.func12, Try.ntmps12
  go_wp2
  go_loopw [5, 6, 7] (fun ok i _ wr => ∃ k : Nat, k ≤ l.length + 16 ∧ i = .int .i64 k ∧ ok = .bool true ∧ BSt w b g l k wr) (fun _ i _ _ => l.length + 16 - (intOf i).toNat)
  case atStart => exact ⟨0, Nat.zero_le _, rfl, rfl, HS.out⟩
  case round =>
    obtain ⟨k, hk, rfl, rfl, hst⟩ := hrel
    clear HS h0 h1
    have q0 := hst.c0
    by_cases hlt : k < l.length + 16
    · obtain ⟨L, hL, hB, hg⟩ := hst.blk
      have qk := hB.cell k (by omega)
      have pk := hB.frozen k
      have hgk := hg k (Nat.le_refl _) hlt
      have eL : L.getD k 0 = L[k] := by simp [show k < L.length by omega]
      rw [eL] at hgk
      have HP : Hid (∀ x : Nat, x < 256 → _) := fun x hx => hst.put hne x hx
      have HG : Hid _ := hst.gr
      have hx := L[k].toNat_lt
      clear hg eL hst hB
      by_cases hin : 8 ≤ k ∧ k < 8 + l.length
      · have hv : L[k] = l[k - 8] := by rw [hgk]; exact lent_in l k hin.1 hin.2
        rw [hv] at qk
        rw [hv] at hx
        clear hgk hv
        obtain ⟨hi8, hi9⟩ := hin
        have hgb : Below B w wr := grown_below HG.out hBg (by omega)
        obtain ⟨ao', c', ev, _, _, _, g4⟩ := hr wr hgb
        simp only [Value.slice.injEq, true_and] at ev
        obtain ⟨rfl, rfl⟩ := ev
        obtain ⟨a, rfl, hc⟩ := g4 (k - 8) (by omega)
        clear g4 hgb hr
        have heq : (((l[k - 8]'(by omega)).toNat : Int) == ((l[k - 8]'(by omega)).toNat : Int)) = true := by simp
        go_wp2
        go_region
        all_goals go_wp2
        all_goals exact ⟨⟨k + 1, by omega, by go_num, rfl, HP.out _ hx⟩, by simp [intOf]; omega⟩
      · have hv : L[k] = 165 := by rw [hgk]; exact lent_out l k hlt (by omega)
        rw [hv] at qk
        have qk' : wr.cell? ⟨g, k, none⟩ = some (.int .u8 165) := qk
        clear hgk hv hx qk
        by_cases h8 : k < 8
        · clear hin
          go_wp2
          go_region
          all_goals go_wp2
          all_goals exact ⟨⟨k + 1, by omega, by go_num, rfl, HP.out 165 (by decide)⟩, by simp [intOf]; omega⟩
        · have h8' : ¬ k < 8 + l.length := by omega
          clear hin
          go_wp2
          go_region
          all_goals go_wp2
          all_goals exact ⟨⟨k + 1, by omega, by go_num, rfl, HP.out 165 (by decide)⟩, by simp [intOf]; omega⟩
    · go_wp2
      go_ret
      exact ⟨rfl, hst.gr⟩

theorem lent_mid (l : List UInt8) : ((lent l).drop 8).take l.length = l := by
  unfold lent
  rw [List.append_assoc, List.drop_left' (by simp), List.take_left' rfl]

theorem Ow.kept {B g : Nat} {w w' : World} {v : Value} {l : List UInt8} (h : Ow B w v l) (hg : w.grownBy w' (some g)) (hB : g < B) : Ow B w' v l := by
  refine World.ownsRow.kept h hg ?_
  by_cases e : v.ownBlock = none
  · exact .inl e
  · refine .inr fun e2 => ?_
    have := (World.ownsRow.lt h g e2).1
    omega

theorem RdB.of {w w' : World} {v : Value} {l : List UInt8} (h : Rd w v l) (hb : Below w.heap.size w w') : RdB w.heap.size w' v l := fun w'' h' => h.below (hb.trans h') (Nat.le_refl _)
theorem RdB.next {B : Nat} {w w' : World} {v : Value} {l : List UInt8} (h : RdB B w v l) (hb : Below B w w') : RdB B w' v l := fun w'' h' => h w'' (hb.trans h')
theorem RdB.now {B : Nat} {w : World} {v : Value} {l : List UInt8} (h : RdB B w v l) : Rd w v l := h w (Below.refl _ _)

/-- The Lender in block b has lent l out of block g. -/
structure Lst (b g : Nat) (l : List UInt8) (w : World) : Prop where
  lt : b < g
  blk : Blk w g (lent l)
  c0 : w.cell? ⟨b, 0, none⟩ = some (.slice (some ⟨g, 0, none⟩) (l.length + 16) (l.length + 16))
  c1 : w.cell? ⟨b, 1, none⟩ = some (.int .i64 l.length)

theorem Lst.next {b g : Nat} {l : List UInt8} {w w' : World} (h : Lst b g l w) (hb : Below w.heap.size w w') : Lst b g l w' := by
  have h1 := h.blk.lt
  have h2 := h.lt
  refine ⟨h.lt, h.blk.grown (below_grown hb none) (by simp), ?_, ?_⟩
  · rw [hb.cell (by show b < _; omega)]; exact h.c0
  · rw [hb.cell (by show b < _; omega)]; exact h.c1

/-- Lend, of a new Lender. -/
theorem lend_new {B : Nat} {v : Value} {l : List UInt8} {w : World} (hr : RdB B w v l) (hl : l.length ≤ 140737488355000) (hB : B ≤ w.heap.size) (t : TypeId) :
    Calls Try.prog 10 #[.pointer (some ⟨w.heap.size, 0, none⟩), v] (w.alloc (.cells #[.slice none 0 0, .int .i64 0] t)) fun e w' =>
      ∃ p, e = .returned p ∧ Rd w' p l ∧ Lst w.heap.size (w.heap.size + 1) l w' ∧ Below w.heap.size w w' := by
  have c0 : (w.alloc (.cells #[.slice none 0 0, .int .i64 0] t)).cell? ⟨w.heap.size, 0, none⟩ = some (.slice none 0 0) := by rw [World.cell?_alloc_at _ _ _ _ rfl]; rfl
  have c1 : (w.alloc (.cells #[.slice none 0 0, .int .i64 0] t)).cell? ⟨w.heap.size, 1, none⟩ = some (.int .i64 0) := by rw [World.cell?_alloc_at _ _ _ _ rfl]; rfl
  have f0 : (w.alloc (.cells #[.slice none 0 0, .int .i64 0] t)).frozen? ⟨w.heap.size, 0, none⟩ = false := World.frozen?_alloc_at _ _ _ _ rfl
  have f1 : (w.alloc (.cells #[.slice none 0 0, .int .i64 0] t)).frozen? ⟨w.heap.size, 1, none⟩ = false := World.frozen?_alloc_at _ _ _ _ rfl
  have hal : Below w.heap.size w (w.alloc (.cells #[.slice none 0 0, .int .i64 0] t)) := (Below.refl _ _).alloc (Nat.le_refl _) _
  refine (lend_any (B := B) (hr.next (hal.mono hB)) hl hB c0 c1 f0 f1).mono ?_
  have es : (w.alloc (.cells #[.slice none 0 0, .int .i64 0] t)).heap.size = w.heap.size + 1 := by simp
  rw [es]
  rintro e w' ⟨rfl, hbl, d0, d1, _, _, hg⟩
  refine ⟨_, rfl, ?_, ⟨by omega, hbl, d0, d1⟩, hal.trans (grown_below hg (Nat.le_refl _) (by simp))⟩
  have := hbl.rd 8 l.length (l.length + 8) (by rw [lent_length]; omega) (by omega) (by unfold maxLen; omega)
  rw [lent_mid] at this
  exact this

/-- Back, of what was lent. -/
theorem back_new {B b g : Nat} {v : Value} {l : List UInt8} {w : World} (hs : Lst b g l w) (hr : RdB B w v l) (hl : l.length ≤ 140737488355000) (hB : B ≤ b) :
    Calls Try.prog 12 #[.pointer (some ⟨b, 0, none⟩), v] w fun e w' => e = .returned (.bool true) ∧ w.grownBy w' (some g) ∧ Below B w w' := by
  have h1 := hs.lt
  have h2 := hs.blk.lt
  refine (back_any hr hl (by omega) (by omega) hs.blk hs.c0 hs.c1).mono ?_
  rintro e w' ⟨rfl, hg⟩
  exact ⟨rfl, hg, grown_below hg (by omega) (by omega)⟩
end Go.Proofs.Ytlajncjamafomaa
