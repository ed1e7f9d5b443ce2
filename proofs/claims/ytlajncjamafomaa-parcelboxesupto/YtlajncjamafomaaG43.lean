/- The two boxes side by side: what each call of a round leaves. -/
import Derived.Test.YtlajncjamafomaaG42
import Derived.Test.YtlajncjamafomaaG35
import Derived.Test.YtlajncjamafomaaG34
import Derived.Test.YtlajncjamafomaaG32
import Derived.Test.YtlajncjamafomaaG4
import Derived.Test.YtlajncjamafomaaG6
namespace Go.Proofs.Ytlajncjamafomaa
open Go.RowKit Go.Maps
set_option linter.unusedVariables false
set_option maxRecDepth 100000

theorem Lst.chg {S : Nat → Prop} {b g : Nat} {l : List UInt8} {w w' : World} (h : Lst b g l w) (hc : Chg S w w') (hb : ¬ S b) (hg : ¬ S g) : Lst b g l w' := by
  have h1 := h.blk.lt
  have h2 := h.lt
  have e1 : w'.heap[g]? = w.heap[g]? := hc.block g h1 hg
  have e2 : w'.heap[b]? = w.heap[b]? := hc.block b (by omega) hb
  refine ⟨h.lt, ?_, ?_, ?_⟩
  · unfold Blk; rw [e1]; exact h.blk
  · rw [World.cell?_of_block (w := w) e2]; exact h.c0
  · rw [World.cell?_of_block (w := w) e2]; exact h.c1
theorem BxT.keptT {T : Nat → Prop} {B C d s n k : Nat} {ps : List (Nat × List UInt8)} {w w' : World} {g : Nat} {cs : Array Value} {t : TypeId} {fr : Nat × Nat} (h : BxT T B C d s n k ps w) (hg : w.heap[g]? = some (.cells cs t fr)) (ht : t ≠ 5) (hC : C ≤ g) (hc : Chg (fun b => b = g) w w') : BxT T B C d s n k ps w' := by
  obtain ⟨m, D, fv, h, q⟩ := h
  have := h.hi
  exact ⟨m, D, fv, h.next hc (by omega) (by omega) (fun i l e b e2 q => ow_ne (h.el i l e) hg ht b e2 q), q⟩
theorem bxPut_len (s n k : Nat) (ps : List (Nat × List UInt8)) (r : Pc × Nat) : (bxPut s n k ps r).1.2.length ≤ ps.length + 1 := by
  unfold bxPut
  split
  · simp
  · split
    · simp only []
      rw [putP_len]
      split <;> omega
    · simp
theorem Rb.lt {T : Nat → Prop} {E x s n k : Nat} {ps : List (Nat × List UInt8)} {w : World} (h : Rb T E x s n k ps w) : x < w.heap.size ∧ E ≤ x := by
  obtain ⟨pv, us, h⟩ := h
  exact ⟨h.lt, h.lo⟩

/-- Between two rounds: the same parts in both boxes; nothing of what was there is turned. -/
structure M3 (w : World) (B C d x s n k : Nat) (ps : List (Nat × List UInt8)) (W : World) : Prop where
  bx : Bx B C d s n k ps W
  rb : Rb (fun _ => True) C x s n k ps W
  lo : w.heap.size ≤ B ∧ B ≤ C
  bel : Below w.heap.size w W
/-- While a piece is lent: the program's box has it, the document's may have it. -/
structure M2 (w : World) (B C d x s n k : Nat) (ps : List (Nat × List UInt8)) (k' : Nat) (ps' : List (Nat × List UInt8)) (F : Nat) (l : List UInt8) (W : World) : Prop where
  bx : BxT (fun b => b ≠ F + 1) B C d s n k ps W
  rb : Rb (fun b => b ≠ F + 1) C x s n k' ps' W
  ls : Lst F (F + 1) l W
  lo : w.heap.size ≤ B ∧ B ≤ C ∧ C ≤ F ∧ x < F
  bel : Below w.heap.size w W
section
variable {w W W' : World} {B C d x s n k k' : Nat} {ps ps' : List (Nat × List UInt8)} {F : Nat} {l : List UInt8} {u : Value}
theorem M3.below (h : M3 w B C d x s n k ps W) (hb : Below W.heap.size W W') : M3 w B C d x s n k ps W' :=
  ⟨h.bx.below hb (Nat.le_refl _), h.rb.below hb (Nat.le_refl _), h.lo, h.bel.trans (hb.mono h.bel.size)⟩
theorem M2.dN (h : M2 w B C d x s n k ps k' ps' F l W) (j : Nat) : M2 w B C d x s n k ps k' ps' F l (W.drewN j) :=
  ⟨h.bx.below (Below.dN _ _) (Nat.le_refl _), h.rb.below (Below.dN _ _) (Nat.le_refl _), h.ls.next (Below.dN _ _), h.lo, below_drewN h.bel j⟩
/-- A piece is lent, and put into the program's box. -/
theorem m_put (h : M3 w B C d x s n k ps W) (hb : Below W.heap.size W W') (hls : Lst W.heap.size (W.heap.size + 1) l W') {p : Value} (hp : Rd W' p l) (hl : l.length ≤ 1048576) (hN : ps.length ≤ 1048576) :
    Calls Try.prog 19 #[.pointer (some ⟨d, 0, none⟩), p] W' fun e w2 => e = .returned (.int .i64 ((bxPut s n k ps (pkR l)).2 : Int)) ∧ M2 w B C d x s n (bxPut s n k ps (pkR l)).1.1 (bxPut s n k ps (pkR l)).1.2 k ps W.heap.size l w2 := by
  have hbT : BxT (fun b => b ≠ W.heap.size + 1) B C d s n k ps W := h.bx.any.mono (fun b hb _ => by omega)
  have hrT : Rb (fun b => b ≠ W.heap.size + 1) C x s n k ps W := h.rb.mono (fun b hb _ => by omega)
  have hcw := hbT.cw
  have hx := h.rb.lt
  have hlo := h.lo
  have hg := hls.blk.lt
  refine (put_anyT (hbT.below hb (Nat.le_refl _)) hp (by omega) (by omega)).mono ?_
  rintro e w2 ⟨rfl, h2, hc⟩
  have hbw := h.bel.trans (hb.mono h.bel.size)
  refine ⟨rfl, h2.mono (fun b _ q => by rcases q with q | q <;> omega), (hrT.below hb (Nat.le_refl _)).next hc (fun b q1 _ q2 => by omega), hls.chg hc (by omega) (by omega), ⟨hlo.1, hlo.2, hcw, hx.1⟩, hbw.trans (hc.below (fun b q => by omega) hbw.size)⟩
/-- The document's box. -/
theorem m_rput (h : M2 w B C d x s n k' ps' k ps F l W) (hu : Rd w u l) (hl : l.length ≤ 1048576) (hN : ps.length ≤ 1048576) :
    Calls Try.prog 20 #[.pointer (some ⟨x, 0, none⟩), u] W fun e w2 => e = .returned (.int .i64 ((bxPut s n k ps (pkR l)).2 : Int)) ∧ M2 w B C d x s n k' ps' (bxPut s n k ps (pkR l)).1.1 (bxPut s n k ps (pkR l)).1.2 F l w2 := by
  have hlo := h.lo
  have hg := h.ls.blk.lt
  have hE : C ≤ W.heap.size := by omega
  have hx := h.rb.lt
  obtain ⟨pv, us, hI⟩ := id h.rb
  refine (rput_any h.rb hE (fun b q => by omega) (hu.below h.bel (Nat.le_refl _)) (by omega) (by omega)).mono ?_
  rintro e w2 ⟨rfl, h2, hc⟩
  exact ⟨rfl, h.bx.keptT hI.cell (by decide) hx.2 hc, h2, h.ls.chg hc (by omega) (by omega), hlo, h.bel.trans (hc.below (fun b q => by omega) h.bel.size)⟩
/-- The piece comes back. -/
theorem m_back (h : M2 w B C d x s n k ps k ps F l W) (hu : Rd w u l) (hl : l.length ≤ 1048576) :
    Calls Try.prog 12 #[.pointer (some ⟨F, 0, none⟩), u] W fun e w2 => e = .returned (.bool true) ∧ M3 w B C d x s n k ps w2 := by
  have hlo := h.lo
  refine (back_new (B := w.heap.size) h.ls (RdB.of hu h.bel) (by omega) (by omega)).mono ?_
  rintro e w2 ⟨rfl, hg, hb⟩
  have hc : Chg (fun b => b = F + 1) W w2 := Chg.of_grown hg (fun b e _ => (Option.some.inj e).symm)
  refine ⟨rfl, (h.bx.next hc (fun b q e => by omega) (fun b _ q e => q e)).bx, (h.rb.turn h.ls.blk (fun q => q rfl) hc).any, ⟨hlo.1, hlo.2.1⟩, h.bel.trans hb⟩
/-- Both tell what is missing. -/
theorem m_miss (h : M3 w B C d x s n k ps W) (hN : ps.length ≤ 1048576) :
    Calls Try.prog 22 #[.pointer (some ⟨d, 0, none⟩)] W fun e w2 => ∃ v, e = .returned v ∧ M3 w B C d x s n k ps w2 ∧ Rj w2 v (msP ps k) := by
  refine (missing_any h.bx (by omega)).mono ?_
  rintro e w2 ⟨v, rfl, ho, hb⟩
  exact ⟨v, rfl, h.below hb, ho.rj⟩
theorem m_rmiss {v1 : Value} {r : List Int} (h : M3 w B C d x s n k ps W ∧ Rj W v1 r) (hN : ps.length ≤ 1048576) :
    Calls Try.prog 23 #[.pointer (some ⟨x, 0, none⟩)] W fun e w2 => ∃ v, e = .returned v ∧ M3 w B C d x s n k ps w2 ∧ Rj w2 v1 r ∧ Rj w2 v (msP ps k) := by
  refine (rmissing_any h.1.rb (by omega)).mono ?_
  rintro e w2 ⟨v, rfl, ho, hb⟩
  exact ⟨v, rfl, h.1.below hb, h.2.below hb (Nat.le_refl _), ho.rj⟩
theorem m_same {v1 v2 : Value} {r : List Int} (h : M3 w B C d x s n k ps W ∧ Rj W v1 r ∧ Rj W v2 r) :
    Calls Try.prog 21 #[v1, v2] W fun e w2 => e = .returned (.bool true) ∧ M3 w B C d x s n k ps w2 := by
  refine (sameJ_any h.2.1 h.2.2).mono ?_
  rintro e w2 ⟨rfl, j, rfl⟩
  exact ⟨by simp, h.1.below (Below.dN _ _)⟩
theorem M3.cell (h : M3 w B C d x s n k ps W) {a : Addr} {u : Value} (hc : w.cell? a = some u) : W.cell? a = some u := by
  rw [h.bel.cell (World.block_lt_of_cell? w _ hc)]; exact hc
theorem M2.cell (h : M2 w B C d x s n k ps k' ps' F l W) {a : Addr} {u : Value} (hc : w.cell? a = some u) : W.cell? a = some u := by
  rw [h.bel.cell (World.block_lt_of_cell? w _ hc)]; exact hc
theorem Ow.cellZ {B g n c : Nat} {w : World} {l : List UInt8} (h : Ow B w (.slice (some ⟨g, 0, none⟩) n c) l) {i : Nat} (hi : i < l.length) : w.cell? ⟨g, i, none⟩ = some (.int .u8 (l[i].toNat : Int)) ∧ w.frozen? ⟨g, i, none⟩ = false := by
  have h' := h
  rcases h.2 with ⟨q, _⟩ | ⟨g', cap, cur, q, hg, hh, hn, hcap, hsz, htake⟩
  · cases q
  · simp only [Value.slice.injEq, Option.some.injEq, Addr.mk.injEq, and_true] at q
    obtain ⟨rfl, rfl, rfl⟩ := q
    unfold Ow at h'
    refine ⟨?_, frozen_of_row _ _ _ _ _ hh⟩
    rw [h'.cellAt i (by omega), cel_get l i hi]
end
end Go.Proofs.Ytlajncjamafomaa
