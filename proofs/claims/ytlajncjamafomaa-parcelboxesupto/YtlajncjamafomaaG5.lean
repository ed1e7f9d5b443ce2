/- What the Lender's two methods do: Lend hands out a copy with marked room round it; Back answers true where nothing was written, and writes all of it over. -/
import Derived.Test.YtlajncjamafomaaG1
import Derived.Lib.SliceRun
import Derived.Laws.CopyOwn
namespace Go.Proofs.Ytlajncjamafomaa
open Go.RowKit
set_option linter.unusedVariables false
set_option maxRecDepth 100000

/-- Block g is just these bytes. -/
def Blk (w : World) (g : Nat) (L : List UInt8) : Prop := w.heap[g]? = some (.cells (cel L).toArray 5 (0, 0))

theorem Blk.cell {w : World} {g : Nat} {L : List UInt8} (h : Blk w g L) (i : Nat) (hi : i < L.length) : w.cell? ⟨g, i, none⟩ = some (.int .u8 (L[i].toNat : Int)) := by
  rw [cell_of_row _ _ _ _ _ _ h]
  simp [cel, hi]
theorem Blk.frozen {w : World} {g : Nat} {L : List UInt8} (h : Blk w g L) (i : Nat) : w.frozen? ⟨g, i, none⟩ = false := frozen_of_row w g i _ _ h
theorem Blk.lt {w : World} {g : Nat} {L : List UInt8} (h : Blk w g L) : g < w.heap.size := (Array.getElem?_eq_some_iff.1 h).1
theorem Blk.grown {w w' : World} {g : Nat} {L : List UInt8} {r : Option Nat} (h : Blk w g L) (hg : w.grownBy w' r) (hr : some g ≠ r) : Blk w' g L := by
  unfold Blk; rw [hg.block g h.lt hr]; exact h
theorem Blk.set {w : World} {g : Nat} {L : List UInt8} (h : Blk w g L) (i : Nat) (b : UInt8) (z : Int) (hz : z = (b.toNat : Int)) : Blk (w.setCell ⟨g, i, none⟩ (.int .u8 z)) g (L.set i b) := by
  subst hz
  have := heap_setCell_same w g i _ _ (.int .u8 (b.toNat : Int)) h
  unfold Blk; rw [this]
  simp [cel, List.map_set]
theorem Blk.rd {w : World} {g : Nat} {L : List UInt8} (h : Blk w g L) (off n c : Nat) (h1 : off + n ≤ L.length) (h2 : n ≤ c) (h3 : c ≤ maxLen) : Rd w (.slice (some ⟨g, off, none⟩) n c) ((L.drop off).take n) := by
  have hl : ((L.drop off).take n).length = n := by simp; omega
  refine Rd.mk hl.symm (by omega) h3 (fun i hi => ?_)
  rw [Addr.add_lit, h.cell (off + i) (by omega)]
  simp
theorem Blk.of_own {B : Nat} {w : World} {g n : Nat} {l : List UInt8} (h : Ow B w (.slice (some ⟨g, 0, none⟩) n n) l) : Blk w g l := by
  obtain ⟨_, h2⟩ := h
  rcases h2 with ⟨hv, _⟩ | ⟨g', cap, cur, hv, _, hh, hn, _, hsz, htake⟩
  · cases hv
  · simp only [Value.slice.injEq, Option.some.injEq, Addr.mk.injEq, and_true] at hv
    obtain ⟨rfl, rfl, rfl⟩ := hv
    unfold Blk; rw [hh]
    have : cur.toList = cel l := by
      rw [← htake, List.take_of_length_le (by simp; omega)]
    rw [← this]

/-- v reads as l in every world that is as w below B. -/
def RdB (B : Nat) (w : World) (v : Value) (l : List UInt8) : Prop := ∀ w', Below B w w' → Rd w' v l

theorem grown_set (w : World) (g i : Nat) (u : Value) : w.grownBy (w.setCell ⟨g, i, none⟩ u) (some g) :=
  ⟨rfl, rfl, rfl, by simp, fun k _ hk => heap_setCell_other w ⟨g, i, none⟩ k u (fun e => hk (by simp [e]))⟩
theorem grown_tr {w w' w'' : World} {r : Option Nat} (h : w.grownBy w' r) (k : w'.grownBy w'' r) : w.grownBy w'' r :=
  ⟨k.os.trans h.os, k.tape.trans h.tape, k.output.trans h.output, Nat.le_trans h.size k.size, fun b hb hr => (k.block b (Nat.lt_of_lt_of_le hb h.size) hr).trans (h.block b hb hr)⟩
theorem grown_new {w w' w'' : World} {r : Option Nat} {g : Nat} (h : w.grownBy w' r) (k : w'.grownBy w'' (some g)) (hg : w.heap.size ≤ g) : w.grownBy w'' r :=
  ⟨k.os.trans h.os, k.tape.trans h.tape, k.output.trans h.output, Nat.le_trans h.size k.size, fun b hb hr => (k.block b (Nat.lt_of_lt_of_le hb h.size) (by simp; omega)).trans (h.block b hb hr)⟩
theorem grown_any {w w' : World} (h : w.grownBy w' none) (r : Option Nat) : w.grownBy w' r := ⟨h.os, h.tape, h.output, h.size, fun b hb _ => h.block b hb (by simp)⟩
theorem grown_below {B : Nat} {w w' : World} {g : Nat} (h : w.grownBy w' (some g)) (hB : B ≤ g) (hB' : B ≤ w.heap.size) : Below B w w' := (Below.refl B w).grown h hB' (fun k e => by cases e; exact hB)
theorem below_grown {w w' : World} (h : Below w.heap.size w w') (r : Option Nat) : w.grownBy w' r := ⟨h.os, h.tape, h.output, h.size, fun b hb _ => h.block b hb⟩

/-- Bytes with the marked room round them. -/
def lent (l : List UInt8) : List UInt8 := List.replicate 8 165 ++ l ++ List.replicate 8 165
theorem lent_splice (l : List UInt8) : splice (cel (List.replicate (l.length + 16) 165)) 8 (cel l) = cel (lent l) := by
  unfold splice lent
  have e : ∀ n, cel (List.replicate n (165 : UInt8)) = List.replicate n (.int .u8 165) := fun n => by simp [cel]
  rw [cel_append, cel_append, e, e, cel_length, List.take_replicate, List.drop_replicate, show min 8 (l.length + 16) = 8 by omega, show l.length + 16 - (8 + l.length) = 8 by omega, List.append_assoc]

/-- What the Lender's own cells hold while it works. -/
structure LSt (w : World) (b g : Nat) (S y : Value) (L : List UInt8) (wr : World) : Prop where
  blk : Blk wr g L
  c0 : wr.cell? ⟨b, 0, none⟩ = some S
  c1 : wr.cell? ⟨b, 1, none⟩ = some y
  f0 : wr.frozen? ⟨b, 0, none⟩ = false
  f1 : wr.frozen? ⟨b, 1, none⟩ = false
  gr : w.grownBy wr (some b)

theorem LSt.put {w : World} {b g : Nat} {S y : Value} {L : List UInt8} {wr : World} (h : LSt w b g S y L wr) (hne : b ≠ g) (hg : w.heap.size ≤ g) (i : Nat) (x : UInt8) (z : Int) (hz : z = (x.toNat : Int)) :
    LSt w b g S y (L.set i x) (wr.setCell ⟨g, i, none⟩ (.int .u8 z)) := by
  have hne' : g ≠ b := fun e => hne e.symm
  refine ⟨h.blk.set i x z hz, ?_, ?_, ?_, ?_, grown_new h.gr (grown_set _ _ _ _) hg⟩
  · rw [World.cell?_setCell_other _ _ _ _ (by intro e; exact hne' (congrArg Addr.block e))]; exact h.c0
  · rw [World.cell?_setCell_other _ _ _ _ (by intro e; exact hne' (congrArg Addr.block e))]; exact h.c1
  · rw [World.frozen?_setCell]; exact h.f0
  · rw [World.frozen?_setCell]; exact h.f1

set_option maxHeartbeats 400000 in
theorem lend_any {B b : Nat} {v : Value} {l : List UInt8} {w : World} {x y : Value} (hr : RdB B w v l) (hl : l.length ≤ 140737488355000) (hB : B ≤ b)
    (hx : w.cell? ⟨b, 0, none⟩ = some x) (hy : w.cell? ⟨b, 1, none⟩ = some y) (fx : w.frozen? ⟨b, 0, none⟩ = false) (fy : w.frozen? ⟨b, 1, none⟩ = false) :
    Calls Try.prog 10 #[.pointer (some ⟨b, 0, none⟩), v] w fun e w' => e = .returned (.slice (some ⟨w.heap.size, 8, none⟩) l.length (l.length + 8)) ∧
      Blk w' w.heap.size (lent l) ∧ w'.cell? ⟨b, 0, none⟩ = some (.slice (some ⟨w.heap.size, 0, none⟩) (l.length + 16) (l.length + 16)) ∧ w'.cell? ⟨b, 1, none⟩ = some (.int .i64 l.length) ∧
      w'.frozen? ⟨b, 0, none⟩ = false ∧ w'.frozen? ⟨b, 1, none⟩ = false ∧ w.grownBy w' (some b) := by
  obtain ⟨i, hi, hz0, hz1, hz2⟩ := info_parts Try.info5
  have hbw := World.block_lt_of_cell? w _ hx
  have hrw := hr w (Below.refl _ _)
  obtain ⟨ao, c, rfl, h1, h2, _, _⟩ := hrw
  unfold maxLen at h2
  go_enter Try.func10, Try.ntmps10
  go_wp2_with (first | (at_make; refine wpList_make_full _ rfl _ _ 22 rfl w.heap.size 5 i _ 1 Try.underlying22 hi hz0 hz1 _ _ _ _ (l.length + 16) rfl rfl (by omega) (by omega) (by rw [hz2]; omega) (by unfold maxLen; omega) (Nat.le_refl _) ?_; intro w1 hown hgr; have hx1 := World.grownBy.cell hgr hx (by simp); have hy1 := World.grownBy.cell hgr hy (by simp); have fx1 := (World.frozen?_of_block (a := ⟨b, 0, none⟩) (hgr.block b hbw (by simp))).trans fx; have fy1 := (World.frozen?_of_block (a := ⟨b, 1, none⟩) (hgr.block b hbw (by simp))).trans fy) | fail)
  have hbl : Blk w1 w.heap.size (List.replicate (l.length + 16) 0) := by
    refine Blk.of_own (B := w.heap.size) (n := l.length + 16) ?_
    unfold Ow
    rw [List.length_replicate]
    have e : (madeCells (Value.int IntKind.u8 0).cells ((l.length + 16) * 1)).toList = cel (List.replicate (l.length + 16) 0) := by
      rw [show (Value.int IntKind.u8 0).cells = #[Value.int IntKind.u8 0] from rfl, toList_madeCells_one]
      simp [cel]
    rw [← e]; exact hown
  have hne : b ≠ w.heap.size := by omega
  have h0 : LSt w b w.heap.size (.slice (some ⟨w.heap.size, 0, none⟩) (l.length + 16) (l.length + 16)) y (List.replicate (l.length + 16) 0) (w1.setCell ⟨b, 0, none⟩ (.slice (some ⟨w.heap.size, 0, none⟩) (l.length + 16) (l.length + 16))) := by
    refine ⟨hbl.grown (grown_set _ _ _ _) (by simp; omega), World.cell?_setCell_same _ _ _ hx1, ?_, ?_, ?_, grown_tr (grown_any hgr _) (grown_set _ _ _ _)⟩
    · rw [World.cell?_setCell_other _ _ _ _ (by simp)]; exact hy1
    · rw [World.frozen?_setCell]; exact fx1
    · rw [World.frozen?_setCell]; exact fy1
  clear hx1 hy1 fx1 fy1 hown hbl hx hy fx fy
  go_loopw [5] (fun i wr => ∃ k : Nat, k ≤ l.length + 16 ∧ i = .int .i64 k ∧ LSt w b w.heap.size (.slice (some ⟨w.heap.size, 0, none⟩) (l.length + 16) (l.length + 16)) y (List.replicate k 165 ++ List.replicate (l.length + 16 - k) 0) wr) (fun i _ => l.length + 16 - (intOf i).toNat)
  case atStart => exact ⟨0, Nat.zero_le _, rfl, by simpa using h0⟩
  case round =>
    obtain ⟨k, hk, rfl, hst⟩ := hrel
    clear h0
    have q0 := hst.c0
    have q1 := hst.c1
    have p0 := hst.f0
    have p1 := hst.f1
    by_cases hlt : k < l.length + 16
    · have qk := hst.blk.cell k (by simp; omega)
      have pk := hst.blk.frozen k
      have hput := hst.put hne (Nat.le_refl _) k 165 165 rfl
      have e : (List.replicate k (165 : UInt8) ++ List.replicate (l.length + 16 - k) 0).set k 165 = List.replicate (k + 1) 165 ++ List.replicate (l.length + 16 - (k + 1)) 0 := by
        rw [show l.length + 16 - k = l.length + 16 - (k + 1) + 1 by omega, List.replicate_succ, List.set_append_right _ _ (by simp), List.length_replicate, Nat.sub_self, List.set_cons_zero, List.replicate_succ']
        simp
      rw [e] at hput
      have HP : Hid _ := hput
      clear hput hst e
      go_wp2
      exact ⟨⟨k + 1, by omega, by go_num, HP.out⟩, by simp [intOf]; omega⟩
    · obtain rfl : k = l.length + 16 := by omega
      rw [Nat.sub_self, List.replicate_zero, List.append_nil] at hst
      have h5 : LSt w b w.heap.size (.slice (some ⟨w.heap.size, 0, none⟩) (l.length + 16) (l.length + 16)) (.int .i64 l.length) (List.replicate (l.length + 16) 165) (wr.setCell ⟨b, 1, none⟩ (.int .i64 l.length)) := by
        refine ⟨hst.blk.grown (grown_set _ _ _ _) (by simp; omega), ?_, World.cell?_setCell_same _ _ _ q1, ?_, ?_, grown_tr hst.gr (grown_set _ _ _ _)⟩
        · rw [World.cell?_setCell_other _ _ _ _ (by simp)]; exact q0
        · rw [World.frozen?_setCell]; exact p0
        · rw [World.frozen?_setCell]; exact p1
      have hr5 := hr _ (grown_below h5.gr hB (by omega))
      obtain ⟨ao', c', ev, g1, g2, g3, g4⟩ := hr5
      simp only [Value.slice.injEq, true_and] at ev
      obtain ⟨rfl, rfl⟩ := ev
      have hcs : 0 < (cel l).length → (some (⟨w.heap.size, 8, none⟩ : Addr)) = some ⟨w.heap.size, 8, none⟩ ∧ ∃ ad, ao = some ad ∧ ∀ j v, (cel l)[j]? = some v → (wr.setCell ⟨b, 1, none⟩ (.int .i64 l.length)).cell? (ad.add j) = some v := by
        intro h0
        rw [cel_length] at h0
        obtain ⟨a, rfl, _⟩ := g4 0 h0
        refine ⟨rfl, a, rfl, fun j v hj => ?_⟩
        have hjl : j < l.length := by have := (List.getElem?_eq_some_iff.1 hj).1; simpa [cel_length] using this
        obtain ⟨a', e, hc⟩ := g4 j hjl
        obtain rfl := Option.some.inj e
        rw [hc]; rw [cel_get l j hjl] at hj; exact hj
      have HC : Hid _ := hcs
      have H5 : Hid _ := h5
      clear hcs h5 hst g4 hr
      go_wp2_with (first | (refine wpList_copy_splice rfl _ _ _ _ rfl 5 Try.underlying22 (by kernel_rfl) _ _ _ _ _ _ rfl rfl w.heap.size 8 (cel (List.replicate (l.length + 16) 165)) 5 H5.out.blk (cel l) ?hn HC.out ?hf (cel_one l) w.heap.size _ (Below.refl _ _) (Nat.le_refl _) ?_; rotate_right; intro w6 hg6 hb6; have e0 := (hb6.cell (p := ⟨b, 0, none⟩) hbw).trans H5.out.c0) | fail)
      case hn => simp [cel_length]
      case hf => simp [cel_length]; omega
      go_ret
      refine ⟨rfl, ?_, e0, (hb6.cell (p := ⟨b, 1, none⟩) hbw).trans H5.out.c1, (hb6.frozen (p := ⟨b, 0, none⟩) hbw).trans H5.out.f0, (hb6.frozen (p := ⟨b, 1, none⟩) hbw).trans H5.out.f1, ?_⟩
      · have := hg6.out
        rw [lent_splice] at this
        exact this
      · have hg := H5.out.gr
        exact ⟨hb6.os.trans hg.os, hb6.tape.trans hg.tape, hb6.output.trans hg.output, Nat.le_trans hg.size hb6.size, fun k hk hr => (hb6.block k hk).trans (hg.block k hk hr)⟩
end Go.Proofs.Ytlajncjamafomaa
