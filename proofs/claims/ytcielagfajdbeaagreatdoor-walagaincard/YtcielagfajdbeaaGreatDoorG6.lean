/- A log without its first segments. -/
import Derived.Test.YtcielagfajdbeaaGreatDoorG5
import Derived.Test.YtcielagfajdbeaaGreatDoorG4
import Derived.RangeFuncNested
import Derived.RangeFuncBound
import Derived.RangeFuncCalls
import Derived.RangeFuncLeaves
import Derived.RangeFuncFrom
import Derived.Shelf.Abstract
import Derived.OwnWalkIn
import Derived.TacticsInMore
import Derived.LoopNIn
import Derived.LoopIn
import Derived.Deep.RegionHeld3
import Derived.Test.YtcielagfajdbeaaGreatDoorG3
namespace Go.Proofs.YtcielagfajdbeaaGreatDoor
open Go.RowKit
set_option linter.unusedVariables false
set_option maxRecDepth 100000

/-- The blocks behind that: what held a segment's records that is gone is data now. -/
def cutRole (k : Nat) : LRole → LRole
  | .recs i => if i < k then .data else .recs (i - k)
  | r => r
def ownCut (own : Nat → Option LRole) (k : Nat) : Nat → Option LRole := fun b => (own b).map (cutRole k)
theorem ownCut_ne (own : Nat → Option LRole) (k b : Nat) : ownCut own k b ≠ none ↔ own b ≠ none := by
  unfold ownCut
  cases own b <;> simp
theorem delete_none {w : World} {g c n : Nat} (hc : n ≤ c) (hl : c ≤ maxLen) :
    Calls Tryz.prog 59 #[.slice (some ⟨g, 0, none⟩) n c, .int .i64 0, .int .i64 0] w fun e w' => e = .returned (.slice (some ⟨g, 0, none⟩) n c) ∧ ∃ q, w' = w.drewN q := by
  unfold maxLen at hl
  go_enter Tryz.func59, Tryz.ntmps59
  go_wp2_with fail
  go_ret
  exact ⟨rfl, 0, rfl⟩
theorem delete_any {w : World} {B g c n n1 k : Nat} {P : List (Sg × Value)} (h : w.ownsRow B 80 3 (.slice (some ⟨g, 0, none⟩) n c) P.length (sgCs P)) (hn : P.length = n) (hl : n ≤ 1048576) (hs : ∀ x ∈ P, ∃ b m k, x.2 = .slice b m k) (hk : k < n) (hn1 : n = n1 + k) :
    Calls Tryz.prog 59 #[.slice (some ⟨g, 0, none⟩) n c, .int .i64 0, .int .i64 (k : Int)] w fun e w' => e = .returned (.slice (some ⟨g, 0, none⟩) n1 c) ∧ w'.ownsRow B 80 3 (.slice (some ⟨g, 0, none⟩) n1 c) (P.drop k).length (sgCs (P.drop k)) ∧ Chg (fun b => b = g) w w' := by
  rcases Nat.eq_zero_or_pos k with q | q
  · subst q
    obtain rfl : n1 = n := by omega
    obtain ⟨a, c', ev, h1, h2, _, _⟩ := row_reads h
    simp only [Value.slice.injEq] at ev
    refine (delete_none (by omega) (by rw [ev.2.2]; exact h2)).mono ?_
    rintro e w' ⟨rfl, m, rfl⟩
    exact ⟨rfl, by rw [List.drop_zero]; exact ownsRow_keptC h ((Chg.of_below (Below.dN w m)).mono (S' := fun _ => False) (fun b hb q => by omega)) (fun b _ q => q), (Chg.of_below (Below.dN w m)).mono (fun b hb q => by omega)⟩
  · exact delete_first h hn hl hs q hk hn1
section
variable {B l d size : Nat} {nm : ByteArray} {over : Bool} {sv : Value} {P : List (Sg × Value)} {U : Nat → List Value} {own : Nat → Option LRole} {w w' : World}
theorem LgI.slices (h : LgI B l d size nm over sv P U own w) : ∀ x ∈ P, ∃ b m k, x.2 = .slice b m k := fun x hx => by
  obtain ⟨i, hi⟩ := List.mem_iff_getElem?.1 hx
  rcases (h.recs i x hi).1.2 with ⟨q, _⟩ | ⟨g, cap, cur, q, _⟩
  · exact ⟨_, _, _, q⟩
  · exact ⟨_, _, _, q⟩
theorem LgI.cutSegs (h : LgI B l d size nm over sv P U own w) {k : Nat} {w5 : World} {sv' : Value} {g : Nat} (hv : sv.ownBlock = some g) (hv' : sv'.ownBlock = some g) (hc5 : Chg (fun b => b = g) w w5) (hrow : w5.ownsRow B 80 3 sv' (P.drop k).length (sgCs (P.drop k))) :
    LgI B l d size nm over sv' (P.drop k) (fun i => U (i + k)) (ownCut own k) (w5.setCell ⟨l, 3, none⟩ sv') ∧ Chg (fun b => own b ≠ none) w (w5.setCell ⟨l, 3, none⟩ sv') := by
  have hll := (h.lo l (by rw [h.ol]; simp)).2
  have hog := h.os g hv
  have neg : ∀ {b r}, own b = some r → r ≠ .segs → ¬ b = g := fun e q e2 => by rw [e2, hog] at e; exact q (Option.some.inj e).symm
  have nel : ∀ {b r}, own b = some r → r ≠ .log → ¬ b = l := fun e q e2 => by rw [e2, h.ol] at e; exact q (Option.some.inj e).symm
  have hcl : Chg (fun b => b = l) w5 (w5.setCell ⟨l, 3, none⟩ sv') := (Chg.refl (fun b => b = l) w5).put l 3 _ rfl
  have hl5 : w5.heap[l]? = some (.cells #[.pointer (some ⟨d, 0, none⟩), .string nm, .int .i64 (size : Int), sv, .bool over] 71 (0, 0)) := by rw [hc5.block l hll (neg h.ol (by simp))]; exact h.cell
  have old : ∀ (i : Nat) p, (P.drop k)[i]? = some p → P[i + k]? = some p := fun i p e => by rw [List.getElem?_drop] at e; rw [Nat.add_comm]; exact e
  refine ⟨⟨?_, ?_, fun i p e => ?_, fun i p j u r e1 e2 e3 => ?_, ?_, fun b e => ?_, fun i p b e q => ?_, fun i p u b e hu q => ?_, fun b hb => ?_⟩, ?_⟩
  · rw [heap_setCell_same _ _ 3 _ _ _ hl5]; rfl
  · refine ownsRow_keptC hrow hcl (fun b e => ?_)
    rw [hv'] at e
    obtain rfl := Option.some.inj e
    exact nel hog (by simp)
  · have e := old i p e
    exact ⟨ownsRow_keptC (ownsRow_keptC (h.recs _ p e).1 hc5 (fun b q => neg (h.orr _ p b e q) (by simp))) hcl (fun b q => nel (h.orr _ p b e q) (by simp)), (h.recs _ p e).2⟩
  · have e1 := old i p e1
    exact ((h.data _ p j u r e1 e2 e3).keptC hc5 (fun b q => neg (h.od _ p u b e1 (List.mem_of_getElem? e2) q) (by simp))).keptC hcl (fun b q => nel (h.od _ p u b e1 (List.mem_of_getElem? e2) q) (by simp))
  · simp [ownCut, h.ol, cutRole]
  · rw [hv'] at e
    obtain rfl := Option.some.inj e
    simp [ownCut, hog, cutRole]
  · simp [ownCut, h.orr _ p b (old i p e) q, cutRole]
  · simp [ownCut, h.od _ p u b (old i p e) hu q, cutRole]
  · have := h.lo b ((ownCut_ne own k b).1 hb)
    have h1 := hc5.size
    have h2 := hcl.size
    omega
  · exact (hc5.mono (fun b _ q => by rw [q, hog]; simp)).trans (hcl.mono (fun b _ q => .inl (by rw [q, h.ol]; simp)))
set_option maxHeartbeats 2000000 in
/-- What Cut defers: the log without the segments that have gone. -/
theorem gone_any (h : LgI B l d size nm over sv P U own w) (u : FrameMode) {x y k n1 : Nat} (cx : w.cell? ⟨x, 0, none⟩ = some (.pointer (some ⟨l, 0, none⟩))) (cy : w.cell? ⟨y, 0, none⟩ = some (.int .i64 (k : Int))) (hk : k < P.length) (hl : P.length ≤ 1048576) (hn1 : P.length = n1 + k) (hx : own x = none) (hy : own y = none) :
    CallsD Tryz.prog 58 #[.pointer (some ⟨x, 0, none⟩), .pointer (some ⟨y, 0, none⟩)] u w fun r u' w' => u' = u ∧ (∃ v, r = .returned v) ∧ (∃ sv', LgI B l d size nm over sv' (P.drop k) (fun i => U (i + k)) (ownCut own k) w') ∧ Chg (fun b => own b ≠ none) w w' := by
  obtain ⟨p, e⟩ : ∃ p, P[0]? = some p := ⟨_, List.getElem?_eq_getElem (by omega)⟩
  obtain ⟨g, c, ev, h1, h2, s0, s1, s2⟩ := h.seg 0 p e
  clear s1 s2
  have c3 := h.cells.2.2.2.1
  have cf := h.cells.2.2.2.2.2 3
  rw [ev] at c3
  have hrow := h.row
  rw [ev] at hrow
  have hD := fun W (hW : Below w.heap.size w W) => delete_any (n1 := n1) (by have := (h.below hW).row; rw [ev] at this; exact this) rfl hl h.slices hk hn1
  have HH : Hid _ := h
  have hlg : l ≠ g := fun q => by have := h.os g (by rw [ev]; rfl); rw [← q, h.ol] at this; cases this
  have hll := (h.lo l (by rw [h.ol]; simp)).2
  have hxg : ¬ x = g := fun q => by rw [q, h.os g (by rw [ev]; rfl)] at hx; cases hx
  have hyg : ¬ y = g := fun q => by rw [q, h.os g (by rw [ev]; rfl)] at hy; cases hy
  have hmid : ∀ w2, Chg (fun b => b = g) (w.drewN 1) w2 → w2.cell? ⟨x, 0, none⟩ = some (.pointer (some ⟨l, 0, none⟩)) ∧ w2.cell? ⟨l, 3, none⟩ = some (.slice (some ⟨g, 0, none⟩) P.length c) ∧ w2.cell? ⟨y, 0, none⟩ = some (.int .i64 (k : Int)) ∧ w2.frozen? ⟨l, 3, none⟩ = false := fun w2 hc => by
    have hb : w2.heap[l]? = some (.cells #[.pointer (some ⟨d, 0, none⟩), .string nm, .int .i64 (size : Int), sv, .bool over] 71 (0, 0)) := by rw [hc.block l hll hlg]; exact h.cell
    refine ⟨?_, ?_, ?_, frozen_of_row _ _ _ _ _ hb⟩
    · rw [World.cell?_of_block (hc.block x (World.block_lt_of_cell? _ _ cx) hxg)]; exact cx
    · rw [cell_of_row _ _ _ _ _ _ hb, ← ev]; rfl
    · rw [World.cell?_of_block (hc.block y (World.block_lt_of_cell? _ _ cy) hyg)]; exact cy
  have HD : Hid _ := hD
  have HM : Hid _ := hmid
  clear h hD hmid hrow hll hxg hyg s0 e h1 h2 hk hl hn1 hx hy hlg
  go_enter_d Tryz.func58, Tryz.ntmps58
  go_wp2_with fail
  go_region_with (first
    | (go_at_call 59; refine (HD.out _ (Below.dN w 1)).mono ?_; rintro e w2 ⟨rfl, hr2, hc2⟩; obtain ⟨y0, y3, yy, yf⟩ := HM.out w2 hc2)
    | fail)
  all_goals go_wp2_with fail
  all_goals go_end0
  all_goals have hc0 : Chg (fun b => b = g) w w2 := ((Chg.of_below (Below.dN w 1)).mono (fun b hb q => by omega)).trans (hc2.mono (fun b _ q => .inl q))
  all_goals obtain ⟨q1, q2⟩ := HH.out.cutSegs (k := k) (g := g) (by rw [ev]; rfl) rfl hc0 hr2
  all_goals exact ⟨⟨_, rfl⟩, ⟨_, q1⟩, q2⟩
end
end Go.Proofs.YtcielagfajdbeaaGreatDoor

/- The log's lay: a frame as the first one of a new segment. -/
namespace Go.Proofs.YtcielagfajdbeaaGreatDoor
open Go.RowKit
set_option linter.unusedVariables false
set_option maxRecDepth 100000

section
variable {B l d size : Nat} {nm : ByteArray} {sv : Value} {P : List (Sg × Value)} {U : Nat → List Value} {own : Nat → Option LRole} {n : Nat} {od : Nat → Option Role} {st : Nm → Option (List UInt8 × Nat)} {sz : Nat} {w w' : World}
/-- What a call of the disk leaves of the log. -/
theorem WI.kept (h : WI B l d size nm sv P U own n od st sz w) {od' : Nat → Option Role} (ho : ∀ b, od' b ≠ none → od b ≠ none ∨ w.heap.size ≤ b) (hc : Chg (fun b => od b ≠ none) w w') : LgI B l d size nm false sv P U own w' ∧ (∀ b, own b ≠ none → od' b = none) ∧ ∀ (x : Nat), x < w.heap.size → od x = none → od' x = none ∧ w'.heap[x]? = w.heap[x]? := by
  refine ⟨h.lg.next hc (fun b hb q => q (h.ap b hb)), fun b hb => ?_, fun x hx ho' => ⟨?_, hc.block x hx (by simp [ho'])⟩⟩
  · by_cases q : od' b = none
    · exact q
    · rcases ho b q with r | r
      · exact absurd (h.ap b hb) r
      · have := (h.lg.lo b hb).2; omega
  · by_cases q : od' x = none
    · exact q
    · rcases ho x q with r | r
      · exact absurd ho' r
      · omega
theorem row_shapeW {w : World} {B : Nat} {e : TypeId} {s n : Nat} {v : Value} {xs : List Value} (h : w.ownsRow B e s v n xs) : ∃ a m c, v = .slice a m c := by
  obtain ⟨a, c, e, _⟩ := row_reads h
  exact ⟨a, _, c, e⟩
theorem cell_one {w : World} {x : Nat} {v : Value} {t : TypeId} (h : w.heap[x]? = some (.cells #[v] t (0, 0))) : w.cell? ⟨x, 0, none⟩ = some v ∧ w.frozen? ⟨x, 0, none⟩ = false := ⟨by simp [World.cell?, h], frozen_of_row _ _ _ _ _ h⟩

set_option maxHeartbeats 2000000 in
theorem lay_new (h : WI B l d size nm sv P U own n od st sz w) (hB : Begins P) {k : Nat} (hk : P.length = k + 1) {p : Sg × Value} (e : P[k]? = some p) (hby : size ≤ (frs p.1.2).length) (hlf : (frs p.1.2).length ≤ 16777216) {fv : Value} {fr : List UInt8} (hr : Rd w fv fr) (hfv : ∀ b, fv.ownBlock = some b → od b = none ∧ b < w.heap.size) (hz : sz + fr.length ≤ 16777216) (hnx : sgNext p.1 < 100) (hfresh : st (fname nm (sgNext p.1)).data.toList = none) (hn : n ≤ 1048576) (hPl : P.length ≤ 1048576) :
    Calls Tryz.prog 38 #[.pointer (some ⟨l, 0, none⟩), fv] w fun r w' => r = .returned (.int .i64 0) ∧ (∃ sv' own' od' s, WX B l d size nm sv' (P ++ [sg0 (sgNext p.1)]) (recSeg U P.length) own' (n + 1) od' (setF (setF st (fname nm p.1.1).data.toList (some (frs p.1.2, s))) (fname nm (sgNext p.1)).data.toList (some (fr, 0))) (sz + fr.length) fr w' ∧ ∀ q, own' q ≠ none → own q ≠ none ∨ w.heap.size ≤ q) ∧ Chg (fun b => own b ≠ none ∨ od b ≠ none) w w' := by
  have e0 := e
  obtain ⟨g, c, ev, h1, h2, s0, s1, _⟩ := h.lg.seg k p e
  have hnb := h.nb k p e
  obtain ⟨sy, hst⟩ := h.fl k p e
  have hls := fname_size nm p.1.1 hnb
  have hls2 := fname_size nm (sgNext p.1) hnx
  have hns := h.ns
  obtain ⟨c0, _, c2, c3, c4, _⟩ := h.lg.cells
  have hlo := (h.lg.lo l (by rw [h.lg.ol]; simp)).2
  have hlB := fun W (hW : Below w.heap.size w W) => h.lg.below hW
  have hlast := fun W (hW : Below w.heap.size w W) => last_any (hlB W hW) ev hk ⟨by omega, h2⟩
  have hfile := fun W (hW : Below w.heap.size w W) => file_any (hlB W hW) p.1.1 hnb hns
  have hsync := fun W (hW : Below w.heap.size w W) => sync_alive (h.below hW).dk (fname nm p.1.1) (by unfold maxLen; omega) _ hst
  have hcl : ∀ W, Below w.heap.size w W → W.cell? ⟨l, 0, none⟩ = some (.pointer (some ⟨d, 0, none⟩)) ∧ W.cell? ⟨g, k * 3, none⟩ = some (.int .u64 (p.1.1 : Int)) ∧ W.cell? ⟨g, k * 3 + 1, none⟩ = some (.int .i64 ((frs p.1.2).length : Int)) ∧ W.cell? ⟨l, 2, none⟩ = some (.int .i64 (size : Int)) := fun W hW => ⟨by rw [hW.cell hlo]; exact c0, by rw [hW.cell (World.block_lt_of_cell? _ _ s0)]; exact s0, by rw [hW.cell (World.block_lt_of_cell? _ _ s1)]; exact s1, by rw [hW.cell hlo]; exact c2⟩
  have hbA : Below w.heap.size w (w.alloc (.cells #[.int .i64 0] 31)) := bel_alW w _
  have hrc : (w.alloc (.cells #[.int .i64 0] 31)).heap[w.heap.size]? = some (.cells #[.int .i64 0] 31 (0, 0)) := heap_alloc_new w _
  have hs1 : (w.alloc (.cells #[.int .i64 0] 31)).heap.size = w.heap.size + 1 := by simp
  have HI : Hid _ := h
  have nd : od w.heap.size = none := by
    by_cases q : od w.heap.size = none
    · exact q
    · have := (h.dk.blo q).2; omega
  -- what is there behind the disk's Sync
  have hmid : ∀ w2 w3 od3, Below (w.alloc (.cells #[.int .i64 0] 31)).heap.size (w.alloc (.cells #[.int .i64 0] 31)) w2 → (∀ b, od3 b ≠ none → od b ≠ none ∨ w2.heap.size ≤ b) → Chg (fun b => od b ≠ none) w2 w3 → Dk B d n od3 (setF st (fname nm p.1.1).data.toList (some (frs p.1.2, (frs p.1.2).length))) sz (alive d) 0 w3 → WI B l d size nm sv P U own n od3 (setF st (fname nm p.1.1).data.toList (some (frs p.1.2, (frs p.1.2).length))) sz w3 ∧ w3.heap[w.heap.size]? = some (.cells #[.int .i64 0] 31 (0, 0)) ∧ od3 w.heap.size = none ∧ w3.cell? ⟨l, 0, none⟩ = some (.pointer (some ⟨d, 0, none⟩)) ∧ w3.cell? ⟨g, k * 3, none⟩ = some (.int .u64 (p.1.1 : Int)) ∧ Rd w3 fv fr ∧ (∀ b, fv.ownBlock = some b → od3 b = none) ∧ Chg (fun b => od b ≠ none) w w3 := fun w2 w3 od3 hb ho hc hd => by
    have hb2 : Below w.heap.size w w2 := hbA.trans (hb.mono hbA.size)
    have hI2 := h.below hb2
    obtain ⟨k1, k2, k3⟩ := hI2.kept ho hc
    have e2 : w2.heap[w.heap.size]? = some (.cells #[.int .i64 0] 31 (0, 0)) := by rw [hb.block _ (by omega)]; exact hrc
    obtain ⟨k4, k5⟩ := k3 w.heap.size (Array.getElem?_eq_some_iff.1 e2).1 nd
    have hI3 : WI B l d size nm sv P U own n od3 (setF st (fname nm p.1.1).data.toList (some (frs p.1.2, (frs p.1.2).length))) sz w3 := ⟨k1, hd, k2, fun i q hq => by
      obtain ⟨sq, hsq⟩ := h.fl i q hq
      by_cases he : (fname nm q.1.1).data.toList = (fname nm p.1.1).data.toList
      · rw [he, setF_same]
        rw [he, hst] at hsq
        simp only [Option.some.injEq, Prod.mk.injEq] at hsq
        exact ⟨_, by rw [hsq.1]⟩
      · rw [setF_other _ _ he]; exact ⟨sq, hsq⟩, h.nb, h.ne, h.ns⟩
    obtain ⟨g', c', ev', _, _, s0', _, _⟩ := hI3.lg.seg k p e
    rw [ev] at ev'
    simp only [Value.slice.injEq, Option.some.injEq, Addr.mk.injEq, and_true, true_and] at ev'
    obtain ⟨rfl, rfl⟩ := ev'
    have hr2 := hr.below hb2 (Nat.le_refl _)
    refine ⟨hI3, by rw [k5]; exact e2, k4, hI3.lg.cells.1, s0', hr2.keptC hc (fun b q => by simp [(hfv b q).1]), fun b q => ?_, ((Chg.of_below hb2).mono (fun b q1 q2 => by omega)).trans (hc.mono (fun b _ q => .inl q))⟩
    by_cases q2 : od3 b = none
    · exact q2
    · rcases ho b q2 with r | r
      · exact absurd (hfv b q).1 r
      · have := (hfv b q).2; have := hb2.size; omega
  -- what is there behind the disk's Write, and the segment more
  have hmid2 : ∀ (w3 w4 w5 : World) (od3 od5 : Nat → Option Role), WI B l d size nm sv P U own n od3 (setF st (fname nm p.1.1).data.toList (some (frs p.1.2, (frs p.1.2).length))) sz w3 → Below w3.heap.size w3 w4 → (∀ b, od5 b ≠ none → od3 b ≠ none ∨ w4.heap.size ≤ b) → Chg (fun b => od3 b ≠ none) w4 w5 → w3.heap[w.heap.size]? = some (.cells #[.int .i64 0] 31 (0, 0)) → od3 w.heap.size = none → LgI B l d size nm false sv P U own w5 ∧ (∀ b, own b ≠ none → od5 b = none) ∧ w5.heap[w.heap.size]? = some (.cells #[.int .i64 0] 31 (0, 0)) ∧ od5 w.heap.size = none ∧ w5.cell? ⟨l, 0, none⟩ = some (.pointer (some ⟨d, 0, none⟩)) ∧ w5.cell? ⟨l, 3, none⟩ = some sv := fun w3 w4 w5 od3 od5 hI3 hb ho hc hR hoR => by
    obtain ⟨k1, k2, k3⟩ := (hI3.below hb).kept ho hc
    have hRl := (Array.getElem?_eq_some_iff.1 hR).1
    have e4 : w4.heap[w.heap.size]? = some (.cells #[.int .i64 0] 31 (0, 0)) := by rw [hb.block _ hRl]; exact hR
    obtain ⟨k4, k5⟩ := k3 w.heap.size (Array.getElem?_eq_some_iff.1 e4).1 hoR
    exact ⟨k1, k2, by rw [k5]; exact e4, k4, k1.cells.1, k1.cells.2.2.2.1⟩
  have hfreshW : setF st (fname nm p.1.1).data.toList (some (frs p.1.2, (frs p.1.2).length)) (fname nm (sgNext p.1)).data.toList = none := by
    by_cases he : (fname nm (sgNext p.1)).data.toList = (fname nm p.1.1).data.toList
    · rw [he, hst] at hfresh; cases hfresh
    · rw [setF_other _ _ he]; exact hfresh
  have hlt : ¬ ((frs p.1.2).length : Int) < (size : Int) := by omega
  obtain ⟨fa, fc, efv, _⟩ := id hr
  subst efv
  go_enter_defers Tryz.func38, Tryz.ntmps38
  go_wp2_with fail
  generalize (w.alloc (.cells #[.int .i64 0] 31)) = W0 at *
  have hs0 := hbA.size
  obtain ⟨t0, t1, t2, t3⟩ := hcl W0 hbA
  have hnn : ∀ W, Below W0.heap.size W0 W → Below w.heap.size w W := fun W hW => hbA.trans (hW.mono hs0)
  have nnA := World.new_ne w _ c0
  have nnB := World.new_ne w _ s0
  clear h hlB c0 c2 c3 c4 s0 s1
  refine (hlast _ hbA).mono ?_
  rintro e w1 ⟨rfl, q1, rfl⟩
  go_wp2_with fail
  go_quiet (fail)
  go_wp2_with fail
  go_region_held3 (fun w' => w'.cell? ⟨l, 0, none⟩ = some (.pointer (some ⟨d, 0, none⟩)) ∧ w'.cell? ⟨g, k * 3, none⟩ = some (.int .u64 (p.1.1 : Int))) (go_keep) (first
    | (go_at_call 44; refine (hfile _ (hnn _ (Below.dN W0 _))).mono ?_; rintro e w2 ⟨rfl, hb2⟩; have hb02 : Below W0.heap.size W0 w2 := Below.tr (Below.dN W0 _) hb2; obtain ⟨x0, x1, _⟩ := hcl _ (hnn _ hb02))
    | (go_at_call 43; refine (hsync _ (hnn _ hb02)).mono ?_; rintro e w3 ⟨rfl, ⟨od3, hd3, ho3⟩, hc3⟩; obtain ⟨hI3, hR3, hoR3, y0, y1, hr3, hfv3, hch3⟩ := hmid w2 w3 od3 hb02 ho3 hc3 hd3)
    | fail)
  go_wp2_with fail
  refine (segnext_any hI3.lg k p e0 ev (by omega)).mono ?_
  rintro e w4 ⟨rfl, q4, rfl⟩
  go_wp2_with fail
  have hwn := fun W (hW : Below w3.heap.size w3 W) => write_new (hI3.below hW).dk (fname nm (sgNext p.1)) (by omega) (by omega) hfreshW (hr3.below hW (Nat.le_refl _)) hz (by omega)
  have hfn := fun W (hW : Below w3.heap.size w3 W) => file_any (hI3.below hW).lg (sgNext p.1) hnx hns
  have hl0 : ∀ W, Below w3.heap.size w3 W → W.cell? ⟨l, 0, none⟩ = some (.pointer (some ⟨d, 0, none⟩)) := fun W hW => (hI3.below hW).lg.cells.1
  go_region_held3 (fun w' => w'.cell? ⟨l, 0, none⟩ = some (.pointer (some ⟨d, 0, none⟩))) (go_keep) (first
    | (go_at_call 44; refine (hfn _ (Below.dN w3 _)).mono ?_; rintro e w4 ⟨rfl, hb4⟩; have hb34 : Below w3.heap.size w3 w4 := Below.tr (Below.dN w3 _) hb4; have v0 := hl0 _ hb34)
    | (go_at_call 21; refine (hwn _ hb34).mono ?_; rintro e w5 ⟨rfl, ⟨od5, hd5, ho5⟩, hc5⟩; obtain ⟨hL5, hap5, hR5, hoR5, v1, v3⟩ := hmid2 w3 w4 w5 od3 od5 hI3 hb34 ho5 hc5 hR3 hoR3)
    | fail)
  have hB5 : B ≤ w5.heap.size := by have := (hL5.lo l (by rw [hL5.ol]; simp)); omega
  have hal : ∀ j u, #[.int .u64 (sgNext p.1 : Int), .int .i64 0, .slice none 0 0][j]? = some u → (w5.alloc (.cells #[.int .u64 (sgNext p.1 : Int), .int .i64 0, .slice none 0 0] 80)).cell? ((⟨w5.heap.size, 0, none⟩ : Addr).add j) = some u := fun j u q => by
    rw [Addr.add_lit, Nat.zero_add, World.cell?_alloc_at _ _ _ _ rfl]; exact q
  have a0 := hal 0 _ rfl
  have a1 := hal 1 _ rfl
  have a2 := hal 2 _ rfl
  have hrow5 := ownsRow_keptC hL5.row (Chg.of_below (bel_alW w5 (.cells #[.int .u64 (sgNext p.1 : Int), .int .i64 0, .slice none 0 0] 80))) (fun b e q => by have := (World.ownsRow.lt hL5.row b e).2; omega)
  have hlR : l ≠ w.heap.size := by have := hlo; omega
  have hgl : own g = some .segs := HI.out.lg.os g (by rw [ev]; rfl)
  have hgw := (HI.out.lg.lo g (by rw [hgl]; simp)).2
  have hgl2 : g ≠ l := fun q => by rw [q, HI.out.lg.ol] at hgl; cases hgl
  have hll5 := (hL5.lo l (by rw [hL5.ol]; simp)).2
  have hRl5 := (Array.getElem?_eq_some_iff.1 hR5).1
  rw [ev] at v3 hrow5
  have hz7 : ∀ w7, (w5.alloc (.cells #[.int .u64 (sgNext p.1 : Int), .int .i64 0, .slice none 0 0] 80)).grownBy w7 (some g) → w7.cell? ⟨l, 3, none⟩ = some (.slice (some ⟨g, 0, none⟩) P.length c) ∧ w7.frozen? ⟨l, 3, none⟩ = false ∧ w7.heap[w.heap.size]? = some (.cells #[.int .i64 0] 31 (0, 0)) := fun w7 hg => by
    have hs5 : (w5.alloc (.cells #[.int .u64 (sgNext p.1 : Int), .int .i64 0, .slice none 0 0] 80)).heap.size = w5.heap.size + 1 := by simp
    have el : w7.heap[l]? = w5.heap[l]? := (hg.block l (by omega) (fun q => hgl2 (Option.some.inj q).symm)).trans (Below.heap_alloc w5 _ _ hll5)
    have eR : w7.heap[w.heap.size]? = w5.heap[w.heap.size]? := (hg.block _ (by omega) (fun q => by have := Option.some.inj q; omega)).trans (Below.heap_alloc w5 _ _ hRl5)
    exact ⟨by rw [World.cell?_of_block el]; exact v3, by rw [World.frozen?_of_block el]; exact hL5.cells.2.2.2.2.2 3, by rw [eR]; exact hR5⟩
  have HK : Hid _ := hk
  clear hk
  go_wp2_with (first
    | (at_builtin; refine wpList_appSg rfl _ _ rfl B (.slice (some ⟨g, 0, none⟩) P.length c) P rfl hrow5 ⟨w5.heap.size, 0, none⟩ 1 (sgNext p.1) rfl a0 a1 a2 (by simp; omega) (by omega) ?_; intro v7 w7 hr7 hg7 hv7; obtain ⟨z1, z2, z3⟩ := hz7 w7 hg7; obtain ⟨zR0, zR1⟩ := cell_one z3; obtain ⟨o7, n7, c7, e7⟩ := row_shapeW hr7; subst e7)
    | fail)
  have hI := HI.out
  have hadd := hL5.addSeg (begin := sgNext p.1) (o := (.cells #[.int .u64 (sgNext p.1 : Int), .int .i64 0, .slice none 0 0] 80)) (w5 := w7) (sv' := .slice o7 n7 c7) (by rw [ev]; exact hg7) hr7 (by rw [ev]; exact hv7)
  obtain ⟨hL7, hcL7⟩ := hadd
  have hs57 : w5.heap.size + 1 ≤ w7.heap.size := by have := hg7.size; simpa using this
  have zRl : (w7.setCell ⟨l, 3, none⟩ (.slice o7 n7 c7)).cell? ⟨w.heap.size, 0, none⟩ = some (.int .i64 0) := by rw [World.cell?_setCell_other _ _ _ _ (by first | (simp; done) | (simp; omega))]; exact zR0
  have z0 := World.cell?_setCell_same (w7.setCell ⟨l, 3, none⟩ (.slice o7 n7 c7)) ⟨w.heap.size, 0, none⟩ (.int .i64 0) zRl
  have hchs : Chg (fun b => b = w.heap.size) (w7.setCell ⟨l, 3, none⟩ (.slice o7 n7 c7)) ((w7.setCell ⟨l, 3, none⟩ (.slice o7 n7 c7)).setCell ⟨w.heap.size, 0, none⟩ (.int .i64 0)) := (Chg.refl (fun b => b = w.heap.size) (w7.setCell ⟨l, 3, none⟩ (.slice o7 n7 c7))).put w.heap.size 0 _ rfl
  have hownR : ownSeg own (.slice o7 n7 c7) w.heap.size = none := by
    unfold ownSeg
    rw [if_neg (fun q => by
      rcases hv7 with r | r
      · rw [r] at q; have hq : g = w.heap.size := Option.some.inj q; omega
      · rw [r] at q; have hq := Option.some.inj q; have hsA : (w5.alloc (.cells #[.int .u64 (sgNext p.1 : Int), .int .i64 0, .slice none 0 0] 80)).heap.size = w5.heap.size + 1 := by simp
        omega)]
    by_cases q : own w.heap.size = none
    · exact q
    · have := (hI.lg.lo _ q).2; omega
  have hD7 : Dk B d (n + 1) od5 (setF (setF st (fname nm p.1.1).data.toList (some (frs p.1.2, (frs p.1.2).length))) (fname nm (sgNext p.1)).data.toList (some (fr, 0))) (sz + fr.length) (alive d) 0 ((w7.setCell ⟨l, 3, none⟩ (.slice o7 n7 c7)).setCell ⟨w.heap.size, 0, none⟩ (.int .i64 0)) := (hd5.next hcL7 (fun b hb q => hb (hap5 b q))).next hchs (fun b hb q => hb (by rw [q]; exact hoR5))
  have hapF : ∀ b, ownSeg own (.slice o7 n7 c7) b ≠ none → od5 b = none := fun b hb => by
    unfold ownSeg at hb
    split at hb
    · rename_i q
      rcases hv7 with r | r
      · rw [r] at q
        have hbg : g = b := Option.some.inj q
        rw [← hbg]; exact hap5 g (by rw [hgl]; simp)
      · rw [r] at q
        have := Option.some.inj q
        by_cases q2 : od5 b = none
        · exact q2
        · have h5 := (hd5.blo q2).2
          have hsA : (w5.alloc (.cells #[.int .u64 (sgNext p.1 : Int), .int .i64 0, .slice none 0 0] 80)).heap.size = w5.heap.size + 1 := by simp
          omega
    · exact hap5 b hb
  have hc35 : Chg (fun b => od3 b ≠ none) w3 w5 := ((Chg.of_below hb34).mono (fun b q1 q2 => by omega)).trans (hc5.mono (fun b _ q => .inl q))
  have ho3' : ∀ b, od3 b ≠ none → od b ≠ none ∨ w.heap.size ≤ b := fun b q => by
    rcases ho3 b q with r | r
    · exact .inl r
    · have := (hnn _ hb02).size; exact .inr (by omega)
  have hch5 : Chg (fun b => own b ≠ none ∨ od b ≠ none) w w5 := (hch3.mono (fun b _ q => Or.inr q)).trans (hc35.mono (fun b _ q => by
    rcases ho3' b q with r | r
    · exact .inl (.inr r)
    · exact .inr r))
  have hch7 : Chg (fun b => own b ≠ none ∨ od b ≠ none) w ((w7.setCell ⟨l, 3, none⟩ (.slice o7 n7 c7)).setCell ⟨w.heap.size, 0, none⟩ (.int .i64 0)) := (hch5.trans (hcL7.mono (fun b _ q => .inl (.inl q)))).trans (hchs.mono (fun b _ q => .inr (by omega)))
  have hfin : (∃ sv' own' od' s, WX B l d size nm sv' (P ++ [sg0 (sgNext p.1)]) (recSeg U P.length) own' (n + 1) od' (setF (setF st (fname nm p.1.1).data.toList (some (frs p.1.2, s))) (fname nm (sgNext p.1)).data.toList (some (fr, 0))) (sz + fr.length) fr ((w7.setCell ⟨l, 3, none⟩ (.slice o7 n7 c7)).setCell ⟨w.heap.size, 0, none⟩ (.int .i64 0)) ∧ ∀ q, own' q ≠ none → own q ≠ none ∨ w.heap.size ≤ q) := by
    refine ⟨.slice o7 n7 c7, ownSeg own (.slice o7 n7 c7), od5, (frs p.1.2).length, ⟨hL7.next hchs (fun b hb q => hb (by rw [q]; exact hownR)), hD7, hapF, fun i q hq => ?_, fun i q hq => ?_, by simp, hI.ns⟩, fun q hq => ?_⟩
    · by_cases hi : i < P.length
      · rw [List.getElem?_append_left hi] at hq
        obtain ⟨sq, hsq⟩ := hI3.fl i q hq
        rw [setF_other _ _ (fun he => by rw [he, hfreshW] at hsq; cases hsq), if_neg (by simp; omega), List.append_nil]
        exact ⟨sq, hsq⟩
      · rw [List.getElem?_append_right (by omega)] at hq
        cases hd : i - P.length with
        | zero =>
          rw [hd] at hq
          simp at hq
          subst hq
          rw [if_pos (by simp; omega)]
          show ∃ s, setF _ _ _ (fname nm (sgNext p.1)).data.toList = _
          rw [setF_same]
          exact ⟨0, by simp [sg0, frs]⟩
        | succ j => rw [hd] at hq; simp at hq
    · by_cases hi : i < P.length
      · rw [List.getElem?_append_left hi] at hq; exact hI.nb i q hq
      · rw [List.getElem?_append_right (by omega)] at hq
        cases hd : i - P.length with
        | zero => rw [hd] at hq; simp at hq; subst hq; exact hnx
        | succ j => rw [hd] at hq; simp at hq
    · unfold ownSeg at hq
      split at hq
      · rename_i r
        rcases hv7 with r2 | r2
        · rw [r2] at r
          have hqg : g = q := Option.some.inj r
          left; rw [← hqg, hgl]; simp
        · rw [r2] at r
          have hqg := Option.some.inj r
          have hsA : (w5.alloc (.cells #[.int .u64 (sgNext p.1 : Int), .int .i64 0, .slice none 0 0] 80)).heap.size = w5.heap.size + 1 := by simp
          have := hch5.size
          exact .inr (by omega)
      · exact .inl hq
  refine leaves_cons (f := 42) (args := #[.pointer (some ⟨l, 0, none⟩), .pointer (some ⟨w.heap.size, 0, none⟩)]) (by simp) (by simp [go_sem]) ?_
  refine (look_d w.heap.size z0 _ .returning).mono ?_
  rintro e' u' w'' ⟨rfl, rfl, rfl⟩
  exact ⟨.int .i64 0, by simp [results, Tryz.results38, go_sem, z0]; try rfl, rfl, hfin, hch7⟩
end
end Go.Proofs.YtcielagfajdbeaaGreatDoor

/- The log's Append. -/
namespace Go.Proofs.YtcielagfajdbeaaGreatDoor
open Go.RowKit
set_option linter.unusedVariables false
set_option maxRecDepth 100000

section
variable {B l d size : Nat} {nm : ByteArray} {sv : Value} {P : List (Sg × Value)} {U : Nat → List Value} {own : Nat → Option LRole} {n : Nat} {od : Nat → Option Role} {st : Nm → Option (List UInt8 × Nat)} {sz : Nat} {fr : List UInt8} {w w' : World}
theorem WX.below (h : WX B l d size nm sv P U own n od st sz fr w) (hb : Below w.heap.size w w') : WX B l d size nm sv P U own n od st sz fr w' :=
  ⟨h.lg.below hb, h.dk.next (Chg.of_below hb) (fun b hs q => by have := (h.dk.blo hs).2; omega), h.ap, h.fl, h.nb, h.ne, h.ns⟩
/-- The record that stands in the file is added in memory. -/
theorem WX.add {k begin : Nat} {rs : List (List UInt8)} {r : List UInt8} {rv rv' v : Value} {w5 : World} (h : WX B l d size nm sv P U own n od st sz (M.frame r) w) (hk : P.length = k + 1) (e : P[k]? = some ((begin, rs), rv))
    (hL : LgI B l d size nm false sv (P.set k ((begin, rs ++ [r]), rv')) (recAdd U k v) (ownAdd own k rv' v) w5) (hrv : ∀ b, rv'.ownBlock = some b → own b = some (.recs k) ∨ w.heap.size ≤ b) (hvb : ∀ b, v.ownBlock = some b → od b = none) (hc : Chg (fun b => own b ≠ none) w w5) :
    WI B l d size nm sv (P.set k ((begin, rs ++ [r]), rv')) (recAdd U k v) (ownAdd own k rv' v) n od st sz w5 := by
  refine ⟨hL, h.dk.next hc (fun b hb q => hb (h.ap b q)), fun b hb => ?_, fun i q hq => ?_, fun i q hq => ?_, by simp; omega, h.ns⟩
  · unfold ownAdd at hb
    split at hb
    · rename_i q
      rcases hrv b q with r | r
      · exact h.ap b (by rw [r]; simp)
      · by_cases q2 : od b = none
        · exact q2
        · have := (h.dk.blo q2).2; omega
    · split at hb
      · rename_i q; exact hvb b q
      · exact h.ap b hb
  · by_cases hi : i = k
    · subst hi
      rw [List.getElem?_set_self (by omega)] at hq
      obtain rfl := Option.some.inj hq
      obtain ⟨s, hs⟩ := h.fl i _ e
      rw [if_pos hk.symm] at hs
      exact ⟨s, by rw [hs, frs_snoc]⟩
    · rw [List.getElem?_set_ne (fun q => hi q.symm)] at hq
      obtain ⟨s, hs⟩ := h.fl i q hq
      rw [if_neg (by omega), List.append_nil] at hs
      exact ⟨s, hs⟩
  · by_cases hi : i = k
    · subst hi
      rw [List.getElem?_set_self (by omega)] at hq
      obtain rfl := Option.some.inj hq
      exact h.nb i ((begin, rs), rv) e
    · rw [List.getElem?_set_ne (fun q => hi q.symm)] at hq
      exact h.nb i q hq

/-- What Append makes of the segments. -/
def addS (size : Nat) (P : List (Sg × Value)) (k : Nat) (p : Sg × Value) (r : List UInt8) : List Sg := if (frs p.1.2).length < size then (P.map (·.1)).set k (p.1.1, p.1.2 ++ [r]) else P.map (·.1) ++ [(sgNext p.1, [r])]

/-- Behind lay: the last segment, a copy of the record, both put together. -/
theorem tail_any {k begin : Nat} {rs : List (List UInt8)} {r : List UInt8} {rv bv fv : Value} (h : WX B l d size nm sv P U own n od st sz (M.frame r) w) (hk : P.length = k + 1) (e : P[k]? = some ((begin, rs), rv)) (hr : Rd w bv r) (hl : r.length ≤ 1048576) (hrl : rs.length ≤ 1048576) (hsl : (frs rs).length ≤ 16777216) (hBw : B ≤ w.heap.size)
    {g c : Nat} (ev : sv = .slice (some ⟨g, 0, none⟩) P.length c) (W : World) (hW : Below w.heap.size w W) (v : Value) (hv : Ow w.heap.size W v r) :
    Calls Tryz.prog 40 #[.pointer (some ⟨g, k * 3, none⟩), v, .int .i64 ((M.frame r).length : Int)] W fun e w' => (∃ u, e = .returned u) ∧ (∃ Q U' own', WI B l d size nm sv Q U' own' n od st sz w' ∧ Q.map (·.1) = (P.map (·.1)).set k (begin, rs ++ [r])) ∧ Chg (fun b => own b ≠ none) w w' := by
  have hX := h.below hW
  have hs := hW.size
  have hlen : (M.frame r).length ≤ 2097152 := by
    have h2 := vi_len r.length
    have h3 := M.be_length 4 (M.crc r)
    simp only [M.frame, List.length_append]
    omega
  refine (segadd_any hX.lg ev e hv.rd (fun b q => ?_) hrl (by omega)).mono ?_
  · have := World.ownsRow.lt hv b q
    refine ⟨?_, by omega, this.2⟩
    by_cases q2 : own b = none
    · exact q2
    · have := (h.lg.lo b q2).2; omega
  · rintro e2 w5 ⟨hu, ⟨rv', hL, hrv⟩, hc⟩
    refine ⟨hu, ⟨_, _, _, hX.add hk e hL hrv (fun b q => ?_) hc, by rw [List.map_set]⟩, ((Chg.of_below hW).mono (fun b q1 q2 => by omega)).trans (hc.mono (fun b _ q => .inl q))⟩
    have := (World.ownsRow.lt hv b q).1
    by_cases q2 : od b = none
    · exact q2
    · have := (h.dk.blo q2).2; omega

set_option maxHeartbeats 1000000 in
theorem append_thereK (h : WI B l d size nm sv P U own n od st sz w) (hB : Begins P) {k : Nat} (hk : P.length = k + 1) {p : Sg × Value} (e : P[k]? = some p) (hby : (frs p.1.2).length < size) (hsi : size ≤ 16777216) {bv : Value} {b : List UInt8} (hr : Rd w bv b) (hkp : ∀ w3, Chg (fun q => own q ≠ none ∨ od q ≠ none) w w3 → Rd w3 bv b) (hbl : b.length ≤ 1048576) (hz : sz + (M.frame b).length ≤ 16777216) (hnx : sgNext p.1 < 100) (hrl : p.1.2.length ≤ 1048576) :
    Calls Tryz.prog 11 #[.pointer (some ⟨l, 0, none⟩), bv] w fun r w' => r = .returned (.tuple #[.int .u64 (sgNext p.1 : Int), .int .i64 0]) ∧ (∃ sv' Q U' own' n' od' st', WI B l d size nm sv' Q U' own' n' od' st' (sz + (M.frame b).length) w' ∧ Q.map (·.1) = addS size P k p b ∧ n' ≤ n + 1 ∧ (∀ f, st' f ≠ none → st f ≠ none ∨ (size ≤ (frs p.1.2).length ∧ f = (fname nm (sgNext p.1)).data.toList)) ∧ ∀ f, (∀ b, b < 100 → f ≠ (fname nm b).data.toList) → st' f = st f) ∧ Chg (fun q => own q ≠ none ∨ od q ≠ none) w w' := by
  obtain ⟨_, _, _, _, c4, _⟩ := h.lg.cells
  have hnext := lnext_any h.lg hk p e (by omega)
  have hfr := fun W (hW : Below w.heap.size w W) => frame_any (hr.below hW (Nat.le_refl _)) (by omega)
  have HI : Hid _ := h
  have hle : ¬ (1048576 : Int) < (b.length : Int) := by omega
  obtain ⟨sy, hst⟩ := h.fl k p e
  obtain ⟨ba0, bc0, eb0, _⟩ := id hr
  subst eb0
  go_enter Tryz.func11, Tryz.ntmps11
  go_wp2_with fail
  refine hnext.mono ?_
  rintro e' w1 ⟨rfl, q1, rfl⟩
  go_wp2_with fail
  refine (hfr _ (Below.dN w q1)).mono ?_
  rintro e' w2 ⟨fv, rfl, ho2, hb2⟩
  have hb02 : Below w.heap.size w w2 := Below.tr (Below.dN w q1) hb2
  have hI2 := h.below hb02
  have hlay := lay_there hI2 hB hk e hby (by omega) ho2.rd hz (by omega)
  obtain ⟨fa, fc, efv, _⟩ := ho2.rd
  subst efv
  go_wp2_with fail
  refine hlay.mono ?_
  rintro e' w3 ⟨rfl, ⟨od', s, hX⟩, hc3⟩
  have hr3 : Rd w3 (.slice ba0 b.length bc0) b := hkp w3 (((Chg.of_below hb02).mono (fun q a1 a2 => by omega)).trans (hc3.mono (fun q _ r => .inl r)))
  obtain ⟨g, c, ev, g1, g2, _, _, _⟩ := hX.lg.seg k p e
  have hlast := last_any hX.lg ev hk ⟨by omega, g2⟩
  have hBw3 : B ≤ w3.heap.size := by have := hX.lg.lo l (by rw [hX.lg.ol]; simp); omega
  have htl := tail_any (bv := .slice ba0 b.length bc0) (fv := .slice ba0 b.length bc0) hX hk (begin := p.1.1) (rs := p.1.2) (rv := p.2) e hr3 (by omega) hrl (by omega) hBw3 ev
  have hcl := fun W (hW : Below w3.heap.size w3 W) => clone_any (hr3.below hW (Nat.le_refl _)) (by omega)
  go_wp2_with fail
  refine hlast.mono ?_
  rintro e' w4 ⟨rfl, q4, rfl⟩
  go_wp2_with fail
  refine (hcl _ (Below.dN w3 q4)).mono ?_
  rintro e' w5 ⟨v5, rfl, ho5, hb5⟩
  have hb35 : Below w3.heap.size w3 w5 := Below.tr (Below.dN w3 q4) hb5
  have hadd := htl w5 hb35 v5 ho5
  obtain ⟨va, vc, ev5, _⟩ := ho5.rd
  subst ev5
  go_wp2_with fail
  refine hadd.mono ?_
  rintro e' w6 ⟨⟨u, rfl⟩, ⟨Q, U', own6, hW6, hQ⟩, hc6⟩
  go_wp2_with fail
  go_ret2
  refine ⟨rfl, ⟨_, Q, U', own6, _, _, _, hW6, ?_, ?_, ?_⟩, ?_⟩
  · unfold addS; rw [if_pos hby]; exact hQ
  · omega
  · refine ⟨fun f hf => ?_, fun f hf => setF_other _ _ (hf _ (h.nb k p e))⟩
    by_cases hfe : f = (fname nm p.1.1).data.toList
    · left; rw [hfe, hst]; simp
    · rw [setF_other _ _ hfe] at hf; exact .inl hf
  · exact (((Chg.of_below hb02).mono (fun q a1 a2 => by omega)).trans (hc3.mono (fun q _ r => .inl r))).trans (hc6.mono (fun q _ r => .inl (.inl r)))
theorem append_there (h : WI B l d size nm sv P U own n od st sz w) (hB : Begins P) {k : Nat} (hk : P.length = k + 1) {p : Sg × Value} (e : P[k]? = some p) (hby : (frs p.1.2).length < size) (hsi : size ≤ 16777216) {bv : Value} {b : List UInt8} (hr : Rd w bv b) (hbv : ∀ q, bv.ownBlock = some q → own q = none ∧ od q = none) (hbl : b.length ≤ 1048576) (hz : sz + (M.frame b).length ≤ 16777216) (hnx : sgNext p.1 < 100) (hrl : p.1.2.length ≤ 1048576) :
    Calls Tryz.prog 11 #[.pointer (some ⟨l, 0, none⟩), bv] w fun r w' => r = .returned (.tuple #[.int .u64 (sgNext p.1 : Int), .int .i64 0]) ∧ (∃ sv' Q U' own' n' od' st', WI B l d size nm sv' Q U' own' n' od' st' (sz + (M.frame b).length) w' ∧ Q.map (·.1) = addS size P k p b ∧ n' ≤ n + 1 ∧ (∀ f, st' f ≠ none → st f ≠ none ∨ (size ≤ (frs p.1.2).length ∧ f = (fname nm (sgNext p.1)).data.toList)) ∧ ∀ f, (∀ b, b < 100 → f ≠ (fname nm b).data.toList) → st' f = st f) ∧ Chg (fun q => own q ≠ none ∨ od q ≠ none) w w' :=
  append_thereK h hB hk e hby hsi hr (fun w3 hc => hr.keptC hc (fun q hq r => by rcases r with r | r; exact r (hbv q hq).1; exact r (hbv q hq).2)) hbl hz hnx hrl
set_option maxHeartbeats 1000000 in
theorem append_newK (h : WI B l d size nm sv P U own n od st sz w) (hB : Begins P) {k : Nat} (hk : P.length = k + 1) {p : Sg × Value} (e : P[k]? = some p) (hby : size ≤ (frs p.1.2).length) (hlf : (frs p.1.2).length ≤ 16777216) (hn : n ≤ 1048576) (hPl : P.length ≤ 1048576) (hfresh : st (fname nm (sgNext p.1)).data.toList = none) {bv : Value} {b : List UInt8} (hr : Rd w bv b) (hkp : ∀ w3, Chg (fun q => own q ≠ none ∨ od q ≠ none) w w3 → Rd w3 bv b) (hbl : b.length ≤ 1048576) (hz : sz + (M.frame b).length ≤ 16777216) (hnx : sgNext p.1 < 100) (hrl : p.1.2.length ≤ 1048576) :
    Calls Tryz.prog 11 #[.pointer (some ⟨l, 0, none⟩), bv] w fun r w' => r = .returned (.tuple #[.int .u64 (sgNext p.1 : Int), .int .i64 0]) ∧ (∃ sv' Q U' own' n' od' st', WI B l d size nm sv' Q U' own' n' od' st' (sz + (M.frame b).length) w' ∧ Q.map (·.1) = addS size P k p b ∧ n' ≤ n + 1 ∧ (∀ f, st' f ≠ none → st f ≠ none ∨ (size ≤ (frs p.1.2).length ∧ f = (fname nm (sgNext p.1)).data.toList)) ∧ ∀ f, (∀ b, b < 100 → f ≠ (fname nm b).data.toList) → st' f = st f) ∧ Chg (fun q => own q ≠ none ∨ od q ≠ none) w w' := by
  obtain ⟨_, _, _, _, c4, _⟩ := h.lg.cells
  have hnext := lnext_any h.lg hk p e (by omega)
  have hfr := fun W (hW : Below w.heap.size w W) => frame_any (hr.below hW (Nat.le_refl _)) (by omega)
  have HI : Hid _ := h
  have hle : ¬ (1048576 : Int) < (b.length : Int) := by omega
  obtain ⟨sy, hst⟩ := h.fl k p e
  obtain ⟨ba0, bc0, eb0, _⟩ := id hr
  subst eb0
  go_enter Tryz.func11, Tryz.ntmps11
  go_wp2_with fail
  refine hnext.mono ?_
  rintro e' w1 ⟨rfl, q1, rfl⟩
  go_wp2_with fail
  refine (hfr _ (Below.dN w q1)).mono ?_
  rintro e' w2 ⟨fv, rfl, ho2, hb2⟩
  have hb02 : Below w.heap.size w w2 := Below.tr (Below.dN w q1) hb2
  have hI2 := h.below hb02
  have hfo : ∀ q, fv.ownBlock = some q → od q = none := fun q hq => by
    have := (World.ownsRow.lt ho2 q hq).1
    by_cases q2 : od q = none
    · exact q2
    · have h5 := (h.dk.blo q2).2
      have h6 : (w.drewN q1).heap.size = w.heap.size := rfl
      omega
  have hlay := lay_new hI2 hB hk e hby hlf ho2.rd (fun q hq => ⟨hfo q hq, (World.ownsRow.lt ho2 q hq).2⟩) hz hnx hfresh hn hPl
  obtain ⟨fa, fc, efv, _⟩ := ho2.rd
  subst efv
  go_wp2_with fail
  refine hlay.mono ?_
  rintro e' w3 ⟨rfl, ⟨sv', own', od', s, hX, hown'⟩, hc3⟩
  have hr3 : Rd w3 (.slice ba0 b.length bc0) b := hkp w3 (((Chg.of_below hb02).mono (fun q a1 a2 => by omega)).trans (hc3.mono (fun q _ r => .inl r)))
  have e3 : (P ++ [sg0 (sgNext p.1)])[k + 1]? = some (sg0 (sgNext p.1)) := by rw [List.getElem?_append_right (by omega), hk]; simp
  have hk3 : (P ++ [sg0 (sgNext p.1)]).length = k + 1 + 1 := by simp [hk]
  obtain ⟨g, c, ev, g1, g2, _, _, _⟩ := hX.lg.seg (k + 1) _ e3
  have hlast := last_any hX.lg ev hk3 ⟨by omega, g2⟩
  have hBw3 : B ≤ w3.heap.size := by have := hX.lg.lo l (by rw [hX.lg.ol]; simp); omega
  have htl := tail_any (bv := .slice ba0 b.length bc0) (fv := .slice ba0 b.length bc0) hX hk3 (begin := sgNext p.1) (rs := []) (rv := .slice none 0 0) e3 hr3 (by omega) (by simp) (by simp [frs]) hBw3 ev
  have hcl := fun W (hW : Below w3.heap.size w3 W) => clone_any (hr3.below hW (Nat.le_refl _)) (by omega)
  go_wp2_with fail
  refine hlast.mono ?_
  rintro e' w4 ⟨rfl, q4, rfl⟩
  go_wp2_with fail
  refine (hcl _ (Below.dN w3 q4)).mono ?_
  rintro e' w5 ⟨v5, rfl, ho5, hb5⟩
  have hb35 : Below w3.heap.size w3 w5 := Below.tr (Below.dN w3 q4) hb5
  have hadd := htl w5 hb35 v5 ho5
  obtain ⟨va, vc, ev5, _⟩ := ho5.rd
  subst ev5
  go_wp2_with fail
  refine hadd.mono ?_
  rintro e' w6 ⟨⟨u, rfl⟩, ⟨Q, U', own6, hW6, hQ⟩, hc6⟩
  go_wp2_with fail
  go_ret2
  refine ⟨rfl, ⟨_, Q, U', own6, _, _, _, hW6, ?_, ?_, ?_⟩, ?_⟩
  · unfold addS
    rw [if_neg (by omega), hQ, List.map_append, List.set_append_right _ _ (by simp [hk]), List.length_map, hk, Nat.sub_self]
    rfl
  · omega
  · refine ⟨fun f hf => ?_, fun f hf => by rw [setF_other _ _ (hf _ hnx), setF_other _ _ (hf _ (h.nb k p e))]⟩
    by_cases hfe : f = (fname nm (sgNext p.1)).data.toList
    · exact .inr ⟨hby, hfe⟩
    · rw [setF_other _ _ hfe] at hf
      by_cases hfp : f = (fname nm p.1.1).data.toList
      · left; rw [hfp, hst]; simp
      · rw [setF_other _ _ hfp] at hf; exact .inl hf
  · exact (((Chg.of_below hb02).mono (fun q a1 a2 => by omega)).trans (hc3.mono (fun q _ r => .inl r))).trans (hc6.mono (fun q _ r => by rcases hown' q r with a | a; exact .inl (.inl a); exact .inr (Nat.le_trans hb02.size a)))
theorem append_new (h : WI B l d size nm sv P U own n od st sz w) (hB : Begins P) {k : Nat} (hk : P.length = k + 1) {p : Sg × Value} (e : P[k]? = some p) (hby : size ≤ (frs p.1.2).length) (hlf : (frs p.1.2).length ≤ 16777216) (hn : n ≤ 1048576) (hPl : P.length ≤ 1048576) (hfresh : st (fname nm (sgNext p.1)).data.toList = none) {bv : Value} {b : List UInt8} (hr : Rd w bv b) (hbv : ∀ q, bv.ownBlock = some q → own q = none ∧ od q = none) (hbl : b.length ≤ 1048576) (hz : sz + (M.frame b).length ≤ 16777216) (hnx : sgNext p.1 < 100) (hrl : p.1.2.length ≤ 1048576) :
    Calls Tryz.prog 11 #[.pointer (some ⟨l, 0, none⟩), bv] w fun r w' => r = .returned (.tuple #[.int .u64 (sgNext p.1 : Int), .int .i64 0]) ∧ (∃ sv' Q U' own' n' od' st', WI B l d size nm sv' Q U' own' n' od' st' (sz + (M.frame b).length) w' ∧ Q.map (·.1) = addS size P k p b ∧ n' ≤ n + 1 ∧ (∀ f, st' f ≠ none → st f ≠ none ∨ (size ≤ (frs p.1.2).length ∧ f = (fname nm (sgNext p.1)).data.toList)) ∧ ∀ f, (∀ b, b < 100 → f ≠ (fname nm b).data.toList) → st' f = st f) ∧ Chg (fun q => own q ≠ none ∨ od q ≠ none) w w' :=
  append_newK h hB hk e hby hlf hn hPl hfresh hr (fun w3 hc => hr.keptC hc (fun q hq r => by rcases r with r | r; exact r (hbv q hq).1; exact r (hbv q hq).2)) hbl hz hnx hrl
end
end Go.Proofs.YtcielagfajdbeaaGreatDoor

/- The log's Cut. -/
namespace Go.Proofs.YtcielagfajdbeaaGreatDoor
open Go.RowKit
set_option linter.unusedVariables false
set_option maxRecDepth 100000

/-- The segments without what they hold in memory. -/
abbrev sgs (P : List (Sg × Value)) : List Sg := P.map (·.1)
/-- What is there in the midst of a Cut: the log as it was, the first m segments' files gone. -/
structure WM (B l d size : Nat) (nm : ByteArray) (sv : Value) (P : List (Sg × Value)) (U : Nat → List Value) (own : Nat → Option LRole) (n : Nat) (od : Nat → Option Role) (st : Nm → Option (List UInt8 × Nat)) (m : Nat) (w : World) : Prop where
  lg : LgI B l d size nm false sv P U own w
  dk : Dk B d n od st (szD (sgs P) m) (alive d) 0 w
  ap : ∀ b, own b ≠ none → od b = none
  fl : ∀ (i : Nat) p, m ≤ i → P[i]? = some p → ∃ s, st (fname nm p.1.1).data.toList = some (frs p.1.2, s)
section
variable {B l d size : Nat} {nm : ByteArray} {sv : Value} {P : List (Sg × Value)} {U : Nat → List Value} {own : Nat → Option LRole} {n : Nat} {od : Nat → Option Role} {st : Nm → Option (List UInt8 × Nat)} {m : Nat} {w w' : World}
theorem WM.below (h : WM B l d size nm sv P U own n od st m w) (hb : Below w.heap.size w w') : WM B l d size nm sv P U own n od st m w' :=
  ⟨h.lg.below hb, h.dk.next (Chg.of_below hb) (fun b hs q => by have := (h.dk.blo hs).2; omega), h.ap, h.fl⟩
theorem WM.out {x : Nat} (h : WM B l d size nm sv P U own n od st m w) (hc : Chg (fun b => b = x) w w') (h1 : own x = none) (h2 : od x = none) : WM B l d size nm sv P U own n od st m w' :=
  ⟨h.lg.next hc (fun b hb q => hb (by rw [q]; exact h1)), h.dk.next hc (fun b hb q => hb (by rw [q]; exact h2)), h.ap, h.fl⟩
/-- A file more is gone. -/
theorem WM.gone (h : WM B l d size nm sv P U own n od st m w) (hnb : ∀ (i : Nat) p, P[i]? = some p → p.1.1 < 100) (hmono : ∀ (i j : Nat) p q, i < j → P[i]? = some p → P[j]? = some q → p.1.1 < q.1.1) {p : Sg × Value} (e : P[m]? = some p) {od' : Nat → Option Role} (hd : Dk B d n od' (setF st (fname nm p.1.1).data.toList none) (szD (sgs P) m - (frs p.1.2).length) (alive d) 0 w') (ho : ∀ b, od' b ≠ none → od b ≠ none) (hc : Chg (fun b => od b ≠ none) w w') :
    WM B l d size nm sv P U own n od' (setF st (fname nm p.1.1).data.toList none) (m + 1) w' := by
  have hz := szD_succ (sgs P) m p.1 (by rw [List.getElem?_map, e]; rfl)
  refine ⟨h.lg.next hc (fun b hb q => q (h.ap b hb)), ?_, fun b hb => ?_, fun i q hi hq => ?_⟩
  · rw [show szD (sgs P) (m + 1) = szD (sgs P) m - (frs p.1.2).length by omega]; exact hd
  · by_cases q : od' b = none
    · exact q
    · exact absurd (h.ap b hb) (ho b q)
  · obtain ⟨s, hs⟩ := h.fl i q (by omega) hq
    have h1 := hmono m i p q (by omega) e hq
    rw [setF_other _ _ (fun he => by have := fname_inj nm (hnb i q hq) (hnb m p e) he; omega)]
    exact ⟨s, hs⟩
end
/-- What Cut itself has laid: the log's address, what it will answer, how many are gone. -/
def CutX (x l m : Nat) (w : World) : Prop := w.heap[x]? = some (.cells #[.pointer (some ⟨l, 0, none⟩)] 30 (0, 0)) ∧ w.heap[x + 1]? = some (.cells #[.int .i64 0] 31 (0, 0)) ∧ w.heap[x + 1 + 1]? = some (.cells #[.int .i64 (m : Int)] 3 (0, 0))
section
variable {x l m : Nat} {w w' : World}
theorem CutX.next {T : Nat → Prop} (h : CutX x l m w) (hc : Chg T w w') (h0 : ¬ T x) (h1 : ¬ T (x + 1)) (h2 : ¬ T (x + 1 + 1)) : CutX x l m w' :=
  ⟨by rw [hc.block _ (Array.getElem?_eq_some_iff.1 h.1).1 h0]; exact h.1, by rw [hc.block _ (Array.getElem?_eq_some_iff.1 h.2.1).1 h1]; exact h.2.1, by rw [hc.block _ (Array.getElem?_eq_some_iff.1 h.2.2).1 h2]; exact h.2.2⟩
theorem CutX.lt (h : CutX x l m w) : x + 1 + 1 < w.heap.size := (Array.getElem?_eq_some_iff.1 h.2.2).1
theorem CutX.below (h : CutX x l m w) (hb : Below w.heap.size w w') : CutX x l m w' := h.next (Chg.of_below hb) (by have := h.lt; omega) (by have := h.lt; omega) (by have := h.lt; omega)
theorem CutX.cells (h : CutX x l m w) : w.cell? ⟨x, 0, none⟩ = some (.pointer (some ⟨l, 0, none⟩)) ∧ w.cell? ⟨x + 1, 0, none⟩ = some (.int .i64 0) ∧ w.cell? ⟨x + 1 + 1, 0, none⟩ = some (.int .i64 (m : Int)) ∧ w.frozen? ⟨x + 1, 0, none⟩ = false ∧ w.frozen? ⟨x + 1 + 1, 0, none⟩ = false :=
  ⟨(cell_one h.1).1, (cell_one h.2.1).1, (cell_one h.2.2).1, (cell_one h.2.1).2, (cell_one h.2.2).2⟩
/-- A number in memory. -/
def cellNat (w : World) (b : Nat) : Nat := match w.cell? ⟨b, 0, none⟩ with
  | some v => (intOf v).toNat
  | none => 0
theorem CutX.num (h : CutX x l m w) : cellNat w (x + 1 + 1) = m := by
  unfold cellNat
  rw [h.cells.2.2.1]
  simp [intOf]
theorem CutX.set (h : CutX x l m w) (k : Nat) : CutX x l k (w.setCell ⟨x + 1 + 1, 0, none⟩ (.int .i64 (k : Int))) ∧ Chg (fun b => b = x + 1 + 1) w (w.setCell ⟨x + 1 + 1, 0, none⟩ (.int .i64 (k : Int))) := by
  have hc : Chg (fun b => b = x + 1 + 1) w (w.setCell ⟨x + 1 + 1, 0, none⟩ (.int .i64 (k : Int))) := (Chg.refl (fun b => b = x + 1 + 1) w).put (x + 1 + 1) 0 _ rfl
  refine ⟨⟨?_, ?_, ?_⟩, hc⟩
  · rw [hc.block _ (Array.getElem?_eq_some_iff.1 h.1).1 (by omega)]; exact h.1
  · rw [hc.block _ (Array.getElem?_eq_some_iff.1 h.2.1).1 (by omega)]; exact h.2.1
  · rw [heap_setCell_same _ _ 0 _ _ _ h.2.2]; rfl
theorem CutX.set1 (h : CutX x l m w) : CutX x l m (w.setCell ⟨x + 1, 0, none⟩ (.int .i64 0)) ∧ Chg (fun b => b = x + 1) w (w.setCell ⟨x + 1, 0, none⟩ (.int .i64 0)) := by
  have hc : Chg (fun b => b = x + 1) w (w.setCell ⟨x + 1, 0, none⟩ (.int .i64 0)) := (Chg.refl (fun b => b = x + 1) w).put (x + 1) 0 _ rfl
  refine ⟨⟨?_, ?_, ?_⟩, hc⟩
  · rw [hc.block _ (Array.getElem?_eq_some_iff.1 h.1).1 (by omega)]; exact h.1
  · rw [heap_setCell_same _ _ 0 _ _ _ h.2.1]; rfl
  · rw [hc.block _ (Array.getElem?_eq_some_iff.1 h.2.2).1 (by omega)]; exact h.2.2
end
end Go.Proofs.YtcielagfajdbeaaGreatDoor

/- The log's Cut, walked. -/
namespace Go.Proofs.YtcielagfajdbeaaGreatDoor
open Go.RowKit
set_option linter.unusedVariables false
set_option maxRecDepth 100000

section
variable {B l d size : Nat} {nm : ByteArray} {sv : Value} {P : List (Sg × Value)} {U : Nat → List Value} {own : Nat → Option LRole} {n : Nat} {od0 : Nat → Option Role} {st0 : Nm → Option (List UInt8 × Nat)} {sz : Nat} {w : World}
/-- What Cut's loop keeps. -/
def CutR (B l d size : Nat) (nm : ByteArray) (sv : Value) (P : List (Sg × Value)) (U : Nat → List Value) (own : Nat → Option LRole) (n : Nat) (od0 : Nat → Option Role) (index : Nat) (w : World) (m : Nat) (W : World) : Prop :=
  ∃ od st, m < P.length ∧ (∀ (i : Nat) p, i < m → P[i + 1]? = some p → p.1.1 ≤ index) ∧ WM B l d size nm sv P U own n od st m W ∧ CutX w.heap.size l m W ∧ (∀ b, od b ≠ none → od0 b ≠ none) ∧ Chg (fun b => own b ≠ none ∨ od0 b ≠ none) w W

theorem cut_fin {od : Nat → Option Role} {st : Nm → Option (List UInt8 × Nat)} {m : Nat} {W w4 : World} {sv' : Value} (hM : WM B l d size nm sv P U own n od st m W) (hm : m < P.length) (hnb : ∀ (i : Nat) p, P[i]? = some p → p.1.1 < 100) (hns : nm.size ≤ 40) (hL : LgI B l d size nm false sv' (P.drop m) (fun i => U (i + m)) (ownCut own m) w4) (hc : Chg (fun b => own b ≠ none) W w4) :
    WI B l d size nm sv' (P.drop m) (fun i => U (i + m)) (ownCut own m) n od st (szD (sgs P) m) w4 :=
  ⟨hL, hM.dk.next hc (fun b hb q => hb (hM.ap b q)), fun b hb => hM.ap b ((ownCut_ne own m b).1 hb), fun i p e => hM.fl (m + i) p (by omega) (by rw [List.getElem?_drop] at e; exact e), fun i p e => hnb (m + i) p (by rw [List.getElem?_drop] at e; exact e), by rw [List.length_drop]; omega, hns⟩

set_option maxHeartbeats 4000000 in
theorem lcut_any (h : WI B l d size nm sv P U own n od0 st0 sz w) (hsz : sz = szD (sgs P) 0) (hz : sz ≤ 16777216) (hP : P.length ≤ 1048576) (hmono : ∀ (i j : Nat) p q, i < j → P[i]? = some p → P[j]? = some q → p.1.1 < q.1.1) {index : Nat} (hi : index < 18446744073709551616) {k : Nat} (hk : k < P.length) (hlo : ∀ (i : Nat) p, i < k → P[i + 1]? = some p → p.1.1 ≤ index) (hhi : ∀ p, P[k + 1]? = some p → index < p.1.1) :
    Calls Tryz.prog 30 #[.pointer (some ⟨l, 0, none⟩), .int .u64 (index : Int)] w fun r w' => r = .returned (.int .i64 0) ∧ (∃ sv' od' st', WI B l d size nm sv' (P.drop k) (fun i => U (i + k)) (ownCut own k) n od' st' (szD (sgs P) k) w') ∧ Chg (fun b => own b ≠ none ∨ od0 b ≠ none) w w' := by
  have hmf : ∀ (fn : Fn) (first cap : Array Value) (w : World), (Instr.makeFunc fn first cap).run Tryz.prog w = .ok (.func fn first cap) w := fun _ _ _ _ => rfl
  have c4 := h.lg.cells.2.2.2.2.1
  have hlw := (h.lg.lo l (by rw [h.lg.ol]; simp)).2
  have hnb := h.nb
  have hns := h.ns
  have hox : ∀ b, w.heap.size ≤ b → own b = none ∧ od0 b = none := fun b hb => by
    constructor
    · by_cases q : own b = none
      · exact q
      · have := (h.lg.lo b q).2; omega
    · by_cases q : od0 b = none
      · exact q
      · have := (h.dk.blo q).2; omega
  have hb0 : Below w.heap.size w (((w.alloc (.cells #[.pointer (some ⟨l, 0, none⟩)] 30)).alloc (.cells #[.int .i64 0] 31)).alloc (.cells #[.int .i64 0] 3)) := Below.tr (Below.tr (bel_alW w _) (bel_alW _ _)) (bel_alW _ _)
  have hX0 : CutX w.heap.size l 0 (((w.alloc (.cells #[.pointer (some ⟨l, 0, none⟩)] 30)).alloc (.cells #[.int .i64 0] 31)).alloc (.cells #[.int .i64 0] 3)) := by
    refine ⟨?_, ?_, ?_⟩
    · rw [Below.heap_alloc _ _ _ (by simp; omega), Below.heap_alloc _ _ _ (by simp)]; exact heap_alloc_new w _
    · rw [Below.heap_alloc _ _ _ (by simp)]
      have := heap_alloc_new (w.alloc (.cells #[.pointer (some ⟨l, 0, none⟩)] 30)) (.cells #[.int .i64 0] 31)
      rwa [World.size_alloc] at this
    · have := heap_alloc_new ((w.alloc (.cells #[.pointer (some ⟨l, 0, none⟩)] 30)).alloc (.cells #[.int .i64 0] 31)) (.cells #[.int .i64 0] 3)
      rwa [World.size_alloc, World.size_alloc] at this
  have hR0 : CutR B l d size nm sv P U own n od0 index w 0 (((w.alloc (.cells #[.pointer (some ⟨l, 0, none⟩)] 30)).alloc (.cells #[.int .i64 0] 31)).alloc (.cells #[.int .i64 0] 3)) := by
    have hI := h.below hb0
    exact ⟨od0, st0, by omega, fun i p q => by omega, ⟨hI.lg, by rw [← hsz]; exact hI.dk, hI.ap, fun i p _ e => hI.fl i p e⟩, hX0, fun b q => q, (Chg.of_below hb0).mono (fun b q1 q2 => by omega)⟩
  have HR0 : Hid (CutR B l d size nm sv P U own n od0 index w 0 (((w.alloc (.cells #[.pointer (some ⟨l, 0, none⟩)] 30)).alloc (.cells #[.int .i64 0] 31)).alloc (.cells #[.int .i64 0] 3))) := hR0
  have hszm : ∀ m, szD (sgs P) m ≤ 16777216 := fun m => by
    induction m with
    | zero => omega
    | succ m ih =>
      by_cases hm : m < (sgs P).length
      · have := szD_succ (sgs P) m _ (List.getElem?_eq_getElem hm); omega
      · unfold szD; rw [List.drop_eq_nil_of_le (by omega)]; simp [recsOf, frs]
  have HI : Hid (WI B l d size nm sv P U own n od0 st0 sz w) := h
  clear h hR0 hX0 hb0 hsz
  go_enter_defers Tryz.func30, Tryz.ntmps30
  go_wp2_with fail
  generalize (((w.alloc (.cells #[.pointer (some ⟨l, 0, none⟩)] 30)).alloc (.cells #[.int .i64 0] 31)).alloc (.cells #[.int .i64 0] 3)) = W0 at *
  clear c4
  go_loopw [6] (fun _ W => ∃ m, CutR B l d size nm sv P U own n od0 index w m W) (fun _ W => P.length - cellNat W (w.heap.size + 1 + 1))
  case atStart => exact ⟨0, HR0.out⟩
  case round =>
    obtain ⟨m, od, st, hm, hlom, hM, hX, hod, hch⟩ := hrel
    clear HR0
    obtain ⟨cx, ce, cy, _, _⟩ := hX.cells
    obtain ⟨p, e⟩ : ∃ p, P[m]? = some p := ⟨_, List.getElem?_eq_getElem hm⟩
    obtain ⟨g, c, ev, h1, h2, s0, _, _⟩ := hM.lg.seg m p e
    have c0 := hM.lg.cells.1
    have c3 := hM.lg.cells.2.2.2.1
    rw [ev] at c3
    have hX1 := hX.num
    obtain ⟨m1, hm1⟩ : ∃ m1, m1 = m + 1 := ⟨_, rfl⟩
    have e1 : (m : Int) + 1 = (m1 : Int) := by omega
    have e2 : (m : Int) < (P.length : Int) := by omega
    unfold maxLen at h2
    by_cases hlast : m1 < P.length
    · obtain ⟨q, eq⟩ : ∃ q, P[m1]? = some q := ⟨_, List.getElem?_eq_getElem hlast⟩
      obtain ⟨g', c', ev', _, _, sq, _, _⟩ := hM.lg.seg m1 q eq
      rw [ev] at ev'
      simp only [Value.slice.injEq, Option.some.injEq, Addr.mk.injEq, and_true, true_and] at ev'
      obtain ⟨rfl, rfl⟩ := ev'
      have e3 : decide (m1 < P.length) = true := decide_eq_true hlast
      have e4 : decide ((m1 : Int) < (P.length : Int)) = true := decide_eq_true (by omega)
      by_cases hq : q.1.1 ≤ index
      · have e5 : decide (q.1.1 ≤ index) = true := decide_eq_true hq
        have e6 : decide ((q.1.1 : Int) ≤ (index : Int)) = true := decide_eq_true (by omega)
        have H : Hid _ := And.intro hm1 (And.intro hlom (And.intro hod (And.intro hch hX1)))
        have HM : Hid (WM B l d size nm sv P U own n od st m wr) := hM
        have HX : Hid (CutX w.heap.size l m wr) := hX
        clear hlom hod hch hX1 hM hX hlo hhi hm1
        go_wp2_with fail
        go_quiet (fail)
        go_wp2_with fail
        have hM1 := HM.out.below (Below.dN wr nq)
        have hX1 := HX.out.below (Below.dN wr nq)
        have hcl : ∀ W, Below (wr.drewN nq).heap.size (wr.drewN nq) W → W.cell? ⟨w.heap.size, 0, none⟩ = some (.pointer (some ⟨l, 0, none⟩)) ∧ W.cell? ⟨l, 0, none⟩ = some (.pointer (some ⟨d, 0, none⟩)) ∧ W.cell? ⟨l, 3, none⟩ = some (.slice (some ⟨g, 0, none⟩) P.length c) ∧ W.cell? ⟨w.heap.size + 1 + 1, 0, none⟩ = some (.int .i64 (m : Int)) ∧ W.cell? ⟨g, m * 3, none⟩ = some (.int .u64 (p.1.1 : Int)) := fun W hW => by
          have hXW := (hX1.below hW).cells
          have hMW := (hM1.below hW).lg
          have hc3 := hMW.cells.2.2.2.1
          rw [ev] at hc3
          obtain ⟨g2, c2, ev2, _, _, s2, _, _⟩ := hMW.seg m p e
          rw [ev] at ev2
          simp only [Value.slice.injEq, Option.some.injEq, Addr.mk.injEq, and_true, true_and] at ev2
          obtain ⟨rfl, rfl⟩ := ev2
          exact ⟨hXW.1, hMW.cells.1, hc3, hXW.2.2.1, s2⟩
        have hfile := fun W (hW : Below (wr.drewN nq).heap.size (wr.drewN nq) W) => file_any (hM1.below hW).lg p.1.1 (hnb m p e) hns
        obtain ⟨sy, hst⟩ := hM1.fl m p (Nat.le_refl _) e
        have hfs := fname_size nm p.1.1 (hnb m p e)
        have hsz1 := szD_succ (sgs P) m p.1 (by rw [List.getElem?_map, e]; rfl)
        have hrem := fun W (hW : Below (wr.drewN nq).heap.size (wr.drewN nq) W) => remove_thereW (hM1.below hW).dk (fname nm p.1.1) (by unfold maxLen; omega) _ hst (show (frs p.1.2).length ≤ szD (sgs P) m by omega) (by have := hszm m; omega)
        have hmid : ∀ w2 w3 od3, Below (wr.drewN nq).heap.size (wr.drewN nq) w2 → Dk B d n od3 (setF st (fname nm p.1.1).data.toList none) (szD (sgs P) m - (frs p.1.2).length) (alive d) 0 w3 → (∀ b, od3 b ≠ none → od b ≠ none) → Chg (fun b => od b ≠ none) w2 w3 → WM B l d size nm sv P U own n od3 (setF st (fname nm p.1.1).data.toList none) (m + 1) w3 ∧ CutX w.heap.size l m w3 ∧ Chg (fun b => own b ≠ none ∨ od0 b ≠ none) w w3 := fun w2 w3 od3 hb hd ho hc => by
          have hM2 := hM1.below hb
          have hnx : ∀ b, w.heap.size ≤ b → ¬ od b ≠ none := fun b hb q => H.out.2.2.1 b q (hox b hb).2
          refine ⟨hM2.gone hnb hmono e hd ho hc, (hX1.below hb).next hc (hnx _ (by omega)) (hnx _ (by omega)) (hnx _ (by omega)), ?_⟩
          have hb2 : Below wr.heap.size wr w2 := Below.tr (Below.dN wr nq) hb
          have hwr := H.out.2.2.2.1.size
          exact (H.out.2.2.2.1.trans ((Chg.of_below hb2).mono (fun b q1 q2 => .inr (by omega)))).trans (hc.mono (fun b _ q => .inl (.inr (H.out.2.2.1 b q))))
        have hcm : ∀ w3 od3 st3, WM B l d size nm sv P U own n od3 st3 (m + 1) w3 → CutX w.heap.size l m w3 → w3.cell? ⟨w.heap.size, 0, none⟩ = some (.pointer (some ⟨l, 0, none⟩)) ∧ w3.cell? ⟨l, 0, none⟩ = some (.pointer (some ⟨d, 0, none⟩)) ∧ w3.cell? ⟨l, 3, none⟩ = some (.slice (some ⟨g, 0, none⟩) P.length c) ∧ w3.cell? ⟨w.heap.size + 1 + 1, 0, none⟩ = some (.int .i64 (m : Int)) ∧ w3.cell? ⟨g, m * 3, none⟩ = some (.int .u64 (p.1.1 : Int)) ∧ w3.frozen? ⟨w.heap.size + 1 + 1, 0, none⟩ = false := fun w3 od3 st3 hM3 hX3 => by
          have hMW := hM3.lg
          have hc3 := hMW.cells.2.2.2.1
          rw [ev] at hc3
          obtain ⟨g2, c2, ev2, _, _, s2, _, _⟩ := hMW.seg m p e
          rw [ev] at ev2
          simp only [Value.slice.injEq, Option.some.injEq, Addr.mk.injEq, and_true, true_and] at ev2
          obtain ⟨rfl, rfl⟩ := ev2
          exact ⟨hX3.cells.1, hMW.cells.1, hc3, hX3.cells.2.2.1, s2, hX3.cells.2.2.2.2⟩
        obtain ⟨t0, t1, t2, t3, t4⟩ := hcl _ (Below.refl _ _)
        clear cx ce cy s0 c0 c3 sq hst hsz1 hM1 hX1
        generalize wr.drewN nq = W1 at *
        go_region_held3 (fun w' => w'.cell? ⟨w.heap.size, 0, none⟩ = some (.pointer (some ⟨l, 0, none⟩)) ∧ w'.cell? ⟨l, 0, none⟩ = some (.pointer (some ⟨d, 0, none⟩)) ∧ w'.cell? ⟨l, 3, none⟩ = some (.slice (some ⟨g, 0, none⟩) P.length c) ∧ w'.cell? ⟨w.heap.size + 1 + 1, 0, none⟩ = some (.int .i64 (m : Int)) ∧ w'.cell? ⟨g, m * 3, none⟩ = some (.int .u64 (p.1.1 : Int))) (go_keep) (first
          | (go_at_call 44; refine (hfile _ (Below.dN W1 _)).mono ?_; rintro e w2 ⟨rfl, hb2⟩; have hb12 : Below W1.heap.size W1 w2 := Below.tr (Below.dN W1 _) hb2; obtain ⟨x0, x1, x2, x3, x4⟩ := hcl _ hb12)
          | (go_at_call 28; refine (hrem _ hb12).mono ?_; rintro e w3 ⟨rfl, ⟨od3, hd3, ho3⟩, hc3⟩; obtain ⟨hM3, hX3, hch3⟩ := hmid w2 w3 od3 hb12 hd3 ho3 hc3; obtain ⟨y0, y1, y2, y3, y4, y5⟩ := hcm w3 od3 _ hM3 hX3)
          | fail)
        have HN : Hid _ := And.intro hM3 (And.intro hX3 (And.intro hch3 ho3))
        clear hM3 hX3 hch3 ho3 hd3
        go_wp2_with fail
        obtain ⟨hM3, hX3, hch3, ho3⟩ := HN.out
        obtain ⟨hm1, hlom, hod, hch, hXn⟩ := H.out
        obtain ⟨k1, k2⟩ := hX3.set m1
        subst hm1
        have hodn : od3 (w.heap.size + 1 + 1) = none := by
          by_cases r : od3 (w.heap.size + 1 + 1) = none
          · exact r
          · exact absurd (hox (w.heap.size + 1 + 1) (by omega)).2 (hod _ (ho3 _ r))
        refine ⟨⟨m + 1, od3, _, hlast, fun i r hi hr => ?_, hM3.out k2 (hox _ (by omega)).1 hodn, k1, fun b q => hod b (ho3 b q), hch3.trans (k2.mono (fun b _ q => .inr (by omega)))⟩, by rw [k1.num, hXn]; omega⟩
        rcases Nat.lt_or_ge i m with a | a
        · exact hlom i r a hr
        · obtain rfl : i = m := by omega
          rw [eq] at hr
          obtain rfl := Option.some.inj hr
          exact hq
      · have e5 : decide (q.1.1 ≤ index) = false := decide_eq_false hq
        have e6 : decide ((q.1.1 : Int) ≤ (index : Int)) = false := decide_eq_false (by omega)
        have hmk : m = k := by
          rcases Nat.lt_trichotomy m k with a | a | a
          · have := hlo m q a (by rw [← hm1]; exact eq); omega
          · exact a
          · obtain ⟨r, er⟩ : ∃ r, P[k + 1]? = some r := ⟨_, List.getElem?_eq_getElem (by omega)⟩
            have := hlom k r a er; have := hhi r er; omega
        subst hmk
        have H : Hid _ := And.intro hod hch
        have HM : Hid (WM B l d size nm sv P U own n od st m wr) := hM
        have HX : Hid (CutX w.heap.size l m wr) := hX
        clear hlom hod hch hX1 hM hX hlo hhi hm1
        go_wp2_with fail
        go_quiet (fail)
        go_wp2_with fail
        have hX2 := (HX.out.below (Below.dN wr nq)).set1
        have hodn : ∀ b, w.heap.size ≤ b → od b = none := fun b hb => by
          by_cases r : od b = none
          · exact r
          · exact absurd (hox b hb).2 (H.out.1 b r)
        have hM2 := (HM.out.below (Below.dN wr nq)).out hX2.2 (hox _ (by omega)).1 (hodn _ (by omega))
        have hch2 : Chg (fun b => own b ≠ none ∨ od0 b ≠ none) w ((wr.drewN nq).setCell ⟨w.heap.size + 1, 0, none⟩ (.int .i64 0)) := (H.out.2.trans ((Chg.of_below (Below.dN wr nq)).mono (fun b q1 q2 => .inl (by omega)))).trans (hX2.2.mono (fun b _ q => .inr (by omega)))
        refine leaves_cons (f := 58) (args := #[.pointer (some ⟨w.heap.size, 0, none⟩), .pointer (some ⟨w.heap.size + 1 + 1, 0, none⟩)]) (by simp) (by simp [go_sem]) ?_
        refine (gone_any hM2.lg .returning (k := m) (n1 := P.length - m) hX2.1.cells.1 hX2.1.cells.2.2.1 hm hP (by omega) (hox _ (by omega)).1 (hox _ (by omega)).1).mono ?_
        rintro e' u' w4 ⟨rfl, ⟨v, rfl⟩, ⟨sv', hL4⟩, hc4⟩
        have hX4 := hX2.1.next hc4 (by simp [(hox w.heap.size (by omega)).1]) (by simp [(hox (w.heap.size + 1) (by omega)).1]) (by simp [(hox (w.heap.size + 1 + 1) (by omega)).1])
        have hce := hX4.cells.2.1
        refine leaves_cons (f := 42) (args := #[.pointer (some ⟨l, 0, none⟩), .pointer (some ⟨w.heap.size + 1, 0, none⟩)]) (by simp [settle]) (by simp [go_sem]) ?_
        refine (look_d (w.heap.size + 1) hce _ _).mono ?_
        rintro e' u' w5 ⟨rfl, rfl, rfl⟩
        exact ⟨.int .i64 0, by simp [results, Tryz.results30, go_sem, hce]; try rfl, rfl, ⟨sv', od, st, cut_fin hM2 hm hnb hns hL4 hc4⟩, hch2.trans (hc4.mono (fun b _ q => .inl (.inl q)))⟩
    · have e3 : decide (m1 < P.length) = false := decide_eq_false hlast
      have e4 : decide ((m1 : Int) < (P.length : Int)) = false := decide_eq_false (by omega)
      have hmk : m = k := by
        rcases Nat.lt_trichotomy m k with a | a | a
        · omega
        · exact a
        · obtain ⟨r, er⟩ : ∃ r, P[k + 1]? = some r := ⟨_, List.getElem?_eq_getElem (by omega)⟩
          have := hlom k r a er; have := hhi r er; omega
      subst hmk
      have H : Hid _ := And.intro hod hch
      have HM : Hid (WM B l d size nm sv P U own n od st m wr) := hM
      have HX : Hid (CutX w.heap.size l m wr) := hX
      clear hlom hod hch hX1 hM hX hlo hhi hm1
      go_wp2_with fail
      go_quiet (fail)
      go_wp2_with fail
      have hX2 := (HX.out.below (Below.dN wr nq)).set1
      have hodn : ∀ b, w.heap.size ≤ b → od b = none := fun b hb => by
        by_cases r : od b = none
        · exact r
        · exact absurd (hox b hb).2 (H.out.1 b r)
      have hM2 := (HM.out.below (Below.dN wr nq)).out hX2.2 (hox _ (by omega)).1 (hodn _ (by omega))
      have hch2 : Chg (fun b => own b ≠ none ∨ od0 b ≠ none) w ((wr.drewN nq).setCell ⟨w.heap.size + 1, 0, none⟩ (.int .i64 0)) := (H.out.2.trans ((Chg.of_below (Below.dN wr nq)).mono (fun b q1 q2 => .inl (by omega)))).trans (hX2.2.mono (fun b _ q => .inr (by omega)))
      refine leaves_cons (f := 58) (args := #[.pointer (some ⟨w.heap.size, 0, none⟩), .pointer (some ⟨w.heap.size + 1 + 1, 0, none⟩)]) (by simp) (by simp [go_sem]) ?_
      refine (gone_any hM2.lg .returning (k := m) (n1 := P.length - m) hX2.1.cells.1 hX2.1.cells.2.2.1 hm hP (by omega) (hox _ (by omega)).1 (hox _ (by omega)).1).mono ?_
      rintro e' u' w4 ⟨rfl, ⟨v, rfl⟩, ⟨sv', hL4⟩, hc4⟩
      have hX4 := hX2.1.next hc4 (by simp [(hox w.heap.size (by omega)).1]) (by simp [(hox (w.heap.size + 1) (by omega)).1]) (by simp [(hox (w.heap.size + 1 + 1) (by omega)).1])
      have hce := hX4.cells.2.1
      refine leaves_cons (f := 42) (args := #[.pointer (some ⟨l, 0, none⟩), .pointer (some ⟨w.heap.size + 1, 0, none⟩)]) (by simp [settle]) (by simp [go_sem]) ?_
      refine (look_d (w.heap.size + 1) hce _ _).mono ?_
      rintro e' u' w5 ⟨rfl, rfl, rfl⟩
      exact ⟨.int .i64 0, by simp [results, Tryz.results30, go_sem, hce]; try rfl, rfl, ⟨sv', od, st, cut_fin hM2 hm hnb hns hL4 hc4⟩, hch2.trans (hc4.mono (fun b _ q => .inl (.inl q)))⟩
end
end Go.Proofs.YtcielagfajdbeaaGreatDoor

/- The log's Get. -/
namespace Go.Proofs.YtcielagfajdbeaaGreatDoor
open Go.RowKit
set_option linter.unusedVariables false
set_option maxRecDepth 100000

section
variable {B l d size : Nat} {nm : ByteArray} {over : Bool} {sv : Value} {P : List (Sg × Value)} {U : Nat → List Value} {own : Nat → Option LRole} {w w' : World}
/-- The question that Get's search asks. -/
theorem ask_any (h : LgI B l d size nm over sv P U own w) {x y : Nat} {index : Nat} (cx : w.cell? ⟨x, 0, none⟩ = some (.pointer (some ⟨l, 0, none⟩))) (cy : w.cell? ⟨y, 0, none⟩ = some (.int .u64 (index : Int))) {k : Nat} {p : Sg × Value} (e : P[k]? = some p) :
    Calls Tryz.prog 57 #[.int .i64 (k : Int), .pointer (some ⟨x, 0, none⟩), .pointer (some ⟨y, 0, none⟩)] w fun r w' => r = .returned (.bool (decide (index < p.1.1))) ∧ ∃ q, w' = w.drewN q := by
  obtain ⟨g, c, ev, h1, h2, s0, _, _⟩ := h.seg k p e
  have c3 := h.cells.2.2.2.1
  rw [ev] at c3
  have hl := (List.getElem?_eq_some_iff.1 e).1
  have hi : (k : Int) < (P.length : Int) := by omega
  clear h e ev
  go_enter Tryz.func57, Tryz.ntmps57
  go_wp2_with fail
  go_quiet (fail)
  go_wp2_with fail
  go_ret
  exact ⟨rfl, _, rfl⟩

set_option maxHeartbeats 1000000 in
theorem search_any (h : LgI B l d size nm over sv P U own w) {x y : Nat} {index : Nat} (cx : w.cell? ⟨x, 0, none⟩ = some (.pointer (some ⟨l, 0, none⟩))) (cy : w.cell? ⟨y, 0, none⟩ = some (.int .u64 (index : Int))) (hP : P.length ≤ 1048576) (hmono : ∀ (i j : Nat) p q, i < j → P[i]? = some p → P[j]? = some q → p.1.1 < q.1.1) :
    Calls Tryz.prog 56 #[.int .i64 (P.length : Int), .func (.func 57) #[] #[.pointer (some ⟨x, 0, none⟩), .pointer (some ⟨y, 0, none⟩)]] w fun r w' => (∃ k : Nat, r = .returned (.int .i64 (k : Int)) ∧ k ≤ P.length ∧ (∀ (i : Nat) p, i < k → P[i]? = some p → p.1.1 ≤ index) ∧ ∀ (i : Nat) p, k ≤ i → P[i]? = some p → index < p.1.1) ∧ ∃ q, w' = w.drewN q := by
  have hask := fun q k p (e : P[k]? = some p) => ask_any (h.drN q) (x := x) (y := y) (index := index) cx cy e
  clear h
  go_enter Tryz.func56, Tryz.ntmps56
  go_wp2_with fail
  go_loopw [5, 6, 7] (fun i j _ wr => ∃ (i0 j0 : Nat), i0 ≤ j0 ∧ j0 ≤ P.length ∧ i = .int .i64 i0 ∧ j = .int .i64 j0 ∧ Hid (∀ (k : Nat) p, k < i0 → P[k]? = some p → p.1.1 ≤ index) ∧ Hid (∀ (k : Nat) p, j0 ≤ k → P[k]? = some p → index < p.1.1) ∧ ∃ q, wr = w.drewN q) (fun i j _ _ => (intOf j).toNat - (intOf i).toNat)
  case atStart => exact ⟨0, P.length, by omega, by omega, rfl, rfl, (fun k p q => by omega), (fun k p q e => by have := (List.getElem?_eq_some_iff.1 e).1; omega), 0, rfl⟩
  case round =>
    obtain ⟨i0, j0, hij, hjn, rfl, rfl, HLO, HHI, q, rfl⟩ := hrel
    by_cases hlt : i0 < j0
    · obtain ⟨k, hk⟩ : ∃ k, (i0 + j0) / 2 = k := ⟨_, rfl⟩
      obtain ⟨p, hp⟩ : ∃ p, P[k]? = some p := ⟨_, List.getElem?_eq_getElem (by omega)⟩
      have hf := hask q k p hp
      have hki : ((i0 : Int) + (j0 : Int)) / 2 = (k : Int) := by omega
      have hk1 : i0 ≤ k ∧ k < j0 := by omega
      have HP : Hid _ := hp
      have HM : Hid _ := hmono
      clear hask hmono hp hk
      by_cases hd : index < p.1.1
      · rw [decide_eq_true hd] at hf
        have HD : Hid _ := hd
        clear hd
        go_wp2_with fail
        refine hf.mono ?_
        rintro e w1 ⟨rfl, q1, rfl⟩
        go_wp2_with fail
        refine ⟨⟨i0, k, by omega, by omega, rfl, rfl, HLO, fun m r hm hr => ?_, q + q1, by simp [World.drewN]⟩, by simp [intOf]; omega⟩
        rcases Nat.lt_or_ge k m with a | a
        · have := HM.out k m p r a HP.out hr; have := HD.out; omega
        · obtain rfl : m = k := by omega
          rw [HP.out] at hr
          obtain rfl := Option.some.inj hr
          exact HD.out
      · rw [decide_eq_false hd] at hf
        have HD : Hid (p.1.1 ≤ index) := Nat.le_of_not_lt hd
        clear hd
        go_wp2_with fail
        refine hf.mono ?_
        rintro e w1 ⟨rfl, q1, rfl⟩
        go_wp2_with fail
        refine ⟨⟨k + 1, j0, by omega, by omega, by go_num, rfl, fun m r hm hr => ?_, HHI, q + q1, by simp [World.drewN]⟩, by simp [intOf]; omega⟩
        rcases Nat.lt_or_ge m k with a | a
        · exact Nat.le_trans (Nat.le_of_lt (HM.out m k r p a hr HP.out)) HD.out
        · obtain rfl : m = k := by omega
          rw [HP.out] at hr
          obtain rfl := Option.some.inj hr
          exact HD.out
    · obtain rfl : i0 = j0 := by omega
      clear hask
      go_wp2_with fail
      go_ret
      exact ⟨⟨i0, rfl, hjn, HLO.out, HHI.out⟩, q, rfl⟩

set_option maxHeartbeats 1000000 in
/-- A record that is there. -/
theorem get_there (h : LgI B l d size nm false sv P U own w) (hP : P.length ≤ 1048576) (hmono : ∀ (i j : Nat) p q, i < j → P[i]? = some p → P[j]? = some q → p.1.1 < q.1.1) (hchain : ∀ (i : Nat) p q, P[i]? = some p → P[i + 1]? = some q → q.1.1 = sgNext p.1) {k j : Nat} {p : Sg × Value} (e : P[k]? = some p) {r : List UInt8} (er : p.1.2[j]? = some r) (hlt : sgNext p.1 < 100) (hrl : r.length ≤ 16777216) {m : Nat} (hm : P.length = m + 1) {pl : Sg × Value} (el : P[m]? = some pl) (hll : sgNext pl.1 < 100) :
    Calls Tryz.prog 29 #[.pointer (some ⟨l, 0, none⟩), .int .u64 ((p.1.1 + j : Nat) : Int)] w fun x w' => (∃ v, x = .returned (.tuple #[v, .int .i64 0]) ∧ Ow w.heap.size w' v r) ∧ Below w.heap.size w w' := by
  have hj := (List.getElem?_eq_some_iff.1 er).1
  have hk := (List.getElem?_eq_some_iff.1 e).1
  have hnx : p.1.1 + j < sgNext p.1 := by unfold sgNext; omega
  obtain ⟨p0, e0⟩ : ∃ p0, P[0]? = some p0 := ⟨_, List.getElem?_eq_getElem (by omega)⟩
  have hfirst : p0.1.1 ≤ p.1.1 + j := by
    rcases Nat.eq_zero_or_pos k with q | q
    · subst q; rw [e0] at e; obtain rfl := Option.some.inj e; omega
    · have := hmono 0 k p0 p q e0 e; omega
  have hnext : p.1.1 + j < sgNext pl.1 := by
    rcases Nat.lt_or_ge k m with q | q
    · have h1 := hmono k m p pl q e el
      obtain ⟨pn, en⟩ : ∃ pn, P[k + 1]? = some pn := ⟨_, List.getElem?_eq_getElem (by omega)⟩
      have h2 := hchain k p pn e en
      have h3 : pn.1.1 ≤ pl.1.1 := by
        rcases Nat.lt_or_ge (k + 1) m with a | a
        · exact Nat.le_of_lt (hmono _ _ _ _ a en el)
        · obtain rfl : m = k + 1 := by omega
          rw [el] at en; obtain rfl := Option.some.inj en; exact Nat.le_refl _
      unfold sgNext at *
      omega
    · obtain rfl : k = m := by omega
      rw [e] at el; obtain rfl := Option.some.inj el; exact hnx
  have hb0 : Below w.heap.size w ((w.alloc (.cells #[.pointer (some ⟨l, 0, none⟩)] 30)).alloc (.cells #[.int .u64 ((p.1.1 + j : Nat) : Int)] 38)) := Below.tr (bel_alW w _) (bel_alW _ _)
  have hx0 : ((w.alloc (.cells #[.pointer (some ⟨l, 0, none⟩)] 30)).alloc (.cells #[.int .u64 ((p.1.1 + j : Nat) : Int)] 38)).cell? ⟨w.heap.size, 0, none⟩ = some (.pointer (some ⟨l, 0, none⟩)) := by
    have e1 : ((w.alloc (.cells #[.pointer (some ⟨l, 0, none⟩)] 30)).alloc (.cells #[.int .u64 ((p.1.1 + j : Nat) : Int)] 38)).heap[w.heap.size]? = some (.cells #[.pointer (some ⟨l, 0, none⟩)] 30 (0, 0)) := by rw [Below.heap_alloc _ _ _ (by simp)]; exact heap_alloc_new w _
    exact (cell_one e1).1
  have hy0 : ((w.alloc (.cells #[.pointer (some ⟨l, 0, none⟩)] 30)).alloc (.cells #[.int .u64 ((p.1.1 + j : Nat) : Int)] 38)).cell? ⟨w.heap.size + 1, 0, none⟩ = some (.int .u64 ((p.1.1 + j : Nat) : Int)) := by
    have e1 := heap_alloc_new (w.alloc (.cells #[.pointer (some ⟨l, 0, none⟩)] 30)) (.cells #[.int .u64 ((p.1.1 + j : Nat) : Int)] 38)
    rw [World.size_alloc] at e1
    exact (cell_one e1).1
  have hL0 := h.below hb0
  have c4 := hL0.cells.2.2.2.2.1
  have HH : Hid _ := h
  have hmf : ∀ (fn : Fn) (first cap : Array Value) (w : World), (Instr.makeFunc fn first cap).run Tryz.prog w = .ok (.func fn first cap) w := fun _ _ _ _ => rfl
  generalize hidx : p.1.1 + j = index at *
  have g1 : ¬ (index : Int) < (p0.1.1 : Int) := by omega
  have g2 : ¬ (sgNext pl.1 : Int) ≤ (index : Int) := by omega
  have g3 : ¬ index < p0.1.1 := by omega
  have g4 : ¬ sgNext pl.1 ≤ index := by omega
  go_enter Tryz.func29, Tryz.ntmps29
  go_wp2_with fail
  generalize ((w.alloc (.cells #[.pointer (some ⟨l, 0, none⟩)] 30)).alloc (.cells #[.int .u64 (index : Int)] 38)) = W0 at *
  go_quiet (first | (go_at_call 20; refine Calls.quiet_of_same (v := .int .u64 (p0.1.1 : Int)) (first_any (hL0.drN _) p0 e0)) | fail)
  have hL1 := hL0.drN nq
  have hx1 : (W0.drewN nq).cell? ⟨w.heap.size, 0, none⟩ = some (.pointer (some ⟨l, 0, none⟩)) := hx0
  have hy1 : (W0.drewN nq).cell? ⟨w.heap.size + 1, 0, none⟩ = some (.int .u64 (index : Int)) := hy0
  have hb1 : Below w.heap.size w (W0.drewN nq) := Below.tr hb0 (Below.dN W0 nq)
  clear hL0 hx0 hy0 hb0 c4
  generalize W0.drewN nq = W1 at *
  go_wp2_with fail
  go_quiet (first | (go_at_call 23; refine Calls.quiet_of (v := .int .u64 (sgNext pl.1 : Int)) (lnext_any (hL1.drN _) hm pl el (by omega))) | fail)
  have hL2 := hL1.drN nq
  have hx2 : (W1.drewN nq).cell? ⟨w.heap.size, 0, none⟩ = some (.pointer (some ⟨l, 0, none⟩)) := hx1
  have hy2 : (W1.drewN nq).cell? ⟨w.heap.size + 1, 0, none⟩ = some (.int .u64 (index : Int)) := hy1
  have hb2 : Below w.heap.size w (W1.drewN nq) := Below.tr hb1 (Below.dN W1 nq)
  clear hL1 hx1 hy1 hb1
  generalize W1.drewN nq = W2 at *
  obtain ⟨g, c, ev, _, v2, _, _, _⟩ := hL2.seg k p e
  have c3 := hL2.cells.2.2.2.1
  rw [ev] at c3
  have hse := search_any hL2 hx2 hy2 hP hmono
  have HM : Hid _ := hm
  clear hm
  go_wp2_with fail
  refine hse.mono ?_
  rintro e' w3 ⟨⟨kk, rfl, hkk, hlo, hhi⟩, q3, rfl⟩
  have hkk1 : kk = k + 1 := by
    rcases Nat.lt_trichotomy kk (k + 1) with a | a | a
    · have := hhi k p (by omega) e; omega
    · exact a
    · obtain ⟨pn, en⟩ : ∃ pn, P[k + 1]? = some pn := ⟨_, List.getElem?_eq_getElem (by omega)⟩
      have := hlo (k + 1) pn a en
      have := hchain k p pn e en
      omega
  subst hkk1
  have hL3 := hL2.drN q3
  have hb3 : Below w.heap.size w (W2.drewN q3) := Below.tr hb2 (Below.dN W2 q3)
  have hx3 : (W2.drewN q3).cell? ⟨w.heap.size, 0, none⟩ = some (.pointer (some ⟨l, 0, none⟩)) := hx2
  have hy3 : (W2.drewN q3).cell? ⟨w.heap.size + 1, 0, none⟩ = some (.int .u64 (index : Int)) := hy2
  have d3 : (W2.drewN q3).cell? ⟨l, 3, none⟩ = some (.slice (some ⟨g, 0, none⟩) P.length c) := c3
  clear hse hlo hhi hx2 hy2 c3 hb2 hL2
  generalize W2.drewN q3 = W3 at *
  obtain ⟨g', c', ev', _, _, s0, s1, s2⟩ := hL3.seg k p e
  rw [ev] at ev'
  simp only [Value.slice.injEq, Option.some.injEq, Addr.mk.injEq, and_true, true_and] at ev'
  obtain ⟨rfl, rfl⟩ := ev'
  have n1 : IntKind.i64.wrap (((k + 1 : Nat) : Int) - 1) = (k : Int) := by rw [IntKind.wrap_i64]; omega
  have n2 : ((k + 1 : Nat) : Int) - 1 = (k : Int) := by omega
  have n3 : (k : Int) < (P.length : Int) := by omega
  have hrow := (hL3.recs k p e).1
  have hul := (hL3.recs k p e).2
  obtain ⟨ra, rc, er2, r1, r2, _, r4⟩ := row_reads hrow
  obtain ⟨uj, huj⟩ : ∃ u, (U k)[j]? = some u := ⟨_, List.getElem?_eq_getElem (by omega)⟩
  obtain ⟨gr, era, hcr⟩ := r4 j uj huj
  have hrd := hL3.data k p j uj r e huj er
  rw [er2, era] at s2
  have n4 : IntKind.u64.wrap ((index : Int) - (p.1.1 : Int)) = (j : Int) := by rw [IntKind.wrap_u64]; omega
  have n5 : (index : Int) - (p.1.1 : Int) = (j : Int) := by omega
  have n6 : (j : Int) < (p.1.2.length : Int) := by omega
  have hcl := fun W (hW : Below W3.heap.size W3 W) => clone_any (hrd.below hW (Nat.le_refl _)) (by omega)
  obtain ⟨ja, jc, euj, _⟩ := id hrd
  subst euj
  have hneL := World.block_lt_of_cell? _ _ hcr
  have hyA : ∀ o, (W3.alloc o).cell? ⟨w.heap.size + 1, 0, none⟩ = some (.int .u64 (index : Int)) := fun o => by rw [(bel_alW W3 o).cell (World.block_lt_of_cell? _ _ hy3)]; exact hy3
  have hrA : ∀ o, (W3.alloc o).cell? ⟨gr, j, none⟩ = some (.slice ja r.length jc) := fun o => by rw [(bel_alW W3 o).cell hneL]; exact hcr
  clear hidx hmono hchain hL3 hrow hul r4 hrd
  go_wp2_with fail
  refine (hcl _ (bel_alW W3 _)).mono ?_
  rintro e' w5 ⟨v5, rfl, ho5, hb5⟩
  obtain ⟨va, vc, ev5, _⟩ := ho5.rd
  subst ev5
  go_wp2_with fail
  go_ret2
  exact ⟨⟨_, rfl, ho5.mono (Nat.le_trans hb3.size (by simp))⟩, Below.tr hb3 (Below.tr (bel_alW W3 _) hb5)⟩
end
end Go.Proofs.YtcielagfajdbeaaGreatDoor

/- The log's tidy, where nothing is left over. -/
namespace Go.Proofs.YtcielagfajdbeaaGreatDoor
open Go.RowKit
set_option linter.unusedVariables false
set_option maxRecDepth 100000

section
variable {B l d size : Nat} {nm : ByteArray} {over : Bool} {sv : Value} {P : List (Sg × Value)} {U : Nat → List Value} {own : Nat → Option LRole} {n : Nat} {od : Nat → Option Role} {st : Nm → Option (List UInt8 × Nat)} {sz : Nat} {w w' : World}
theorem tidy_any (h : LgI B l d size nm over sv P U own w) (hd : Dk B d n od st sz (alive d) 0 w) (hns : nm.size ≤ 40) (hsp : st (sname nm).data.toList = none) :
    Calls Tryz.prog 32 #[.pointer (some ⟨l, 0, none⟩)] w fun r w' => r = .returned (.int .i64 0) ∧ ∃ q, w' = w.drewN q := by
  have hssz : (sname nm).size = nm.size + 4 := by unfold sname; rw [ByteArray.size_append]; rfl
  have hsp2 := fun q => spare_any (h.drN q) hns
  have hrm := fun q => remove_noW (hd.drN q) (sname nm) (by unfold maxLen; omega) hsp
  have c0 := h.cells.1
  unfold sname at hrm
  clear h hd hsp hssz
  go_enter Tryz.func32, Tryz.ntmps32
  go_wp2_with fail
  go_quiet (first | (go_at_call 60; refine Calls.quiet_of_same (v := .string (nm ++ ⟨#[46, 110, 101, 119]⟩)) (hsp2 _)) | (go_at_call 28; refine Calls.quiet_of (v := .int .i64 20) (hrm _)) | fail)
  go_wp2_with fail
  go_ret
  exact ⟨rfl, _, rfl⟩
end
end Go.Proofs.YtcielagfajdbeaaGreatDoor

/- The log's reading at its smallest: no frame in no byte, one segment alone. -/
namespace Go.Proofs.YtcielagfajdbeaaGreatDoor
open Go.RowKit
set_option linter.unusedVariables false
set_option maxRecDepth 100000

theorem tf_nil : M.tf [] = ([], [], 10) := by decide +kernel

section
variable {B l d size : Nat} {nm : ByteArray} {over : Bool} {sv : Value} {P : List (Sg × Value)} {U : Nat → List Value} {own : Nat → Option LRole} {w w' : World}
theorem take_none {v : Value} (hr : Rd w v []) :
    Calls Tryz.prog 107 #[v] w fun e w' => e = .returned (.tuple #[.slice none 0 0, .int .i64 0]) ∧ Below w.heap.size w w' := by
  rcases hr.two with ⟨rfl, _⟩ | ⟨a, c, rfl, _, hc, _⟩
  · have ht := fun q => tframe_any (hr.drewN q) (by simp)
    rw [tf_nil] at ht
    clear hr
    have hmin : min (64 : Int) 0 = 0 := by decide
    go_enter Tryz.func107, Tryz.ntmps107
    go_wp2_with fail
    go_loopw [4] (fun i wr => i = .int .i64 64 ∧ ∃ q, wr = w.drewN q) (fun _ _ => 0)
    case atStart => exact ⟨rfl, 0, rfl⟩
    case round =>
      obtain ⟨rfl, q, rfl⟩ := hrel
      go_wp2_with fail
      refine (ht q).mono ?_
      rintro e w1 ⟨v1, v2, rfl, _, _, _, hb⟩
      go_wp2_with fail
      go_returns
      exact ⟨rfl, Below.tr (Below.dN w q) hb⟩
  · have ht := fun q => tframe_any (hr.drewN q) (by simp)
    rw [tf_nil] at ht
    simp only [List.length_nil] at ht ⊢
    clear hr
    have hmin : min (64 : Int) 0 = 0 := by decide
    go_enter Tryz.func107, Tryz.ntmps107
    go_wp2_with fail
    go_loopw [4] (fun i wr => i = .int .i64 64 ∧ ∃ q, wr = w.drewN q) (fun _ _ => 0)
    case atStart => exact ⟨rfl, 0, rfl⟩
    case round =>
      obtain ⟨rfl, q, rfl⟩ := hrel
      go_wp2_with fail
      refine (ht q).mono ?_
      rintro e w1 ⟨v1, v2, rfl, _, _, _, hb⟩
      go_wp2_with fail
      go_returns
      exact ⟨rfl, Below.tr (Below.dN w q) hb⟩
theorem whole_one (h : LgI B l d size nm over sv P U own w) {g c : Nat} (hv : sv = .slice (some ⟨g, 0, none⟩) P.length c) (hk : P.length = 1) :
    Calls Tryz.prog 34 #[.pointer (some ⟨l, 0, none⟩)] w fun e w' => e = .returned (.int .i64 0) ∧ ∃ q, w' = w.drewN q := by
  obtain ⟨_, _, _, c3, _, _⟩ := h.cells
  rw [hv, hk] at c3
  clear h hv hk
  go_enter Tryz.func34, Tryz.ntmps34
  go_wp2_with fail
  go_loopw [13] (fun i wr => i = .int .i64 0 ∧ ∃ q, wr = w.drewN q) (fun _ _ => 0)
  case atStart => exact ⟨rfl, 0, rfl⟩
  case round =>
    obtain ⟨rfl, q, rfl⟩ := hrel
    go_wp2_with fail
    go_ret
    exact ⟨rfl, _, rfl⟩
end
end Go.Proofs.YtcielagfajdbeaaGreatDoor

/- Log.read of a segment whose file holds no byte: a range over a function that tells nothing. -/
namespace Go.Proofs.YtcielagfajdbeaaGreatDoor
open Go.RowKit Go.Shelf
set_option linter.unusedVariables false
set_option maxRecDepth 100000
attribute [local go_sem] Oper.semAt_some

theorem grown_of_below {w w' : World} (h : Below w.heap.size w w') : w.grownBy w' none := ⟨h.os, h.tape, h.output, h.size, fun k hk _ => h.block k hk⟩

theorem frames_any {a : Option Addr} {m c : Nat} {w : World} :
    Calls Tryz.prog 80 #[.slice a m c] w fun e w' => e = .returned (.func (.func 106) #[] #[.pointer (some ⟨w.heap.size, 0, none⟩)]) ∧ w' = w.alloc (.cells #[.slice a m c] 24) := by
  have hmf : ∀ (fn : Fn) (first cap : Array Value) (w : World), (Instr.makeFunc fn first cap).run Tryz.prog w = .ok (.func fn first cap) w := fun _ _ _ _ => rfl
  go_enter Tryz.func80, Tryz.ntmps80
  go_wp2_with fail
  go_ret
  exact ⟨rfl, rfl⟩

set_option maxHeartbeats 1000000 in
theorem frames_none (n : Nat) {a : Option Addr} {c : Nat} {Bs : Nat} {w : World} (hr : Rd w (.slice a 0 c) []) (hBs : Bs < w.heap.size) (hc : w.cell? ⟨Bs, 0, none⟩ = some (.slice a 0 c)) :
    SeqStopsK Fence.wide n Tryz.prog 106 #[.pointer (some ⟨Bs, 0, none⟩)] (fun x : Empty => (x.elim : Array Value)) (Below w.heap.size) (fun ys => ys = []) (fun _ => False) 0 w := fun l J Jx W hW hJ hJx hY h0 => by
  refine callsIn_wide.2 ?_
  show Calls Tryz.prog 106 #[.func (.yield l) #[] #[], .pointer (some ⟨Bs, 0, none⟩)] W _
  have hcW : W.cell? ⟨Bs, 0, none⟩ = some (.slice a 0 c) := by rw [hW.cell hBs]; exact hc
  have htk := take_none (hr.below hW (Nat.le_refl _))
  have HJ : Hid (∀ W', Below W.heap.size W W' → J [] W') := fun W' hb => hJ [] W W' none h0 (grown_of_below hb) (fun r e => by cases e)
  clear hY hJ hJx hr hc h0
  go_enter Tryz.func106, Tryz.ntmps106
  go_wp2_with fail
  go_loopw [3, 4] (fun _ _ wr => wr = W) (fun _ _ _ => 0)
  case atStart => exact rfl
  case round =>
    subst hrel
    go_wp2_with fail
    refine htk.mono ?_
    rintro e w1 ⟨rfl, hb1⟩
    go_wp2_with fail
    refine bodyPost_ret (results_none rfl _ _ _) rfl ?_
    exact ⟨⟨_, rfl⟩, .inl ⟨[], rfl, HJ.out w1 hb1⟩⟩

section
variable {B l d size : Nat} {nm : ByteArray} {sv : Value} {P : List (Sg × Value)} {U : Nat → List Value} {own : Nat → Option LRole} {n : Nat} {od : Nat → Option Role} {st : Nm → Option (List UInt8 × Nat)} {sz : Nat} {w w' : World}
set_option maxHeartbeats 4000000 in
theorem read_none (h : WI B l d size nm sv P U own n od st sz w) {k : Nat} {p : Sg × Value} (e : P[k]? = some p) (h0 : p.1.2 = []) {g c : Nat} (hv : sv = .slice (some ⟨g, 0, none⟩) P.length c) :
    Calls Tryz.prog 65 #[.pointer (some ⟨l, 0, none⟩), .pointer (some ⟨g, k * 3, none⟩)] w fun r w' => ∃ v, r = .returned (.tuple #[v, .int .i64 0]) ∧ Rd w' v [] ∧ Below w.heap.size w w' := by
  obtain ⟨g', c', ev, h1, h2, s0, _, _⟩ := h.lg.seg k p e
  obtain ⟨rfl, rfl⟩ : g' = g ∧ c' = c := by
    rw [hv] at ev
    simp only [Value.slice.injEq, Option.some.injEq, Addr.mk.injEq, and_true, true_and] at ev
    exact ⟨ev.1.symm, ev.2.symm⟩
  have hnb := h.nb k p e
  obtain ⟨sy, hst⟩ := h.fl k p e
  rw [h0] at hst
  have hls := fname_size nm p.1.1 hnb
  have hns := h.ns
  obtain ⟨c0, _, _, _, _, _⟩ := h.lg.cells
  have hlo := (h.lg.lo l (by rw [h.lg.ol]; simp)).2
  have hgl := World.block_lt_of_cell? _ _ s0
  have hbA : Below w.heap.size w (w.alloc (.cells #[.pointer (some ⟨g', k * 3, none⟩)] 74)) := bel_alW w _
  have HFI : Hid (∀ W, Below w.heap.size w W → Calls Tryz.prog 44 #[.pointer (some ⟨l, 0, none⟩), .int .u64 (p.1.1 : Int)] W fun e w' => e = .returned (.string (fname nm p.1.1)) ∧ Below W.heap.size W w') := fun W hW => file_any (h.lg.below hW) p.1.1 hnb hns
  have HRE : Hid (∀ W, Below w.heap.size w W → Calls Tryz.prog 25 #[.pointer (some ⟨d, 0, none⟩), .string (fname nm p.1.1)] W fun e w' => ∃ v, e = .returned (.tuple #[v, .int .i64 0]) ∧ Ow W.heap.size w' v [] ∧ Below W.heap.size W w') := fun W hW => read_alive (h.below hW).dk (fname nm p.1.1) (by unfold maxLen; omega) _ hst (by simp [frs])
  have HK : Hid (∀ W, Below (w.heap.size + 1) (w.alloc (.cells #[.pointer (some ⟨g', k * 3, none⟩)] 74)) W → W.cell? ⟨l, 0, none⟩ = some (.pointer (some ⟨d, 0, none⟩)) ∧ W.cell? ⟨g', k * 3, none⟩ = some (.int .u64 (p.1.1 : Int)) ∧ W.cell? ⟨w.heap.size, 0, none⟩ = some (.pointer (some ⟨g', k * 3, none⟩)) ∧ Below w.heap.size w W) := fun W hW => by
    have hB := hbA.trans (hW.mono (Nat.le_succ _))
    refine ⟨by rw [hB.cell hlo]; exact c0, by rw [hB.cell hgl]; exact s0, ?_, hB⟩
    rw [hW.cell (by simp), World.cell?_alloc_at _ _ _ _ rfl]; rfl
  have hsz : (w.alloc (.cells #[.pointer (some ⟨g', k * 3, none⟩)] 74)).heap.size = w.heap.size + 1 := by simp
  have hdr : Below (w.heap.size + 1) (w.alloc (.cells #[.pointer (some ⟨g', k * 3, none⟩)] 74)) (w.alloc (.cells #[.pointer (some ⟨g', k * 3, none⟩)] 74)).drew := below_drewN (Below.refl _ _) 1
  obtain ⟨k0, k1, k2, _⟩ := HK.out _ (Below.refl _ _)
  clear h ev hst e hnb hls hns c0 s0 hv h1 h2 h0
  refine (callsIn_wide (n := 5)).1 ?_
  refine callsIn_of_wp_marks Tryz.func65 rfl trivial ?_ rfl
  simp only [Tryz.ntmps65, List.size_toArray, List.length_cons, List.length_nil, Nat.reduceAdd, Nat.reduceSub, Array.replicate_succ, Array.replicate_zero, List.push_toArray, List.append_toArray, List.nil_append, List.cons_append]
  refine wpIn_wide.2 ?_
  go_wp2_with fail
  generalize (w.alloc (.cells #[.pointer (some ⟨g', k * 3, none⟩)] 74)) = W0 at *
  have HUP : Hid (∀ {W W'}, Below (w.heap.size + 1) W0 W → Below W.heap.size W W' → Below (w.heap.size + 1) W0 W') := fun {W W'} h1 h2 => h1.trans (h2.mono (by have := h1.size; omega))
  go_region_held3 (fun w' => w'.cell? ⟨l, 0, none⟩ = some (.pointer (some ⟨d, 0, none⟩)) ∧ w'.cell? ⟨g', k * 3, none⟩ = some (.int .u64 (p.1.1 : Int)) ∧ w'.cell? ⟨w.heap.size, 0, none⟩ = some (.pointer (some ⟨g', k * 3, none⟩))) (go_keep) (first
    | (go_at_call 25; refine (HRE.out w1 ((HK.out w1 hb1).2.2.2)).mono ?_; rintro e w2 ⟨v2, rfl, ho2, hb2'⟩; have hb2 := HUP.out hb1 hb2'; obtain ⟨q0, q1, q2, _⟩ := HK.out w2 hb2; have hrd2 := ho2.rd; obtain ⟨a2, c2', rfl⟩ : ∃ a c, v2 = .slice a 0 c := (by obtain ⟨a, c, e, _⟩ := hrd2; exact ⟨a, c, e⟩))
    | (go_at_call 44; refine (HFI.out _ ((HK.out _ hdr).2.2.2)).mono ?_; rintro e w1 ⟨rfl, hb1'⟩; have hb1 := HUP.out hdr hb1'; obtain ⟨p0, p1, p2, _⟩ := HK.out w1 hb1)
    | fail)
  go_wp2_with fail
  refine frames_any.mono ?_
  rintro e w3 ⟨rfl, hw3⟩
  have hb3' : Below w2.heap.size w2 w3 := by rw [hw3]; exact bel_alW w2 _
  have hb3 := HUP.out hb2 hb3'
  have hc3 : w3.cell? ⟨w2.heap.size, 0, none⟩ = some (.slice a2 0 c2') := by rw [hw3, World.cell?_alloc_at _ _ _ _ rfl]; rfl
  have hz3 : w2.heap.size < w3.heap.size := by rw [hw3]; simp
  have hrd3 : Rd w3 (.slice a2 0 c2') [] := hrd2.below hb3' (Nat.le_refl _)
  have hB3 := (HK.out w3 hb3).2.2.2
  have HRD : Hid (∀ W, Rd W (.slice a2 0 c2') []) := fun W => by
    obtain ⟨a, c, e, r1, r2, r3, _⟩ := hrd2
    exact ⟨a, c, e, r1, r2, r3, fun i hi => by simp at hi⟩
  clear hw3 hb3' hb2' hb1' p0 p1 p2 q0 q1 q2 k0 k1 k2
  go_wp2_with fail
  refine (wpIn_wide (n := 5)).1 ?_
  refine wpIn_rangeFunc_ownF (α := Empty) rfl (by omega) (gf := 106) (lb := #[.pointer (some ⟨w2.heap.size, 0, none⟩)]) rfl trivial (enters_of Tryz.func106 (by kernel_rfl) rfl)
    (frames_none 4 hrd3 hz3 hc3) belowK_t (belowK_b (Nat.le_refl _)) (Below.refl _ _) (fun x => x.elim)
    (fun _ W => Below w.heap.size w W) (fun _ _ _ => False)
    (ownFrom_below (Nat.le_refl _) hB3.size) (fun _ _ _ _ _ hs _ _ => hs) hB3 (fun x => x.elim) ?assign ?body ?done ?stop
  case assign => intro l x; exact x.elim
  case body => intro l pre x; exact x.elim
  case stop => intro D c pre W hD h; exact h.elim
  case done =>
    rintro D ys W hD rfl hB hK
    go_wp2_with fail
    have hwD : w.heap.size ≤ D := Nat.le_trans hB3.size hD
    refine ⟨by simp, .inl ⟨_, _, rfl, run_takeDeferred hK, ?_⟩⟩
    refine ⟨.tuple #[.slice a2 0 c2', .int .i64 0], ?_, ⟨_, rfl, HRD.out _, hB.trans (belowK_b (w := w) (Nat.le_refl _) W D _ _ hwD hK rfl rfl)⟩⟩
    simp [results, Tryz.results65, go_sem]
end
end Go.Proofs.YtcielagfajdbeaaGreatDoor

/- The log's renew: a new file in the place of the last segment's. -/
namespace Go.Proofs.YtcielagfajdbeaaGreatDoor
open Go.RowKit
set_option linter.unusedVariables false
set_option maxRecDepth 100000

/-- The files behind that. -/
def renF (nm : ByteArray) (st : Nm → Option (List UInt8 × Nat)) (n : Nat) (b : List UInt8) : Nm → Option (List UInt8 × Nat) :=
  setF (setF (setF (setF st (sname nm).data.toList (some (b, 0))) (sname nm).data.toList (some (b, b.length))) (sname nm).data.toList none) (fname nm n).data.toList (some (b, b.length))
theorem renF_at (nm : ByteArray) (st : Nm → Option (List UInt8 × Nat)) (n : Nat) (b : List UInt8) : renF nm st n b (fname nm n).data.toList = some (b, b.length) := by unfold renF; rw [setF_same]
theorem renF_other {nm : ByteArray} {st : Nm → Option (List UInt8 × Nat)} {n : Nat} {b : List UInt8} (hsp : st (sname nm).data.toList = none) {s : Nm} (h : s ≠ (fname nm n).data.toList) : renF nm st n b s = st s := by
  unfold renF
  rw [setF_other _ _ h]
  by_cases q : s = (sname nm).data.toList
  · subst q; rw [setF_same, hsp]
  · rw [setF_other _ _ q, setF_other _ _ q, setF_other _ _ q]
section
variable {B l d size : Nat} {nm : ByteArray} {sv : Value} {P : List (Sg × Value)} {U : Nat → List Value} {own : Nat → Option LRole} {n : Nat} {od : Nat → Option Role} {st : Nm → Option (List UInt8 × Nat)} {sz : Nat} {w w' : World}
/-- A log beside a disk. -/
structure LD (B l d size : Nat) (nm : ByteArray) (sv : Value) (P : List (Sg × Value)) (U : Nat → List Value) (own : Nat → Option LRole) (n : Nat) (od : Nat → Option Role) (st : Nm → Option (List UInt8 × Nat)) (sz : Nat) (w : World) : Prop where
  lg : LgI B l d size nm false sv P U own w
  dk : Dk B d n od st sz (alive d) 0 w
  ap : ∀ b, own b ≠ none → od b = none
theorem LD.below (h : LD B l d size nm sv P U own n od st sz w) (hb : Below w.heap.size w w') : LD B l d size nm sv P U own n od st sz w' :=
  ⟨h.lg.below hb, h.dk.next (Chg.of_below hb) (fun b hs q => by have := (h.dk.blo hs).2; omega), h.ap⟩
theorem LD.turn (h : LD B l d size nm sv P U own n od st sz w) {n' : Nat} {od' : Nat → Option Role} {st' : Nm → Option (List UInt8 × Nat)} {sz' : Nat} (hd : Dk B d n' od' st' sz' (alive d) 0 w') (ho : ∀ b, od' b ≠ none → od b ≠ none ∨ w.heap.size ≤ b) (hc : Chg (fun b => od b ≠ none) w w') : LD B l d size nm sv P U own n' od' st' sz' w' := by
  refine ⟨h.lg.next hc (fun b hb q => q (h.ap b hb)), hd, fun b hb => ?_⟩
  by_cases q : od' b = none
  · exact q
  · rcases ho b q with r | r
    · exact absurd (h.ap b hb) r
    · have := (h.lg.lo b hb).2; omega

set_option maxHeartbeats 2000000 in
theorem renew_any (h : LD B l d size nm sv P U own n od st sz w) {k : Nat} (hk : P.length = k + 1) {p : Sg × Value} (e : P[k]? = some p) (hnb : p.1.1 < 100) (hns : nm.size ≤ 40) (hsp : st (sname nm).data.toList = none) {f2 : List UInt8 × Nat} (hst : st (fname nm p.1.1).data.toList = some f2) {vb : Value} {b : List UInt8} (hr : Rd w vb b) (hz : sz + b.length ≤ 16777216) (hf2 : f2.1.length ≤ sz) (hn : n ≤ 1048576) :
    Calls Tryz.prog 66 #[.pointer (some ⟨l, 0, none⟩), vb] w fun r w' => r = .returned (.int .i64 0) ∧ (∃ n' od', LD B l d size nm sv P U own n' od' (renF nm st p.1.1 b) (sz + b.length - f2.1.length) w' ∧ n' ≤ n + 2 ∧ ∀ b, od' b ≠ none → od b ≠ none ∨ w.heap.size ≤ b) ∧ Chg (fun b => od b ≠ none) w w' := by
  obtain ⟨g, c, ev, h1, h2, s0, _, _⟩ := h.lg.seg k p e
  have hss : (sname nm).size = nm.size + 4 := by unfold sname; rw [ByteArray.size_append]; rfl
  have hls := fname_size nm p.1.1 hnb
  have c0 := h.lg.cells.1
  have hlo := (h.lg.lo l (by rw [h.lg.ol]; simp)).2
  obtain ⟨va, vc, evb, _⟩ := id hr
  subst evb
  have HH : Hid (LD B l d size nm sv P U own n od st sz w) := h
  have hsp1 := fun {n' : Nat} {od' : Nat → Option Role} {st' : Nm → Option (List UInt8 × Nat)} {sz' : Nat} (W : World) (hW : LD B l d size nm sv P U own n' od' st' sz' W) => spare_any hW.lg hns
  have hcl : ∀ {n' : Nat} {od' : Nat → Option Role} {st' : Nm → Option (List UInt8 × Nat)} {sz' : Nat} (W : World), LD B l d size nm sv P U own n' od' st' sz' W → W.cell? ⟨l, 0, none⟩ = some (.pointer (some ⟨d, 0, none⟩)) ∧ W.cell? ⟨g, k * 3, none⟩ = some (.int .u64 (p.1.1 : Int)) := fun W hW => by
    obtain ⟨g', c', ev', _, _, t0, _, _⟩ := hW.lg.seg k p e
    rw [ev] at ev'
    simp only [Value.slice.injEq, Option.some.injEq, Addr.mk.injEq, and_true, true_and] at ev'
    obtain ⟨rfl, _⟩ := ev'
    exact ⟨hW.lg.cells.1, t0⟩
  have hwr := fun q => write_new (h.below (Below.dN w q)).dk (sname nm) (by omega) (by omega) hsp (hr.drewN q) hz (by omega)
  have HW : Hid (∀ q w1 od1, Dk B d (n + 1) od1 (setF st (sname nm).data.toList (some (b, 0))) (sz + b.length) (alive d) 0 w1 → (∀ b, od1 b ≠ none → od b ≠ none ∨ (w.drewN q).heap.size ≤ b) → Chg (fun b => od b ≠ none) (w.drewN q) w1 → LD B l d size nm sv P U own (n + 1) od1 (setF st (sname nm).data.toList (some (b, 0))) (sz + b.length) w1 ∧ Chg (fun b => od b ≠ none) w w1) := fun q w1 od1 hd ho hc => ⟨(h.below (Below.dN w q)).turn hd ho hc, ((Chg.of_below (Below.dN w q)).mono (fun b q1 q2 => by omega)).trans (hc.mono (fun b _ q => .inl q))⟩
  have HKE : Hid _ := And.intro hk e
  clear h hr s0 hk e
  go_enter Tryz.func66, Tryz.ntmps66
  go_wp2_with fail
  go_region_held3 (fun w' => w'.cell? ⟨l, 0, none⟩ = some (.pointer (some ⟨d, 0, none⟩))) (go_keep) (first
    | (go_at_call 60; refine (hsp1 _ (HH.out.below (Below.dN w _))).mono ?_; rintro e w1 ⟨rfl, rfl⟩)
    | (go_at_call 21; refine (hwr _).mono ?_; rintro e w2 ⟨rfl, ⟨od2, hd2, ho2⟩, hc2⟩; obtain ⟨hL2, hch2⟩ := HW.out _ w2 od2 hd2 ho2 hc2; obtain ⟨x0, x1⟩ := hcl w2 hL2)
    | fail)
  clear hwr
  go_wp2_with fail
  have hsy := fun q => sync_alive (hL2.below (Below.dN w2 q)).dk (sname nm) (by unfold maxLen; omega) _ (setF_same _ _ _)
  have HL2 : Hid (LD B l d size nm sv P U own (n + 1) od2 (setF st (sname nm).data.toList (some (b, 0))) (sz + b.length) w2) := hL2
  have HO2 : Hid _ := And.intro ho2 hch2
  have HS2 : Hid (∀ q w3 od3, Dk B d (n + 1) od3 (setF (setF st (sname nm).data.toList (some (b, 0))) (sname nm).data.toList (some (b, b.length))) (sz + b.length) (alive d) 0 w3 → (∀ b, od3 b ≠ none → od2 b ≠ none ∨ (w2.drewN q).heap.size ≤ b) → Chg (fun b => od2 b ≠ none) (w2.drewN q) w3 → LD B l d size nm sv P U own (n + 1) od3 (setF (setF st (sname nm).data.toList (some (b, 0))) (sname nm).data.toList (some (b, b.length))) (sz + b.length) w3 ∧ Chg (fun b => od2 b ≠ none) w2 w3) := fun q w3 od3 hd ho hc => ⟨(hL2.below (Below.dN w2 q)).turn hd ho hc, ((Chg.of_below (Below.dN w2 q)).mono (fun b q1 q2 => by omega)).trans (hc.mono (fun b _ q => .inl q))⟩
  clear hL2 hd2 hc2 ho2 hch2
  go_region_held3 (fun w' => w'.cell? ⟨l, 0, none⟩ = some (.pointer (some ⟨d, 0, none⟩))) (go_keep) (first
    | (go_at_call 60; refine (hsp1 _ (HL2.out.below (Below.dN w2 _))).mono ?_; rintro e w1 ⟨rfl, rfl⟩)
    | (go_at_call 43; refine (hsy _).mono ?_; rintro e w3 ⟨rfl, ⟨od3, hd3, ho3⟩, hc3⟩; obtain ⟨hL3, hch3⟩ := HS2.out _ w3 od3 hd3 ho3 hc3; obtain ⟨y0, y1⟩ := hcl w3 hL3)
    | fail)
  clear hsy
  go_wp2_with fail
  have hne : (fname nm p.1.1).data.toList ≠ (sname nm).data.toList := fun q => sname_ne nm hnb q.symm
  have hst3 : setF (setF (setF st (sname nm).data.toList (some (b, 0))) (sname nm).data.toList (some (b, b.length))) (sname nm).data.toList none (fname nm p.1.1).data.toList = some f2 := by rw [setF_other _ _ hne, setF_other _ _ hne, setF_other _ _ hne]; exact hst
  have HL3 : Hid (LD B l d size nm sv P U own (n + 1) od3 (setF (setF st (sname nm).data.toList (some (b, 0))) (sname nm).data.toList (some (b, b.length))) (sz + b.length) w3) := hL3
  have hdW := fun W (hW : Below w3.heap.size w3 W) => rename_over (hL3.below hW).dk (sname nm) (fname nm p.1.1) (by unfold maxLen; omega) (by omega) (by omega) _ f2 (setF_same _ _ _) hst3 (by omega) (by omega) (by omega)
  have hla := fun W (hW : Below w3.heap.size w3 W) => last_any (hL3.below hW).lg ev HKE.out.1 ⟨by have := HKE.out.1; omega, h2⟩
  have hfi := fun W (hW : Below w3.heap.size w3 W) => file_any (hL3.below hW).lg p.1.1 hnb hns
  have hclW : ∀ W, Below w3.heap.size w3 W → W.cell? ⟨l, 0, none⟩ = some (.pointer (some ⟨d, 0, none⟩)) ∧ W.cell? ⟨g, k * 3, none⟩ = some (.int .u64 (p.1.1 : Int)) := fun W hW => hcl W (HL3.out.below hW)
  have HS3 : Hid (∀ W w4 n4 od4 st4 sz4, Below w3.heap.size w3 W → Dk B d n4 od4 st4 sz4 (alive d) 0 w4 → (∀ b, od4 b ≠ none → od3 b ≠ none ∨ W.heap.size ≤ b) → Chg (fun b => od3 b ≠ none) W w4 → LD B l d size nm sv P U own n4 od4 st4 sz4 w4 ∧ Chg (fun b => od3 b ≠ none) w3 w4) := fun W w4 n4 od4 st4 sz4 hW hd ho hc => ⟨(HL3.out.below hW).turn hd ho hc, ((Chg.of_below hW).mono (fun b q1 q2 => by omega)).trans (hc.mono (fun b _ q => .inl q))⟩
  have HO3 : Hid _ := And.intro ho3 hch3
  have hb0 : Below w3.heap.size w3 (w3.drewN 1) := Below.dN w3 1
  clear hL3 hd3 hc3 ho3 hch3 hst hst3 hne x0 x1
  go_region_held3 (fun w' => w'.cell? ⟨l, 0, none⟩ = some (.pointer (some ⟨d, 0, none⟩)) ∧ w'.cell? ⟨g, k * 3, none⟩ = some (.int .u64 (p.1.1 : Int))) (go_keep) (first
    | (go_at_call 60; refine (hsp1 _ (HL3.out.below (Below.dN w3 _))).mono ?_; rintro e w1 ⟨rfl, rfl⟩)
    | (go_at_call 39; refine (hla _ (Below.dN w3 _)).mono ?_; rintro e w5 ⟨rfl, q5, rfl⟩)
    | (go_at_call 44; refine (hfi _ (Below.dN w3 _)).mono ?_; rintro e w6 ⟨rfl, hb6⟩; have hb36 : Below w3.heap.size w3 w6 := Below.tr (Below.dN w3 _) hb6; obtain ⟨z0, z1⟩ := hclW w6 hb36)
    | (go_at_call 81; refine (hdW _ hb36).mono ?_; rintro e w7 ⟨rfl, ⟨od7, hd7, ho7⟩, hc7⟩; obtain ⟨hL7, hch7⟩ := HS3.out w6 w7 _ od7 _ _ hb36 hd7 ho7 hc7; obtain ⟨u0, u1⟩ := hcl w7 hL7)
    | fail)
  go_wp2_with fail
  go_ret
  have hs2 := HO2.out.2.size
  have hs3 := HO3.out.2.size
  have o2 : ∀ b, od2 b ≠ none → od b ≠ none ∨ w.heap.size ≤ b := fun b hb => HO2.out.1 b hb
  have o3 : ∀ b, od3 b ≠ none → od b ≠ none ∨ w.heap.size ≤ b := fun b hb => by
    rcases HO3.out.1 b hb with r | r
    · exact o2 b r
    · exact .inr (Nat.le_trans hs2 r)
  refine ⟨rfl, ⟨_, od7, hL7, by omega, fun b hb => ?_⟩, ?_⟩
  · rcases ho7 b hb with r | r
    · exact o3 b r
    · exact .inr (by have := hb36.size; omega)
  · exact (HO2.out.2.trans (HO3.out.2.mono (fun b _ q => o2 b q))).trans (hch7.mono (fun b _ q => o3 b q))
end
end Go.Proofs.YtcielagfajdbeaaGreatDoor

/- The log's syncAll: every segment's file synced. -/
namespace Go.Proofs.YtcielagfajdbeaaGreatDoor
open Go.RowKit
set_option linter.unusedVariables false
set_option maxRecDepth 100000

/-- The files of these segments synced. -/
def syF (nm : ByteArray) (P : List (Sg × Value)) (st : Nm → Option (List UInt8 × Nat)) : Nm → Option (List UInt8 × Nat) :=
  P.foldl (fun s p => setF s (fname nm p.1.1).data.toList (some (frs p.1.2, (frs p.1.2).length))) st
theorem syF_snoc (nm : ByteArray) (P : List (Sg × Value)) (st : Nm → Option (List UInt8 × Nat)) {k : Nat} {p : Sg × Value} (e : P[k]? = some p) :
    syF nm (P.take (k + 1)) st = setF (syF nm (P.take k) st) (fname nm p.1.1).data.toList (some (frs p.1.2, (frs p.1.2).length)) := by
  unfold syF
  rw [List.take_add_one, e, Option.toList_some, List.foldl_append]
  rfl

section
variable {B l d size : Nat} {nm : ByteArray} {over : Bool} {sv : Value} {P : List (Sg × Value)} {U : Nat → List Value} {own : Nat → Option LRole} {n : Nat} {od : Nat → Option Role} {st : Nm → Option (List UInt8 × Nat)} {sz : Nat} {w w' : World}
theorem WI.synced (hI : WI B l d size nm sv P U own n od st sz w) {k : Nat} {p : Sg × Value} (e : P[k]? = some p) {sy : Nat} (hst : st (fname nm p.1.1).data.toList = some (frs p.1.2, sy)) {w2 w3 : World} (hb : Below w.heap.size w w2)
    {own' : Nat → Option Role} (hd3 : Dk B d n own' (setF st (fname nm p.1.1).data.toList (some (frs p.1.2, (frs p.1.2).length))) sz (alive d) 0 w3) (ho3 : ∀ b, own' b ≠ none → od b ≠ none ∨ w2.heap.size ≤ b) (hc3 : Chg (fun b => od b ≠ none) w2 w3) :
    WI B l d size nm sv P U own n own' (setF st (fname nm p.1.1).data.toList (some (frs p.1.2, (frs p.1.2).length))) sz w3 ∧ Chg (fun b => own b ≠ none ∨ od b ≠ none) w w3 ∧ ∀ b, own' b ≠ none → od b ≠ none ∨ w.heap.size ≤ b := by
  refine ⟨⟨(hI.lg.below hb).next hc3 (fun b hb q => q (hI.ap b hb)), hd3, fun b hb' => ?_, fun i q hq => ?_, hI.nb, hI.ne, hI.ns⟩, ((Chg.of_below hb).mono (fun b q1 q2 => by omega)).trans (hc3.mono (fun b _ q => .inl (.inr q))), fun b q => (ho3 b q).imp id (fun r => Nat.le_trans hb.size r)⟩
  · by_cases q : own' b = none
    · exact q
    · rcases ho3 b q with r | r
      · exact absurd (hI.ap b hb') r
      · have := (hI.lg.lo b hb').2; have := hb.size; omega
  · obtain ⟨sq, hsq⟩ := hI.fl i q hq
    unfold setF
    split
    · rename_i he
      rw [he, hst] at hsq
      simp only [Option.some.injEq, Prod.mk.injEq] at hsq
      exact ⟨_, by rw [hsq.1]⟩
    · exact ⟨sq, hsq⟩

theorem sall_any (h : WI B l d size nm sv P U own n od st sz w) :
    Calls Tryz.prog 36 #[.pointer (some ⟨l, 0, none⟩)] w fun r w' => r = .returned (.int .i64 0) ∧ (∃ od', WI B l d size nm sv P U own n od' (syF nm P st) sz w' ∧ ∀ b, od' b ≠ none → od b ≠ none ∨ w.heap.size ≤ b) ∧ Chg (fun b => own b ≠ none ∨ od b ≠ none) w w' := by
  obtain ⟨p0, e0⟩ : ∃ p, P[0]? = some p := ⟨_, List.getElem?_eq_getElem h.ne⟩
  obtain ⟨g, c, ev, h1, h2, _, _, _⟩ := h.lg.seg 0 p0 e0
  obtain ⟨c0, _, _, c3, _, _⟩ := h.lg.cells
  rw [ev] at c3
  have HI : Hid _ := h
  have HE : Hid _ := ev
  have hPl : P.length ≤ 9223372036854775807 := by unfold maxLen at h2; omega
  clear h ev e0
  go_enter Tryz.func36, Tryz.ntmps36
  go_wp2_with fail
  go_loopw [11] (fun i wr => ∃ k od', k ≤ P.length ∧ i = .int .i64 (k : Int) ∧ Hid (WI B l d size nm sv P U own n od' (syF nm (P.take k) st) sz wr ∧ (∀ b, od' b ≠ none → od b ≠ none ∨ w.heap.size ≤ b) ∧ Chg (fun b => own b ≠ none ∨ od b ≠ none) w wr)) (fun i _ => P.length - (intOf i).toNat)
  case atStart => exact ⟨0, od, by omega, rfl, ⟨HI.out, fun b q => .inl q, Chg.refl _ _⟩⟩
  case round =>
    obtain ⟨k, od', hkn, rfl, HR⟩ := hrel
    generalize wr = wA at *
    by_cases hlt : k < P.length
    · obtain ⟨p, e⟩ : ∃ p, P[k]? = some p := ⟨_, List.getElem?_eq_getElem hlt⟩
      obtain ⟨hA, hod, hcA⟩ := HR.out
      obtain ⟨g', c', ev', _, _, s0, s1, s2⟩ := hA.lg.seg k p e
      have := HE.out
      rw [this] at ev'
      simp only [Value.slice.injEq, Option.some.injEq, Addr.mk.injEq, and_true, true_and] at ev'
      obtain ⟨rfl, rfl⟩ := ev'
      clear this
      obtain ⟨a0, _, _, _, _, _⟩ := hA.lg.cells
      have hnb := hA.nb k p e
      obtain ⟨sy, hst⟩ := hA.fl k p e
      have HS : Hid _ := hst
      have hls := fname_size nm p.1.1 hnb
      have hns := hA.ns
      have hfile := fun W (hW : Below wA.heap.size wA W) => file_any (hA.lg.below hW) p.1.1 hnb hns
      have hsync := fun W (hW : Below wA.heap.size wA W) => sync_alive (hA.below hW).dk (fname nm p.1.1) (by unfold maxLen; omega) _ hst
      have HPE : Hid _ := e
      obtain ⟨ao, nn, cc, ep⟩ : ∃ ao nn cc, p.2 = .slice ao nn cc := by
        obtain ⟨⟨_, r⟩, _⟩ := hA.lg.recs k p e
        rcases r with ⟨r, _⟩ | ⟨_, _, _, r, _⟩
        · exact ⟨_, _, _, r⟩
        · exact ⟨_, _, _, r⟩
      rw [ep] at s2
      have hll := (hA.lg.lo l (by rw [hA.lg.ol]; simp)).2
      have hol : own l ≠ none := by rw [hA.lg.ol]; simp
      have hapl := hA.ap l hol
      have nd : od' wA.heap.size = none := by
        by_cases q : od' wA.heap.size = none
        · exact q
        · have := (hA.dk.blo q).2; omega
      have hbA : Below wA.heap.size wA (wA.alloc (.cells #[.int .u64 (p.1.1 : Int), .int .i64 ((frs p.1.2).length : Int), .slice ao nn cc] 80)) := bel_alW wA _
      have hrc : (wA.alloc (.cells #[.int .u64 (p.1.1 : Int), .int .i64 ((frs p.1.2).length : Int), .slice ao nn cc] 80)).heap[wA.heap.size]? = some (.cells #[.int .u64 (p.1.1 : Int), .int .i64 ((frs p.1.2).length : Int), .slice ao nn cc] 80 (0, 0)) := heap_alloc_new wA _
      clear hst hA hod hcA e ep
      go_wp2_with fail
      generalize (wA.alloc (.cells #[.int .u64 (p.1.1 : Int), .int .i64 ((frs p.1.2).length : Int), .slice ao nn cc] 80)) = W0 at *
      have hs0 := hbA.size
      have hlt0 : wA.heap.size < W0.heap.size := (Array.getElem?_eq_some_iff.1 hrc).1
      have hnn : ∀ W, Below W0.heap.size W0 W → Below wA.heap.size wA W := fun W hW => hbA.trans (hW.mono hs0)
      have hcl : ∀ W, Below W0.heap.size W0 W → W.cell? ⟨l, 0, none⟩ = some (.pointer (some ⟨d, 0, none⟩)) ∧ W.cell? ⟨wA.heap.size, 0, none⟩ = some (.int .u64 (p.1.1 : Int)) := fun W hW => by
        have e2 : W.heap[wA.heap.size]? = some (.cells #[.int .u64 (p.1.1 : Int), .int .i64 ((frs p.1.2).length : Int), .slice ao nn cc] 80 (0, 0)) := by rw [hW.block _ (by omega)]; exact hrc
        exact ⟨by rw [(hnn W hW).cell hll]; exact a0, by simp [World.cell?, e2]⟩
      have hmid : ∀ w2 w3, Below W0.heap.size W0 w2 → Chg (fun b => od' b ≠ none) w2 w3 → w3.cell? ⟨l, 0, none⟩ = some (.pointer (some ⟨d, 0, none⟩)) ∧ w3.cell? ⟨wA.heap.size, 0, none⟩ = some (.int .u64 (p.1.1 : Int)) := fun w2 w3 hb hc => by
        obtain ⟨x0, x1⟩ := hcl w2 hb
        have hl2 := World.block_lt_of_cell? _ _ x0
        have hg2 := World.block_lt_of_cell? _ _ x1
        exact ⟨by rw [World.cell?_of_block (hc.block l hl2 (by simp [hapl]))]; exact x0, by rw [World.cell?_of_block (hc.block wA.heap.size hg2 (by simp [nd]))]; exact x1⟩
      obtain ⟨t0, t1⟩ := hcl W0 (Below.refl _ _)
      clear a0 s0 s1 s2 c0 c3
      go_region_held3 (fun w' => w'.cell? ⟨l, 0, none⟩ = some (.pointer (some ⟨d, 0, none⟩)) ∧ w'.cell? ⟨wA.heap.size, 0, none⟩ = some (.int .u64 (p.1.1 : Int))) (go_keep) (first
        | (go_at_call 44; refine (hfile _ (hnn _ (Below.dN W0 1))).mono ?_; rintro e w2 ⟨rfl, hb2⟩; have hb02 : Below W0.heap.size W0 w2 := Below.tr (Below.dN W0 1) hb2; obtain ⟨x0, x1⟩ := hcl _ hb02)
        | (go_at_call 43; refine (hsync _ (hnn _ hb02)).mono ?_; rintro e w3 ⟨rfl, ⟨own', hd3, ho3⟩, hc3⟩; obtain ⟨y0, y1⟩ := hmid w2 w3 hb02 hc3)
        | fail)
      go_wp2_with fail
      obtain ⟨hA, hod, hcA⟩ := HR.out
      obtain ⟨q1, q2, q3⟩ := hA.synced HPE.out HS.out (hnn _ hb02) hd3 ho3 hc3
      have hsz := hcA.size
      refine ⟨⟨k + 1, own', by omega, by go_num, ⟨by rw [syF_snoc nm P st HPE.out]; exact q1, fun b q => ?_, hcA.trans (q2.mono (fun b hb q => ?_))⟩⟩, by simp [intOf]; omega⟩
      · rcases q3 b q with r | r
        · exact hod b r
        · exact .inr (by omega)
      · rcases q with q | q
        · exact .inl (.inl q)
        · rcases hod b q with r | r
          · exact .inl (.inr r)
          · exact .inr r
    · obtain rfl : k = P.length := by omega
      go_wp2_with fail
      go_ret
      obtain ⟨hA, hod, hcA⟩ := HR.out
      rw [List.take_length] at hA
      exact ⟨rfl, ⟨od', hA, hod⟩, hcA⟩
end
end Go.Proofs.YtcielagfajdbeaaGreatDoor

/- The log's find, where the disk has no file. -/
namespace Go.Proofs.YtcielagfajdbeaaGreatDoor
open Go.RowKit
set_option linter.unusedVariables false
set_option maxRecDepth 100000

section
variable {B l d size : Nat} {nm : ByteArray} {over : Bool} {sv : Value} {P : List (Sg × Value)} {U : Nat → List Value} {own : Nat → Option LRole} {n : Nat} {od : Nat → Option Role} {st : Nm → Option (List UInt8 × Nat)} {sz : Nat} {w w' : World}
theorem LgI.one (h : LgI B l d size nm over (.slice none 0 0) [] U own w) (hB : B ≤ w.heap.size) :
    LgI B l d size nm over (.slice (some ⟨w.heap.size, 0, none⟩) 1 1) [sg0 1] (recSeg U 0) (ownSeg own (.slice (some ⟨w.heap.size, 0, none⟩) 1 1)) ((w.setCell ⟨l, 3, none⟩ (.slice (some ⟨w.heap.size, 0, none⟩) 1 1)).alloc (.cells #[.int .u64 1, .int .i64 0, .slice none 0 0] 80)) ∧ Chg (fun b => b = l) w ((w.setCell ⟨l, 3, none⟩ (.slice (some ⟨w.heap.size, 0, none⟩) 1 1)).alloc (.cells #[.int .u64 1, .int .i64 0, .slice none 0 0] 80)) := by
  have hll := (h.lo l (by rw [h.ol]; simp)).2
  have hs4 : (w.setCell ⟨l, 3, none⟩ (.slice (some ⟨w.heap.size, 0, none⟩) 1 1)).heap.size = w.heap.size := by simp
  have hcl : Chg (fun b => b = l) w (w.setCell ⟨l, 3, none⟩ (.slice (some ⟨w.heap.size, 0, none⟩) 1 1)) := (Chg.refl (fun b => b = l) _).put l 3 _ rfl
  have hnew := heap_alloc_new (w.setCell ⟨l, 3, none⟩ (.slice (some ⟨w.heap.size, 0, none⟩) 1 1)) (.cells #[.int .u64 1, .int .i64 0, .slice none 0 0] 80)
  rw [hs4] at hnew
  have hb5 := bel_alW (w.setCell ⟨l, 3, none⟩ (.slice (some ⟨w.heap.size, 0, none⟩) 1 1)) (.cells #[.int .u64 1, .int .i64 0, .slice none 0 0] 80)
  rw [hs4] at hb5
  have hl5 : (w.setCell ⟨l, 3, none⟩ (.slice (some ⟨w.heap.size, 0, none⟩) 1 1)).heap[l]? = some (.cells #[.pointer (some ⟨d, 0, none⟩), .string nm, .int .i64 (size : Int), (.slice (some ⟨w.heap.size, 0, none⟩) 1 1), .bool over] 71 (0, 0)) := by rw [heap_setCell_same _ _ 3 _ _ _ h.cell]; rfl
  have one : ∀ (i : Nat) p, [sg0 1][i]? = some p → i = 0 ∧ p = sg0 1 := fun i p e => by
    cases i with
    | zero => simp at e; exact ⟨rfl, e.symm⟩
    | succ j => simp at e
  have hrow : (((w.setCell ⟨l, 3, none⟩ (.slice (some ⟨w.heap.size, 0, none⟩) 1 1)).alloc (.cells #[.int .u64 1, .int .i64 0, .slice none 0 0] 80))).ownsRow B 80 3 (.slice (some ⟨w.heap.size, 0, none⟩) 1 1) 1 (sgCs [sg0 1]) := by
    refine ⟨?_, .inr ⟨w.heap.size, 1, #[.int .u64 1, .int .i64 0, .slice none 0 0], rfl, hB, hnew, ?_, ?_, ?_, ?_⟩⟩
    all_goals first | rfl | decide | (unfold maxLen; decide) | simp [sgCs, sgC, sg0, frs]
  refine ⟨⟨?_, hrow, fun i p e => ?_, fun i p j u r e1 e2 e3 => ?_, ?_, fun b e => ?_, fun i p b e q => ?_, fun i p u b e hu q => ?_, fun b hb => ?_⟩, hcl.alloc _⟩
  · rw [hb5.block l hll]; exact hl5
  · obtain ⟨rfl, rfl⟩ := one i p e
    exact ⟨World.ownsRow_nil _ _ _ _, rfl⟩
  · obtain ⟨rfl, rfl⟩ := one i p e1
    simp [sg0] at e3
  · unfold ownSeg
    rw [if_neg (by simp [Value.ownBlock]; omega)]
    exact h.ol
  · unfold ownSeg; rw [if_pos e]
  · obtain ⟨rfl, rfl⟩ := one i p e
    cases q
  · obtain ⟨rfl, rfl⟩ := one i p e
    have : recSeg U 0 0 = [] := by unfold recSeg; rw [if_pos rfl]
    rw [this] at hu; cases hu
  · unfold ownSeg at hb
    split at hb
    · rename_i e
      exact World.ownsRow.lt hrow b e
    · have := h.lo b hb
      exact ⟨this.1, by simp; omega⟩

theorem find_none (h : LgI B l d size nm false (.slice none 0 0) [] U own w) (hd : Dk B d n od st sz (alive d) 0 w) (hap : ∀ b, own b ≠ none → od b = none) (hst : ∀ s, st s = none) (hns : nm.size ≤ 40) (hsz : sz = 0) (hn : n ≤ 1048576) (hB : B ≤ w.heap.size) :
    Calls Tryz.prog 33 #[.pointer (some ⟨l, 0, none⟩)] w fun r w' => r = .returned (.int .i64 0) ∧ (∃ sv' own' od', WI B l d size nm sv' [sg0 1] (recSeg U 0) own' (n + 1) od' (setF st (fname nm 1).data.toList (some ([], 0))) sz w' ∧ (∀ b, own' b ≠ none → own b ≠ none ∨ w.heap.size ≤ b) ∧ (∀ b, od' b ≠ none → od b ≠ none ∨ w.heap.size ≤ b)) ∧ Chg (fun b => own b ≠ none ∨ od b ≠ none) w w' := by
  obtain ⟨c0, c1, _, c3, _, cf⟩ := h.cells
  have hno : NamesOf st [] := ⟨fun s => by simp [hst s], List.nodup_nil, List.Pairwise.nil⟩
  have hnames := namesQ_aliveW hd hno (by omega)
  have hll := (h.lo l (by rw [h.ol]; simp)).2
  have HH : Hid _ := h
  have HD : Hid _ := hd
  have hl46 : ¬ 9223372036854775807 < nm.size + 1 := by omega
  have HST : Hid _ := hst
  clear h hd hno hst
  go_enter Tryz.func33, Tryz.ntmps33
  go_wp2_with fail
  refine hnames.mono ?_
  rintro e w1 ⟨v1, rfl, hv1, hb1⟩
  obtain ⟨ao, cc, rfl⟩ : ∃ ao cc, v1 = .slice ao 0 cc := by
    obtain ⟨_, r⟩ := hv1
    rcases r with ⟨r, _⟩ | ⟨g, cc, _, r, _⟩
    · exact ⟨_, _, r⟩
    · exact ⟨_, _, r⟩
  have d0 : w1.cell? ⟨l, 0, none⟩ = some (.pointer (some ⟨d, 0, none⟩)) := by rw [hb1.cell hll]; exact c0
  have d3 : w1.cell? ⟨l, 3, none⟩ = some (.slice none 0 0) := by rw [hb1.cell hll]; exact c3
  clear hv1
  go_wp2_with fail
  go_loopw [21] (fun i wr => i = .int .i64 0 ∧ wr = w1) (fun _ _ => 0)
  case atStart => exact ⟨rfl, rfl⟩
  case round =>
    obtain ⟨rfl, hwr⟩ := hrel
    subst hwr
    have hb2 : Below wr.heap.size wr (wr.alloc (.cells #[.int .u64 1, .int .i64 0, .slice none 0 0] 80)) := bel_alW wr _
    obtain ⟨h5, hc5⟩ := (HH.out.below hb1).one (Nat.le_trans hB hb1.size)
    have hl2 : l < wr.heap.size := Nat.lt_of_lt_of_le hll hb1.size
    have k3 : (wr.alloc (.cells #[.int .u64 1, .int .i64 0, .slice none 0 0] 80)).cell? ⟨l, 3, none⟩ = some (.slice none 0 0) := by rw [hb2.cell hl2]; exact d3
    have f3 : (wr.alloc (.cells #[.int .u64 1, .int .i64 0, .slice none 0 0] 80)).frozen? ⟨l, 3, none⟩ = false := ((HH.out.below hb1).below hb2).cells.2.2.2.2.2 3
    clear c0 c1 c3 cf
    go_wp2_with fail
    generalize ((wr.setCell ⟨l, 3, none⟩ (.slice (some ⟨wr.heap.size, 0, none⟩) 1 1)).alloc (.cells #[.int .u64 1, .int .i64 0, .slice none 0 0] 80)) = W0 at *
    have HDk : Dk B d n od st sz (alive d) 0 w := HD.out
    have hd0 := (HDk.next (Chg.of_below hb1) (fun b hs q => by have := (HDk.blo hs).2; omega)).next hc5 (fun b hs q => hs (by rw [q]; exact hap l (by rw [HH.out.ol]; simp)))
    have t0 := h5.cells.1
    have hl5 := (h5.lo l (by rw [h5.ol]; simp)).2
    have hfile := fun W (hW : Below W0.heap.size W0 W) => file_any (h5.below hW) 1 (by omega) hns
    have hdW := fun W (hW : Below W0.heap.size W0 W) => hd0.next (Chg.of_below hW) (fun b hs q => by have := (hd0.blo hs).2; omega)
    have hls := fname_size nm 1 (by omega)
    have hwr := fun W (hW : Below W0.heap.size W0 W) => write_new (hdW W hW) (fname nm 1) (by omega) (by omega) (HST.out _) (Rd.nil W) (by simp; omega) (by omega)
    have hcl : ∀ W, Below W0.heap.size W0 W → W.cell? ⟨l, 0, none⟩ = some (.pointer (some ⟨d, 0, none⟩)) := fun W hW => by rw [hW.cell hl5]; exact t0
    have hmid : ∀ w2 w3, Below W0.heap.size W0 w2 → Chg (fun b => od b ≠ none) w2 w3 → w3.cell? ⟨l, 0, none⟩ = some (.pointer (some ⟨d, 0, none⟩)) := fun w2 w3 hb hc => by
      have x0 := hcl w2 hb
      rw [World.cell?_of_block (hc.block l (World.block_lt_of_cell? _ _ x0) (by simp [hap l (by rw [HH.out.ol]; simp)]))]; exact x0
    have H5 : Hid _ := h5
    have HC5 : Hid _ := hc5
    have HAP : Hid _ := hap
    have hodl : ∀ b, od b ≠ none → b < w.heap.size := fun b hb => (HDk.blo hb).2
    clear h5 hc5 d0 d3 k3 f3 hd0 hdW hap HDk
    go_region_held3 (fun w' => w'.cell? ⟨l, 0, none⟩ = some (.pointer (some ⟨d, 0, none⟩))) (go_keep) (first
      | (go_at_call 44; refine (hfile _ (Below.dN W0 1)).mono ?_; rintro e w2 ⟨rfl, hb2⟩; have hb02 : Below W0.heap.size W0 w2 := Below.tr (Below.dN W0 1) hb2; have x0 := hcl _ hb02)
      | (go_at_call 21; refine (hwr _ hb02).mono ?_; rintro e w3 ⟨rfl, ⟨own', hd3, ho3⟩, hc3⟩; have y0 := hmid w2 w3 hb02 hc3)
      | fail)
    go_wp2_with fail
    go_ret
    have hI := H5.out
    have hsz5 := HC5.out.size
    have hsz1 := hb1.size
    have hsz2 := hb02.size
    have ho : ∀ b, ownSeg own (.slice (some ⟨wr.heap.size, 0, none⟩) 1 1) b ≠ none → od b = none ∧ b < W0.heap.size := fun b hb => by
      refine ⟨?_, (hI.lo b hb).2⟩
      unfold ownSeg at hb
      split at hb
      · rename_i e
        have e2 : wr.heap.size = b := by simpa [Value.ownBlock] using e
        by_cases q : od b = none
        · exact q
        · have := hodl b q; omega
      · exact HAP.out b hb
    refine ⟨rfl, ⟨_, _, own', ⟨(hI.below hb02).next hc3 (fun b hb q => q (ho b hb).1), by simpa using hd3, fun b hb => ?_, fun i p e => ?_, fun i p e => ?_, by simp, hns⟩, fun b hb => ?_, fun b hb => ?_⟩, ?_⟩
    · by_cases q : own' b = none
      · exact q
      · rcases ho3 b q with r | r
        · exact absurd (ho b hb).1 r
        · have := (ho b hb).2; omega
    · cases i with
      | zero => simp at e; subst e; exact ⟨0, by show setF st (fname nm 1).data.toList (some ([], 0)) (fname nm 1).data.toList = some ([], 0); unfold setF; rw [if_pos rfl]⟩
      | succ j => simp at e
    · cases i with
      | zero => simp at e; subst e; simp [sg0]
      | succ j => simp at e
    · unfold ownSeg at hb
      split at hb
      · rename_i e
        have e2 : wr.heap.size = b := by simpa [Value.ownBlock] using e
        exact .inr (by omega)
      · exact .inl hb
    · rcases ho3 b hb with r | r
      · exact .inl r
      · exact .inr (by omega)
    · refine ((((Chg.of_below hb1).mono (fun b q1 q2 => by omega)).trans (HC5.out.mono (fun b _ q => .inl (.inl (by rw [q, HH.out.ol]; simp))))).trans ((Chg.of_below hb02).mono (fun b q1 q2 => by omega))).trans (hc3.mono (fun b _ q => .inl (.inr q)))
end
end Go.Proofs.YtcielagfajdbeaaGreatDoor
