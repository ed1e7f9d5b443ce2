/- The log's tidy, where nothing is left over. -/
import Derived.Test.YtgdgnkmjoiholaaGreatDoorG5
import Derived.Test.YtgdgnkmjoiholaaGreatDoorG4
import Derived.RangeFuncNested
import Derived.RangeFuncBound
import Derived.RangeFuncCalls
import Derived.RangeFuncLeaves
import Derived.RangeFuncFrom
import Derived.Shelf.Abstract
import Derived.OwnWalkIn
import Derived.TacticsInMore
import Derived.LoopNIn
import Derived.LoopIn
import Derived.Deep.RegionHeld3
import Derived.Test.YtgdgnkmjoiholaaGreatDoorG2
import Derived.Test.YtgdgnkmjoiholaaGreatDoorG1
import Derived.Laws.BitsLemmas
namespace Go.Proofs.YtgdgnkmjoiholaaGreatDoor
open Go.RowKit
set_option linter.unusedVariables false
set_option maxRecDepth 100000

section
variable {B l d size : Nat} {nm : ByteArray} {over : Bool} {sv : Value} {P : List (Sg × Value)} {U : Nat → List Value} {own : Nat → Option LRole} {n : Nat} {od : Nat → Option Role} {st : Nm → Option (List UInt8 × Nat)} {sz : Nat} {w w' : World}
theorem tidy_any (h : LgI B l d size nm over sv P U own w) (hd : Dk B d n od st sz (alive d) 0 w) (hns : nm.size ≤ 40) (hsp : st (sname nm).data.toList = none) :
    Calls Tryz.prog 32 #[.pointer (some ⟨l, 0, none⟩)] w fun r w' => r = .returned (.int .i64 0) ∧ ∃ q, w' = w.drewN q := by
  have hssz : (sname nm).size = nm.size + 4 := by unfold sname; rw [ByteArray.size_append]; rfl
  have hsp2 := fun q => spare_any (h.drN q) hns
  have hrm := fun q => remove_noW (hd.drN q) (sname nm) (by unfold maxLen; omega) hsp
  have c0 := h.cells.1
  unfold sname at hrm
  clear h hd hsp hssz
  go_enter Tryz.func32, Tryz.ntmps32
  go_wp2_with fail
  go_quiet (first | (go_at_call 60; refine Calls.quiet_of_same (v := .string (nm ++ ⟨#[46, 110, 101, 119]⟩)) (hsp2 _)) | (go_at_call 28; refine Calls.quiet_of (v := .int .i64 20) (hrm _)) | fail)
  go_wp2_with fail
  go_ret
  exact ⟨rfl, _, rfl⟩
end
end Go.Proofs.YtgdgnkmjoiholaaGreatDoor

/- The log's reading at its smallest: no frame in no byte, one segment alone. -/
namespace Go.Proofs.YtgdgnkmjoiholaaGreatDoor
open Go.RowKit
set_option linter.unusedVariables false
set_option maxRecDepth 100000

theorem tf_nil : M.tf [] = ([], [], 10) := by decide +kernel

section
variable {B l d size : Nat} {nm : ByteArray} {over : Bool} {sv : Value} {P : List (Sg × Value)} {U : Nat → List Value} {own : Nat → Option LRole} {w w' : World}
theorem take_none {v : Value} (hr : Rd w v []) :
    Calls Tryz.prog 107 #[v] w fun e w' => e = .returned (.tuple #[.slice none 0 0, .int .i64 0]) ∧ Below w.heap.size w w' := by
  rcases hr.two with ⟨rfl, _⟩ | ⟨a, c, rfl, _, hc, _⟩
  · have ht := fun q => tframe_any (hr.drewN q) (by simp)
    rw [tf_nil] at ht
    clear hr
    have hmin : min (64 : Int) 0 = 0 := by decide
    go_enter Tryz.func107, Tryz.ntmps107
    go_wp2_with fail
    go_loopw [4] (fun i wr => i = .int .i64 64 ∧ ∃ q, wr = w.drewN q) (fun _ _ => 0)
    case atStart => exact ⟨rfl, 0, rfl⟩
    case round =>
      obtain ⟨rfl, q, rfl⟩ := hrel
      go_wp2_with fail
      refine (ht q).mono ?_
      rintro e w1 ⟨v1, v2, rfl, _, _, _, hb⟩
      go_wp2_with fail
      go_returns
      exact ⟨rfl, Below.tr (Below.dN w q) hb⟩
  · have ht := fun q => tframe_any (hr.drewN q) (by simp)
    rw [tf_nil] at ht
    simp only [List.length_nil] at ht ⊢
    clear hr
    have hmin : min (64 : Int) 0 = 0 := by decide
    go_enter Tryz.func107, Tryz.ntmps107
    go_wp2_with fail
    go_loopw [4] (fun i wr => i = .int .i64 64 ∧ ∃ q, wr = w.drewN q) (fun _ _ => 0)
    case atStart => exact ⟨rfl, 0, rfl⟩
    case round =>
      obtain ⟨rfl, q, rfl⟩ := hrel
      go_wp2_with fail
      refine (ht q).mono ?_
      rintro e w1 ⟨v1, v2, rfl, _, _, _, hb⟩
      go_wp2_with fail
      go_returns
      exact ⟨rfl, Below.tr (Below.dN w q) hb⟩
theorem whole_one (h : LgI B l d size nm over sv P U own w) {g c : Nat} (hv : sv = .slice (some ⟨g, 0, none⟩) P.length c) (hk : P.length = 1) :
    Calls Tryz.prog 34 #[.pointer (some ⟨l, 0, none⟩)] w fun e w' => e = .returned (.int .i64 0) ∧ ∃ q, w' = w.drewN q := by
  obtain ⟨_, _, _, c3, _, _⟩ := h.cells
  rw [hv, hk] at c3
  clear h hv hk
  go_enter Tryz.func34, Tryz.ntmps34
  go_wp2_with fail
  go_loopw [13] (fun i wr => i = .int .i64 0 ∧ ∃ q, wr = w.drewN q) (fun _ _ => 0)
  case atStart => exact ⟨rfl, 0, rfl⟩
  case round =>
    obtain ⟨rfl, q, rfl⟩ := hrel
    go_wp2_with fail
    go_ret
    exact ⟨rfl, _, rfl⟩
end
end Go.Proofs.YtgdgnkmjoiholaaGreatDoor

/- Log.read of a segment whose file holds no byte: a range over a function that tells nothing. -/
namespace Go.Proofs.YtgdgnkmjoiholaaGreatDoor
open Go.RowKit Go.Shelf
set_option linter.unusedVariables false
set_option maxRecDepth 100000
attribute [local go_sem] Oper.semAt_some

theorem grown_of_below {w w' : World} (h : Below w.heap.size w w') : w.grownBy w' none := ⟨h.os, h.tape, h.output, h.size, fun k hk _ => h.block k hk⟩

theorem frames_any {a : Option Addr} {m c : Nat} {w : World} :
    Calls Tryz.prog 80 #[.slice a m c] w fun e w' => e = .returned (.func (.func 106) #[] #[.pointer (some ⟨w.heap.size, 0, none⟩)]) ∧ w' = w.alloc (.cells #[.slice a m c] 24) := by
  have hmf : ∀ (fn : Fn) (first cap : Array Value) (w : World), (Instr.makeFunc fn first cap).run Tryz.prog w = .ok (.func fn first cap) w := fun _ _ _ _ => rfl
  go_enter Tryz.func80, Tryz.ntmps80
  go_wp2_with fail
  go_ret
  exact ⟨rfl, rfl⟩

set_option maxHeartbeats 1000000 in
theorem frames_none (n : Nat) {a : Option Addr} {c : Nat} {Bs : Nat} {w : World} (hr : Rd w (.slice a 0 c) []) (hBs : Bs < w.heap.size) (hc : w.cell? ⟨Bs, 0, none⟩ = some (.slice a 0 c)) :
    SeqStopsK Fence.wide n Tryz.prog 106 #[.pointer (some ⟨Bs, 0, none⟩)] (fun x : Empty => (x.elim : Array Value)) (Below w.heap.size) (fun ys => ys = []) (fun _ => False) 0 w := fun l J Jx W hW hJ hJx hY h0 => by
  refine callsIn_wide.2 ?_
  show Calls Tryz.prog 106 #[.func (.yield l) #[] #[], .pointer (some ⟨Bs, 0, none⟩)] W _
  have hcW : W.cell? ⟨Bs, 0, none⟩ = some (.slice a 0 c) := by rw [hW.cell hBs]; exact hc
  have htk := take_none (hr.below hW (Nat.le_refl _))
  have HJ : Hid (∀ W', Below W.heap.size W W' → J [] W') := fun W' hb => hJ [] W W' none h0 (grown_of_below hb) (fun r e => by cases e)
  clear hY hJ hJx hr hc h0
  go_enter Tryz.func106, Tryz.ntmps106
  go_wp2_with fail
  go_loopw [3, 4] (fun _ _ wr => wr = W) (fun _ _ _ => 0)
  case atStart => exact rfl
  case round =>
    subst hrel
    go_wp2_with fail
    refine htk.mono ?_
    rintro e w1 ⟨rfl, hb1⟩
    go_wp2_with fail
    refine bodyPost_ret (results_none rfl _ _ _) rfl ?_
    exact ⟨⟨_, rfl⟩, .inl ⟨[], rfl, HJ.out w1 hb1⟩⟩

section
variable {B l d size : Nat} {nm : ByteArray} {sv : Value} {P : List (Sg × Value)} {U : Nat → List Value} {own : Nat → Option LRole} {n : Nat} {od : Nat → Option Role} {st : Nm → Option (List UInt8 × Nat)} {sz : Nat} {w w' : World}
set_option maxHeartbeats 4000000 in
theorem read_none (h : WI B l d size nm sv P U own n od st sz w) {k : Nat} {p : Sg × Value} (e : P[k]? = some p) (h0 : p.1.2 = []) {g c : Nat} (hv : sv = .slice (some ⟨g, 0, none⟩) P.length c) :
    Calls Tryz.prog 65 #[.pointer (some ⟨l, 0, none⟩), .pointer (some ⟨g, k * 3, none⟩)] w fun r w' => ∃ v, r = .returned (.tuple #[v, .int .i64 0]) ∧ Rd w' v [] ∧ Below w.heap.size w w' := by
  obtain ⟨g', c', ev, h1, h2, s0, _, _⟩ := h.lg.seg k p e
  obtain ⟨rfl, rfl⟩ : g' = g ∧ c' = c := by
    rw [hv] at ev
    simp only [Value.slice.injEq, Option.some.injEq, Addr.mk.injEq, and_true, true_and] at ev
    exact ⟨ev.1.symm, ev.2.symm⟩
  have hnb := h.nb k p e
  obtain ⟨sy, hst⟩ := h.fl k p e
  rw [h0] at hst
  have hls := fname_size nm p.1.1 hnb
  have hns := h.ns
  obtain ⟨c0, _, _, _, _, _⟩ := h.lg.cells
  have hlo := (h.lg.lo l (by rw [h.lg.ol]; simp)).2
  have hgl := World.block_lt_of_cell? _ _ s0
  have hbA : Below w.heap.size w (w.alloc (.cells #[.pointer (some ⟨g', k * 3, none⟩)] 74)) := bel_alW w _
  have HFI : Hid (∀ W, Below w.heap.size w W → Calls Tryz.prog 44 #[.pointer (some ⟨l, 0, none⟩), .int .u64 (p.1.1 : Int)] W fun e w' => e = .returned (.string (fname nm p.1.1)) ∧ Below W.heap.size W w') := fun W hW => file_any (h.lg.below hW) p.1.1 hnb hns
  have HRE : Hid (∀ W, Below w.heap.size w W → Calls Tryz.prog 25 #[.pointer (some ⟨d, 0, none⟩), .string (fname nm p.1.1)] W fun e w' => ∃ v, e = .returned (.tuple #[v, .int .i64 0]) ∧ Ow W.heap.size w' v [] ∧ Below W.heap.size W w') := fun W hW => read_alive (h.below hW).dk (fname nm p.1.1) (by unfold maxLen; omega) _ hst (by simp [frs])
  have HK : Hid (∀ W, Below (w.heap.size + 1) (w.alloc (.cells #[.pointer (some ⟨g', k * 3, none⟩)] 74)) W → W.cell? ⟨l, 0, none⟩ = some (.pointer (some ⟨d, 0, none⟩)) ∧ W.cell? ⟨g', k * 3, none⟩ = some (.int .u64 (p.1.1 : Int)) ∧ W.cell? ⟨w.heap.size, 0, none⟩ = some (.pointer (some ⟨g', k * 3, none⟩)) ∧ Below w.heap.size w W) := fun W hW => by
    have hB := hbA.trans (hW.mono (Nat.le_succ _))
    refine ⟨by rw [hB.cell hlo]; exact c0, by rw [hB.cell hgl]; exact s0, ?_, hB⟩
    rw [hW.cell (by simp), World.cell?_alloc_at _ _ _ _ rfl]; rfl
  have hsz : (w.alloc (.cells #[.pointer (some ⟨g', k * 3, none⟩)] 74)).heap.size = w.heap.size + 1 := by simp
  have hdr : Below (w.heap.size + 1) (w.alloc (.cells #[.pointer (some ⟨g', k * 3, none⟩)] 74)) (w.alloc (.cells #[.pointer (some ⟨g', k * 3, none⟩)] 74)).drew := below_drewN (Below.refl _ _) 1
  obtain ⟨k0, k1, k2, _⟩ := HK.out _ (Below.refl _ _)
  clear h ev hst e hnb hls hns c0 s0 hv h1 h2 h0
  refine (callsIn_wide (n := 5)).1 ?_
  refine callsIn_of_wp_marks Tryz.func65 rfl trivial ?_ rfl
  simp only [Tryz.ntmps65, List.size_toArray, List.length_cons, List.length_nil, Nat.reduceAdd, Nat.reduceSub, Array.replicate_succ, Array.replicate_zero, List.push_toArray, List.append_toArray, List.nil_append, List.cons_append]
  refine wpIn_wide.2 ?_
  go_wp2_with fail
  generalize (w.alloc (.cells #[.pointer (some ⟨g', k * 3, none⟩)] 74)) = W0 at *
  have HUP : Hid (∀ {W W'}, Below (w.heap.size + 1) W0 W → Below W.heap.size W W' → Below (w.heap.size + 1) W0 W') := fun {W W'} h1 h2 => h1.trans (h2.mono (by have := h1.size; omega))
  go_region_held3 (fun w' => w'.cell? ⟨l, 0, none⟩ = some (.pointer (some ⟨d, 0, none⟩)) ∧ w'.cell? ⟨g', k * 3, none⟩ = some (.int .u64 (p.1.1 : Int)) ∧ w'.cell? ⟨w.heap.size, 0, none⟩ = some (.pointer (some ⟨g', k * 3, none⟩))) (go_keep) (first
    | (go_at_call 25; refine (HRE.out w1 ((HK.out w1 hb1).2.2.2)).mono ?_; rintro e w2 ⟨v2, rfl, ho2, hb2'⟩; have hb2 := HUP.out hb1 hb2'; obtain ⟨q0, q1, q2, _⟩ := HK.out w2 hb2; have hrd2 := ho2.rd; obtain ⟨a2, c2', rfl⟩ : ∃ a c, v2 = .slice a 0 c := (by obtain ⟨a, c, e, _⟩ := hrd2; exact ⟨a, c, e⟩))
    | (go_at_call 44; refine (HFI.out _ ((HK.out _ hdr).2.2.2)).mono ?_; rintro e w1 ⟨rfl, hb1'⟩; have hb1 := HUP.out hdr hb1'; obtain ⟨p0, p1, p2, _⟩ := HK.out w1 hb1)
    | fail)
  go_wp2_with fail
  refine frames_any.mono ?_
  rintro e w3 ⟨rfl, hw3⟩
  have hb3' : Below w2.heap.size w2 w3 := by rw [hw3]; exact bel_alW w2 _
  have hb3 := HUP.out hb2 hb3'
  have hc3 : w3.cell? ⟨w2.heap.size, 0, none⟩ = some (.slice a2 0 c2') := by rw [hw3, World.cell?_alloc_at _ _ _ _ rfl]; rfl
  have hz3 : w2.heap.size < w3.heap.size := by rw [hw3]; simp
  have hrd3 : Rd w3 (.slice a2 0 c2') [] := hrd2.below hb3' (Nat.le_refl _)
  have hB3 := (HK.out w3 hb3).2.2.2
  have HRD : Hid (∀ W, Rd W (.slice a2 0 c2') []) := fun W => by
    obtain ⟨a, c, e, r1, r2, r3, _⟩ := hrd2
    exact ⟨a, c, e, r1, r2, r3, fun i hi => by simp at hi⟩
  clear hw3 hb3' hb2' hb1' p0 p1 p2 q0 q1 q2 k0 k1 k2
  go_wp2_with fail
  refine (wpIn_wide (n := 5)).1 ?_
  refine wpIn_rangeFunc_ownF (α := Empty) rfl (by omega) (gf := 106) (lb := #[.pointer (some ⟨w2.heap.size, 0, none⟩)]) rfl trivial (enters_of Tryz.func106 (by kernel_rfl) rfl)
    (frames_none 4 hrd3 hz3 hc3) belowK_t (belowK_b (Nat.le_refl _)) (Below.refl _ _) (fun x => x.elim)
    (fun _ W => Below w.heap.size w W) (fun _ _ _ => False)
    (ownFrom_below (Nat.le_refl _) hB3.size) (fun _ _ _ _ _ hs _ _ => hs) hB3 (fun x => x.elim) ?assign ?body ?done ?stop
  case assign => intro l x; exact x.elim
  case body => intro l pre x; exact x.elim
  case stop => intro D c pre W hD h; exact h.elim
  case done =>
    rintro D ys W hD rfl hB hK
    go_wp2_with fail
    have hwD : w.heap.size ≤ D := Nat.le_trans hB3.size hD
    refine ⟨by simp, .inl ⟨_, _, rfl, run_takeDeferred hK, ?_⟩⟩
    refine ⟨.tuple #[.slice a2 0 c2', .int .i64 0], ?_, ⟨_, rfl, HRD.out _, hB.trans (belowK_b (w := w) (Nat.le_refl _) W D _ _ hwD hK rfl rfl)⟩⟩
    simp [results, Tryz.results65, go_sem]
end
end Go.Proofs.YtgdgnkmjoiholaaGreatDoor

/- The log's syncAll: every segment's file synced. -/
namespace Go.Proofs.YtgdgnkmjoiholaaGreatDoor
open Go.RowKit
set_option linter.unusedVariables false
set_option maxRecDepth 100000

/-- The files of these segments synced. -/
def syF (nm : ByteArray) (P : List (Sg × Value)) (st : Nm → Option (List UInt8 × Nat)) : Nm → Option (List UInt8 × Nat) :=
  P.foldl (fun s p => setF s (fname nm p.1.1).data.toList (some (frs p.1.2, (frs p.1.2).length))) st
theorem syF_snoc (nm : ByteArray) (P : List (Sg × Value)) (st : Nm → Option (List UInt8 × Nat)) {k : Nat} {p : Sg × Value} (e : P[k]? = some p) :
    syF nm (P.take (k + 1)) st = setF (syF nm (P.take k) st) (fname nm p.1.1).data.toList (some (frs p.1.2, (frs p.1.2).length)) := by
  unfold syF
  rw [List.take_add_one, e, Option.toList_some, List.foldl_append]
  rfl

section
variable {B l d size : Nat} {nm : ByteArray} {over : Bool} {sv : Value} {P : List (Sg × Value)} {U : Nat → List Value} {own : Nat → Option LRole} {n : Nat} {od : Nat → Option Role} {st : Nm → Option (List UInt8 × Nat)} {sz : Nat} {w w' : World}
theorem WI.synced (hI : WI B l d size nm sv P U own n od st sz w) {k : Nat} {p : Sg × Value} (e : P[k]? = some p) {sy : Nat} (hst : st (fname nm p.1.1).data.toList = some (frs p.1.2, sy)) {w2 w3 : World} (hb : Below w.heap.size w w2)
    {own' : Nat → Option Role} (hd3 : Dk B d n own' (setF st (fname nm p.1.1).data.toList (some (frs p.1.2, (frs p.1.2).length))) sz (alive d) 0 w3) (ho3 : ∀ b, own' b ≠ none → od b ≠ none ∨ w2.heap.size ≤ b) (hc3 : Chg (fun b => od b ≠ none) w2 w3) :
    WI B l d size nm sv P U own n own' (setF st (fname nm p.1.1).data.toList (some (frs p.1.2, (frs p.1.2).length))) sz w3 ∧ Chg (fun b => own b ≠ none ∨ od b ≠ none) w w3 ∧ ∀ b, own' b ≠ none → od b ≠ none ∨ w.heap.size ≤ b := by
  refine ⟨⟨(hI.lg.below hb).next hc3 (fun b hb q => q (hI.ap b hb)), hd3, fun b hb' => ?_, fun i q hq => ?_, hI.nb, hI.ne, hI.ns⟩, ((Chg.of_below hb).mono (fun b q1 q2 => by omega)).trans (hc3.mono (fun b _ q => .inl (.inr q))), fun b q => (ho3 b q).imp id (fun r => Nat.le_trans hb.size r)⟩
  · by_cases q : own' b = none
    · exact q
    · rcases ho3 b q with r | r
      · exact absurd (hI.ap b hb') r
      · have := (hI.lg.lo b hb').2; have := hb.size; omega
  · obtain ⟨sq, hsq⟩ := hI.fl i q hq
    unfold setF
    split
    · rename_i he
      rw [he, hst] at hsq
      simp only [Option.some.injEq, Prod.mk.injEq] at hsq
      exact ⟨_, by rw [hsq.1]⟩
    · exact ⟨sq, hsq⟩

theorem sall_any (h : WI B l d size nm sv P U own n od st sz w) :
    Calls Tryz.prog 36 #[.pointer (some ⟨l, 0, none⟩)] w fun r w' => r = .returned (.int .i64 0) ∧ (∃ od', WI B l d size nm sv P U own n od' (syF nm P st) sz w' ∧ ∀ b, od' b ≠ none → od b ≠ none ∨ w.heap.size ≤ b) ∧ Chg (fun b => own b ≠ none ∨ od b ≠ none) w w' := by
  obtain ⟨p0, e0⟩ : ∃ p, P[0]? = some p := ⟨_, List.getElem?_eq_getElem h.ne⟩
  obtain ⟨g, c, ev, h1, h2, _, _, _⟩ := h.lg.seg 0 p0 e0
  obtain ⟨c0, _, _, c3, _, _⟩ := h.lg.cells
  rw [ev] at c3
  have HI : Hid _ := h
  have HE : Hid _ := ev
  have hPl : P.length ≤ 9223372036854775807 := by unfold maxLen at h2; omega
  clear h ev e0
  go_enter Tryz.func36, Tryz.ntmps36
  go_wp2_with fail
  go_loopw [11] (fun i wr => ∃ k od', k ≤ P.length ∧ i = .int .i64 (k : Int) ∧ Hid (WI B l d size nm sv P U own n od' (syF nm (P.take k) st) sz wr ∧ (∀ b, od' b ≠ none → od b ≠ none ∨ w.heap.size ≤ b) ∧ Chg (fun b => own b ≠ none ∨ od b ≠ none) w wr)) (fun i _ => P.length - (intOf i).toNat)
  case atStart => exact ⟨0, od, by omega, rfl, ⟨HI.out, fun b q => .inl q, Chg.refl _ _⟩⟩
  case round =>
    obtain ⟨k, od', hkn, rfl, HR⟩ := hrel
    generalize wr = wA at *
    by_cases hlt : k < P.length
    · obtain ⟨p, e⟩ : ∃ p, P[k]? = some p := ⟨_, List.getElem?_eq_getElem hlt⟩
      obtain ⟨hA, hod, hcA⟩ := HR.out
      obtain ⟨g', c', ev', _, _, s0, s1, s2⟩ := hA.lg.seg k p e
      have := HE.out
      rw [this] at ev'
      simp only [Value.slice.injEq, Option.some.injEq, Addr.mk.injEq, and_true, true_and] at ev'
      obtain ⟨rfl, rfl⟩ := ev'
      clear this
      obtain ⟨a0, _, _, _, _, _⟩ := hA.lg.cells
      have hnb := hA.nb k p e
      obtain ⟨sy, hst⟩ := hA.fl k p e
      have HS : Hid _ := hst
      have hls := fname_size nm p.1.1 hnb
      have hns := hA.ns
      have hfile := fun W (hW : Below wA.heap.size wA W) => file_any (hA.lg.below hW) p.1.1 hnb hns
      have hsync := fun W (hW : Below wA.heap.size wA W) => sync_alive (hA.below hW).dk (fname nm p.1.1) (by unfold maxLen; omega) _ hst
      have HPE : Hid _ := e
      obtain ⟨ao, nn, cc, ep⟩ : ∃ ao nn cc, p.2 = .slice ao nn cc := by
        obtain ⟨⟨_, r⟩, _⟩ := hA.lg.recs k p e
        rcases r with ⟨r, _⟩ | ⟨_, _, _, r, _⟩
        · exact ⟨_, _, _, r⟩
        · exact ⟨_, _, _, r⟩
      rw [ep] at s2
      have hll := (hA.lg.lo l (by rw [hA.lg.ol]; simp)).2
      have hol : own l ≠ none := by rw [hA.lg.ol]; simp
      have hapl := hA.ap l hol
      have nd : od' wA.heap.size = none := by
        by_cases q : od' wA.heap.size = none
        · exact q
        · have := (hA.dk.blo q).2; omega
      have hbA : Below wA.heap.size wA (wA.alloc (.cells #[.int .u64 (p.1.1 : Int), .int .i64 ((frs p.1.2).length : Int), .slice ao nn cc] 80)) := bel_alW wA _
      have hrc : (wA.alloc (.cells #[.int .u64 (p.1.1 : Int), .int .i64 ((frs p.1.2).length : Int), .slice ao nn cc] 80)).heap[wA.heap.size]? = some (.cells #[.int .u64 (p.1.1 : Int), .int .i64 ((frs p.1.2).length : Int), .slice ao nn cc] 80 (0, 0)) := heap_alloc_new wA _
      clear hst hA hod hcA e ep
      go_wp2_with fail
      generalize (wA.alloc (.cells #[.int .u64 (p.1.1 : Int), .int .i64 ((frs p.1.2).length : Int), .slice ao nn cc] 80)) = W0 at *
      have hs0 := hbA.size
      have hlt0 : wA.heap.size < W0.heap.size := (Array.getElem?_eq_some_iff.1 hrc).1
      have hnn : ∀ W, Below W0.heap.size W0 W → Below wA.heap.size wA W := fun W hW => hbA.trans (hW.mono hs0)
      have hcl : ∀ W, Below W0.heap.size W0 W → W.cell? ⟨l, 0, none⟩ = some (.pointer (some ⟨d, 0, none⟩)) ∧ W.cell? ⟨wA.heap.size, 0, none⟩ = some (.int .u64 (p.1.1 : Int)) := fun W hW => by
        have e2 : W.heap[wA.heap.size]? = some (.cells #[.int .u64 (p.1.1 : Int), .int .i64 ((frs p.1.2).length : Int), .slice ao nn cc] 80 (0, 0)) := by rw [hW.block _ (by omega)]; exact hrc
        exact ⟨by rw [(hnn W hW).cell hll]; exact a0, by simp [World.cell?, e2]⟩
      have hmid : ∀ w2 w3, Below W0.heap.size W0 w2 → Chg (fun b => od' b ≠ none) w2 w3 → w3.cell? ⟨l, 0, none⟩ = some (.pointer (some ⟨d, 0, none⟩)) ∧ w3.cell? ⟨wA.heap.size, 0, none⟩ = some (.int .u64 (p.1.1 : Int)) := fun w2 w3 hb hc => by
        obtain ⟨x0, x1⟩ := hcl w2 hb
        have hl2 := World.block_lt_of_cell? _ _ x0
        have hg2 := World.block_lt_of_cell? _ _ x1
        exact ⟨by rw [World.cell?_of_block (hc.block l hl2 (by simp [hapl]))]; exact x0, by rw [World.cell?_of_block (hc.block wA.heap.size hg2 (by simp [nd]))]; exact x1⟩
      obtain ⟨t0, t1⟩ := hcl W0 (Below.refl _ _)
      clear a0 s0 s1 s2 c0 c3
      go_region_held3 (fun w' => w'.cell? ⟨l, 0, none⟩ = some (.pointer (some ⟨d, 0, none⟩)) ∧ w'.cell? ⟨wA.heap.size, 0, none⟩ = some (.int .u64 (p.1.1 : Int))) (go_keep) (first
        | (go_at_call 44; refine (hfile _ (hnn _ (Below.dN W0 1))).mono ?_; rintro e w2 ⟨rfl, hb2⟩; have hb02 : Below W0.heap.size W0 w2 := Below.tr (Below.dN W0 1) hb2; obtain ⟨x0, x1⟩ := hcl _ hb02)
        | (go_at_call 43; refine (hsync _ (hnn _ hb02)).mono ?_; rintro e w3 ⟨rfl, ⟨own', hd3, ho3⟩, hc3⟩; obtain ⟨y0, y1⟩ := hmid w2 w3 hb02 hc3)
        | fail)
      go_wp2_with fail
      obtain ⟨hA, hod, hcA⟩ := HR.out
      obtain ⟨q1, q2, q3⟩ := hA.synced HPE.out HS.out (hnn _ hb02) hd3 ho3 hc3
      have hsz := hcA.size
      refine ⟨⟨k + 1, own', by omega, by go_num, ⟨by rw [syF_snoc nm P st HPE.out]; exact q1, fun b q => ?_, hcA.trans (q2.mono (fun b hb q => ?_))⟩⟩, by simp [intOf]; omega⟩
      · rcases q3 b q with r | r
        · exact hod b r
        · exact .inr (by omega)
      · rcases q with q | q
        · exact .inl (.inl q)
        · rcases hod b q with r | r
          · exact .inl (.inr r)
          · exact .inr r
    · obtain rfl : k = P.length := by omega
      go_wp2_with fail
      go_ret
      obtain ⟨hA, hod, hcA⟩ := HR.out
      rw [List.take_length] at hA
      exact ⟨rfl, ⟨od', hA, hod⟩, hcA⟩
end
end Go.Proofs.YtgdgnkmjoiholaaGreatDoor

/- The log's find, where the disk has no file. -/
namespace Go.Proofs.YtgdgnkmjoiholaaGreatDoor
open Go.RowKit
set_option linter.unusedVariables false
set_option maxRecDepth 100000

section
variable {B l d size : Nat} {nm : ByteArray} {over : Bool} {sv : Value} {P : List (Sg × Value)} {U : Nat → List Value} {own : Nat → Option LRole} {n : Nat} {od : Nat → Option Role} {st : Nm → Option (List UInt8 × Nat)} {sz : Nat} {w w' : World}
theorem LgI.one (h : LgI B l d size nm over (.slice none 0 0) [] U own w) (hB : B ≤ w.heap.size) :
    LgI B l d size nm over (.slice (some ⟨w.heap.size, 0, none⟩) 1 1) [sg0 1] (recSeg U 0) (ownSeg own (.slice (some ⟨w.heap.size, 0, none⟩) 1 1)) ((w.setCell ⟨l, 3, none⟩ (.slice (some ⟨w.heap.size, 0, none⟩) 1 1)).alloc (.cells #[.int .u64 1, .int .i64 0, .slice none 0 0] 80)) ∧ Chg (fun b => b = l) w ((w.setCell ⟨l, 3, none⟩ (.slice (some ⟨w.heap.size, 0, none⟩) 1 1)).alloc (.cells #[.int .u64 1, .int .i64 0, .slice none 0 0] 80)) := by
  have hll := (h.lo l (by rw [h.ol]; simp)).2
  have hs4 : (w.setCell ⟨l, 3, none⟩ (.slice (some ⟨w.heap.size, 0, none⟩) 1 1)).heap.size = w.heap.size := by simp
  have hcl : Chg (fun b => b = l) w (w.setCell ⟨l, 3, none⟩ (.slice (some ⟨w.heap.size, 0, none⟩) 1 1)) := (Chg.refl (fun b => b = l) _).put l 3 _ rfl
  have hnew := heap_alloc_new (w.setCell ⟨l, 3, none⟩ (.slice (some ⟨w.heap.size, 0, none⟩) 1 1)) (.cells #[.int .u64 1, .int .i64 0, .slice none 0 0] 80)
  rw [hs4] at hnew
  have hb5 := bel_alW (w.setCell ⟨l, 3, none⟩ (.slice (some ⟨w.heap.size, 0, none⟩) 1 1)) (.cells #[.int .u64 1, .int .i64 0, .slice none 0 0] 80)
  rw [hs4] at hb5
  have hl5 : (w.setCell ⟨l, 3, none⟩ (.slice (some ⟨w.heap.size, 0, none⟩) 1 1)).heap[l]? = some (.cells #[.pointer (some ⟨d, 0, none⟩), .string nm, .int .i64 (size : Int), (.slice (some ⟨w.heap.size, 0, none⟩) 1 1), .bool over] 71 (0, 0)) := by rw [heap_setCell_same _ _ 3 _ _ _ h.cell]; rfl
  have one : ∀ (i : Nat) p, [sg0 1][i]? = some p → i = 0 ∧ p = sg0 1 := fun i p e => by
    cases i with
    | zero => simp at e; exact ⟨rfl, e.symm⟩
    | succ j => simp at e
  have hrow : (((w.setCell ⟨l, 3, none⟩ (.slice (some ⟨w.heap.size, 0, none⟩) 1 1)).alloc (.cells #[.int .u64 1, .int .i64 0, .slice none 0 0] 80))).ownsRow B 80 3 (.slice (some ⟨w.heap.size, 0, none⟩) 1 1) 1 (sgCs [sg0 1]) := by
    refine ⟨?_, .inr ⟨w.heap.size, 1, #[.int .u64 1, .int .i64 0, .slice none 0 0], rfl, hB, hnew, ?_, ?_, ?_, ?_⟩⟩
    all_goals first | rfl | decide | (unfold maxLen; decide) | simp [sgCs, sgC, sg0, frs]
  refine ⟨⟨?_, hrow, fun i p e => ?_, fun i p j u r e1 e2 e3 => ?_, ?_, fun b e => ?_, fun i p b e q => ?_, fun i p u b e hu q => ?_, fun b hb => ?_⟩, hcl.alloc _⟩
  · rw [hb5.block l hll]; exact hl5
  · obtain ⟨rfl, rfl⟩ := one i p e
    exact ⟨World.ownsRow_nil _ _ _ _, rfl⟩
  · obtain ⟨rfl, rfl⟩ := one i p e1
    simp [sg0] at e3
  · unfold ownSeg
    rw [if_neg (by simp [Value.ownBlock]; omega)]
    exact h.ol
  · unfold ownSeg; rw [if_pos e]
  · obtain ⟨rfl, rfl⟩ := one i p e
    cases q
  · obtain ⟨rfl, rfl⟩ := one i p e
    have : recSeg U 0 0 = [] := by unfold recSeg; rw [if_pos rfl]
    rw [this] at hu; cases hu
  · unfold ownSeg at hb
    split at hb
    · rename_i e
      exact World.ownsRow.lt hrow b e
    · have := h.lo b hb
      exact ⟨this.1, by simp; omega⟩

theorem find_none (h : LgI B l d size nm false (.slice none 0 0) [] U own w) (hd : Dk B d n od st sz (alive d) 0 w) (hap : ∀ b, own b ≠ none → od b = none) (hst : ∀ s, st s = none) (hns : nm.size ≤ 40) (hsz : sz = 0) (hn : n ≤ 1048576) (hB : B ≤ w.heap.size) :
    Calls Tryz.prog 33 #[.pointer (some ⟨l, 0, none⟩)] w fun r w' => r = .returned (.int .i64 0) ∧ (∃ sv' own' od', WI B l d size nm sv' [sg0 1] (recSeg U 0) own' (n + 1) od' (setF st (fname nm 1).data.toList (some ([], 0))) sz w' ∧ (∀ b, own' b ≠ none → own b ≠ none ∨ w.heap.size ≤ b) ∧ (∀ b, od' b ≠ none → od b ≠ none ∨ w.heap.size ≤ b)) ∧ Chg (fun b => own b ≠ none ∨ od b ≠ none) w w' := by
  obtain ⟨c0, c1, _, c3, _, cf⟩ := h.cells
  have hno : NamesOf st [] := ⟨fun s => by simp [hst s], List.nodup_nil, List.Pairwise.nil⟩
  have hnames := namesQ_aliveW hd hno (by omega)
  have hll := (h.lo l (by rw [h.ol]; simp)).2
  have HH : Hid _ := h
  have HD : Hid _ := hd
  have hl46 : ¬ 9223372036854775807 < nm.size + 1 := by omega
  have HST : Hid _ := hst
  clear h hd hno hst
  go_enter Tryz.func33, Tryz.ntmps33
  go_wp2_with fail
  refine hnames.mono ?_
  rintro e w1 ⟨v1, rfl, hv1, hb1⟩
  obtain ⟨ao, cc, rfl⟩ : ∃ ao cc, v1 = .slice ao 0 cc := by
    obtain ⟨_, r⟩ := hv1
    rcases r with ⟨r, _⟩ | ⟨g, cc, _, r, _⟩
    · exact ⟨_, _, r⟩
    · exact ⟨_, _, r⟩
  have d0 : w1.cell? ⟨l, 0, none⟩ = some (.pointer (some ⟨d, 0, none⟩)) := by rw [hb1.cell hll]; exact c0
  have d3 : w1.cell? ⟨l, 3, none⟩ = some (.slice none 0 0) := by rw [hb1.cell hll]; exact c3
  clear hv1
  go_wp2_with fail
  go_loopw [21] (fun i wr => i = .int .i64 0 ∧ wr = w1) (fun _ _ => 0)
  case atStart => exact ⟨rfl, rfl⟩
  case round =>
    obtain ⟨rfl, hwr⟩ := hrel
    subst hwr
    have hb2 : Below wr.heap.size wr (wr.alloc (.cells #[.int .u64 1, .int .i64 0, .slice none 0 0] 80)) := bel_alW wr _
    obtain ⟨h5, hc5⟩ := (HH.out.below hb1).one (Nat.le_trans hB hb1.size)
    have hl2 : l < wr.heap.size := Nat.lt_of_lt_of_le hll hb1.size
    have k3 : (wr.alloc (.cells #[.int .u64 1, .int .i64 0, .slice none 0 0] 80)).cell? ⟨l, 3, none⟩ = some (.slice none 0 0) := by rw [hb2.cell hl2]; exact d3
    have f3 : (wr.alloc (.cells #[.int .u64 1, .int .i64 0, .slice none 0 0] 80)).frozen? ⟨l, 3, none⟩ = false := ((HH.out.below hb1).below hb2).cells.2.2.2.2.2 3
    clear c0 c1 c3 cf
    go_wp2_with fail
    generalize ((wr.setCell ⟨l, 3, none⟩ (.slice (some ⟨wr.heap.size, 0, none⟩) 1 1)).alloc (.cells #[.int .u64 1, .int .i64 0, .slice none 0 0] 80)) = W0 at *
    have HDk : Dk B d n od st sz (alive d) 0 w := HD.out
    have hd0 := (HDk.next (Chg.of_below hb1) (fun b hs q => by have := (HDk.blo hs).2; omega)).next hc5 (fun b hs q => hs (by rw [q]; exact hap l (by rw [HH.out.ol]; simp)))
    have t0 := h5.cells.1
    have hl5 := (h5.lo l (by rw [h5.ol]; simp)).2
    have hfile := fun W (hW : Below W0.heap.size W0 W) => file_any (h5.below hW) 1 (by omega) hns
    have hdW := fun W (hW : Below W0.heap.size W0 W) => hd0.next (Chg.of_below hW) (fun b hs q => by have := (hd0.blo hs).2; omega)
    have hls := fname_size nm 1 (by omega)
    have hwr := fun W (hW : Below W0.heap.size W0 W) => write_new (hdW W hW) (fname nm 1) (by omega) (by omega) (HST.out _) (Rd.nil W) (by simp; omega) (by omega)
    have hcl : ∀ W, Below W0.heap.size W0 W → W.cell? ⟨l, 0, none⟩ = some (.pointer (some ⟨d, 0, none⟩)) := fun W hW => by rw [hW.cell hl5]; exact t0
    have hmid : ∀ w2 w3, Below W0.heap.size W0 w2 → Chg (fun b => od b ≠ none) w2 w3 → w3.cell? ⟨l, 0, none⟩ = some (.pointer (some ⟨d, 0, none⟩)) := fun w2 w3 hb hc => by
      have x0 := hcl w2 hb
      rw [World.cell?_of_block (hc.block l (World.block_lt_of_cell? _ _ x0) (by simp [hap l (by rw [HH.out.ol]; simp)]))]; exact x0
    have H5 : Hid _ := h5
    have HC5 : Hid _ := hc5
    have HAP : Hid _ := hap
    have hodl : ∀ b, od b ≠ none → b < w.heap.size := fun b hb => (HDk.blo hb).2
    clear h5 hc5 d0 d3 k3 f3 hd0 hdW hap HDk
    go_region_held3 (fun w' => w'.cell? ⟨l, 0, none⟩ = some (.pointer (some ⟨d, 0, none⟩))) (go_keep) (first
      | (go_at_call 44; refine (hfile _ (Below.dN W0 1)).mono ?_; rintro e w2 ⟨rfl, hb2⟩; have hb02 : Below W0.heap.size W0 w2 := Below.tr (Below.dN W0 1) hb2; have x0 := hcl _ hb02)
      | (go_at_call 21; refine (hwr _ hb02).mono ?_; rintro e w3 ⟨rfl, ⟨own', hd3, ho3⟩, hc3⟩; have y0 := hmid w2 w3 hb02 hc3)
      | fail)
    go_wp2_with fail
    go_ret
    have hI := H5.out
    have hsz5 := HC5.out.size
    have hsz1 := hb1.size
    have hsz2 := hb02.size
    have ho : ∀ b, ownSeg own (.slice (some ⟨wr.heap.size, 0, none⟩) 1 1) b ≠ none → od b = none ∧ b < W0.heap.size := fun b hb => by
      refine ⟨?_, (hI.lo b hb).2⟩
      unfold ownSeg at hb
      split at hb
      · rename_i e
        have e2 : wr.heap.size = b := by simpa [Value.ownBlock] using e
        by_cases q : od b = none
        · exact q
        · have := hodl b q; omega
      · exact HAP.out b hb
    refine ⟨rfl, ⟨_, _, own', ⟨(hI.below hb02).next hc3 (fun b hb q => q (ho b hb).1), by simpa using hd3, fun b hb => ?_, fun i p e => ?_, fun i p e => ?_, by simp, hns⟩, fun b hb => ?_, fun b hb => ?_⟩, ?_⟩
    · by_cases q : own' b = none
      · exact q
      · rcases ho3 b q with r | r
        · exact absurd (ho b hb).1 r
        · have := (ho b hb).2; omega
    · cases i with
      | zero => simp at e; subst e; exact ⟨0, by show setF st (fname nm 1).data.toList (some ([], 0)) (fname nm 1).data.toList = some ([], 0); unfold setF; rw [if_pos rfl]⟩
      | succ j => simp at e
    · cases i with
      | zero => simp at e; subst e; simp [sg0]
      | succ j => simp at e
    · unfold ownSeg at hb
      split at hb
      · rename_i e
        have e2 : wr.heap.size = b := by simpa [Value.ownBlock] using e
        exact .inr (by omega)
      · exact .inl hb
    · rcases ho3 b hb with r | r
      · exact .inl r
      · exact .inr (by omega)
    · refine ((((Chg.of_below hb1).mono (fun b q1 q2 => by omega)).trans (HC5.out.mono (fun b _ q => .inl (.inl (by rw [q, HH.out.ol]; simp))))).trans ((Chg.of_below hb02).mono (fun b q1 q2 => by omega))).trans (hc3.mono (fun b _ q => .inl (.inr q)))
end
end Go.Proofs.YtgdgnkmjoiholaaGreatDoor

/- readLast of a log whose last segment has no record; Open on an empty disk. -/
namespace Go.Proofs.YtgdgnkmjoiholaaGreatDoor
open Go.RowKit
set_option linter.unusedVariables false
set_option maxRecDepth 100000

section
variable {B l d size : Nat} {nm : ByteArray} {sv : Value} {P : List (Sg × Value)} {U : Nat → List Value} {own : Nat → Option LRole} {n : Nat} {od : Nat → Option Role} {st : Nm → Option (List UInt8 × Nat)} {sz : Nat} {w w' : World}
set_option maxHeartbeats 1000000 in
theorem readLast_none (h : WI B l d size nm sv P U own n od st sz w) {k : Nat} (hk : P.length = k + 1) {p : Sg × Value} (e : P[k]? = some p) (h0 : p.1.2 = []) :
    Calls Tryz.prog 35 #[.pointer (some ⟨l, 0, none⟩)] w fun r w' => r = .returned (.int .i64 0) ∧ Below w.heap.size w w' := by
  obtain ⟨g, c, ev, h1, h2, s0, s1, _⟩ := h.lg.seg k p e
  have HLA : Hid (∀ W, Below w.heap.size w W → Calls Tryz.prog 39 #[.pointer (some ⟨l, 0, none⟩)] W fun e w' => e = .returned (.pointer (some ⟨g, k * 3, none⟩)) ∧ Below w.heap.size w w') := fun W hW => (last_any (h.lg.below hW) ev hk ⟨by omega, h2⟩).mono (by rintro e w' ⟨rfl, q, rfl⟩; exact ⟨rfl, below_drewN hW q⟩)
  have HRE : Hid (∀ W, Below w.heap.size w W → Calls Tryz.prog 65 #[.pointer (some ⟨l, 0, none⟩), .pointer (some ⟨g, k * 3, none⟩)] W fun r w' => ∃ v, r = .returned (.tuple #[v, .int .i64 0]) ∧ Rd w' v [] ∧ Below W.heap.size W w') := fun W hW => read_none (h.below hW) e h0 ev
  have hgl := World.block_lt_of_cell? _ _ s1
  have HC : Hid (∀ W, Below w.heap.size w W → W.cell? ⟨g, k * 3 + 1, none⟩ = some (.int .i64 0)) := fun W hW => by
    rw [hW.cell hgl, s1, h0]; rfl
  clear h ev hk e h1 h2 s0 s1 h0
  go_enter Tryz.func35, Tryz.ntmps35
  go_wp2_with fail
  refine (HLA.out w (Below.refl _ _)).mono ?_
  rintro e w1 ⟨rfl, hb1⟩
  go_wp2_with fail
  refine (HRE.out w1 hb1).mono ?_
  rintro e w2 ⟨v, rfl, hrd, hb2'⟩
  have hb2 : Below w.heap.size w w2 := hb1.trans (hb2'.mono hb1.size)
  obtain ⟨a, cc, rfl⟩ : ∃ a c, v = .slice a 0 c := by obtain ⟨a, c, e, _⟩ := hrd; exact ⟨a, c, e⟩
  go_wp2_with fail
  refine (HLA.out w2 hb2).mono ?_
  rintro e w3 ⟨rfl, hb3⟩
  have c1 := HC.out w3 hb3
  go_wp2_with fail
  go_ret
  exact ⟨rfl, hb3⟩

/-- A log that is being opened. -/
theorem LgI.new (w : World) (B d size : Nat) (nm : ByteArray) (U : Nat → List Value) (hB : B ≤ w.heap.size) : LgI B w.heap.size d size nm false (.slice none 0 0) [] U (fun b => if b = w.heap.size then some .log else none) (w.alloc (.cells #[.pointer (some ⟨d, 0, none⟩), .string nm, .int .i64 (size : Int), .slice none 0 0, .bool false] 71)) where
  cell := heap_alloc_new w _
  row := World.ownsRow_nil _ _ _ _
  recs := fun i p e => by simp at e
  data := fun i p j u r e => by simp at e
  ol := if_pos rfl
  os := fun b e => by simp [Value.ownBlock] at e
  orr := fun i p b e => by simp at e
  od := fun i p u b e => by simp at e
  lo := fun b hb => by
    have : b = w.heap.size := by
      apply Classical.byContradiction
      intro hn
      exact hb (if_neg hn)
    subst this
    exact ⟨hB, by simp⟩

set_option maxHeartbeats 4000000 in
theorem open_none (hd : Dk B d n od st sz (alive d) 0 w) (hst : ∀ s, st s = none) (hsz : sz = 0) (hn : n ≤ 1048575) (hB : B ≤ w.heap.size) (hnm : 0 < nm.size) (hns : nm.size ≤ 40) (hs1 : 1 ≤ size) (hs2 : size ≤ 9223372036854775807) :
    Calls Tryz.prog 10 #[.pointer (some ⟨d, 0, none⟩), .string nm, .int .i64 (size : Int)] w fun r w' => ∃ l sv U own od', r = .returned (.tuple #[.pointer (some ⟨l, 0, none⟩), .int .i64 0]) ∧ WI B l d size nm sv [sg0 1] U own (n + 1) od' (syF nm [sg0 1] (setF st (fname nm 1).data.toList (some ([], 0)))) sz w' ∧ Chg (fun b => od b ≠ none) w w' := by
  have hne0 : ¬ nm.toList = [] := fun h => by
    rw [ByteArray.toList_eq] at h
    have h2 : nm.size = nm.data.toList.length := by rw [Array.length_toList]; rfl
    rw [h, List.length_nil] at h2
    omega
  have hne1 : nm.toList.isEmpty = false := by cases hq : nm.toList with
    | nil => exact absurd hq hne0
    | cons a r => rfl
  have h40 : ¬ (40 : Int) < (nm.size : Int) := by omega
  have h1i : ¬ (size : Int) < 1 := by omega
  have hmf : ∀ (fn : Fn) (first cap : Array Value) (w : World), (Instr.makeFunc fn first cap).run Tryz.prog w = .ok (.func fn first cap) w := fun _ _ _ _ => rfl
  have hL := LgI.new w B d size nm (fun _ => []) hB
  have hbA : Below w.heap.size w (w.alloc (.cells #[.pointer (some ⟨d, 0, none⟩), .string nm, .int .i64 (size : Int), .slice none 0 0, .bool false] 71)) := bel_alW w _
  go_enter Tryz.func10, Tryz.ntmps10
  go_wp2_with fail
  refine wp_loop_rounds 6 ?_
  rw [rounds_succ]
  go_wp2_with fail
  have hbS : Below w.heap.size w ((w.alloc (.cells #[.pointer (some ⟨d, 0, none⟩), .string nm, .int .i64 (size : Int), .slice none 0 0, .bool false] 71)).alloc (.cells #[.func (.func 32) #[.pointer (some ⟨w.heap.size, 0, none⟩)] #[], .func (.func 33) #[.pointer (some ⟨w.heap.size, 0, none⟩)] #[], .func (.func 34) #[.pointer (some ⟨w.heap.size, 0, none⟩)] #[], .func (.func 35) #[.pointer (some ⟨w.heap.size, 0, none⟩)] #[], .func (.func 36) #[.pointer (some ⟨w.heap.size, 0, none⟩)] #[]] 42)) := hbA.alloc (by simp) _
  have hL1 := hL.below (bel_alW (w.alloc (.cells #[.pointer (some ⟨d, 0, none⟩), .string nm, .int .i64 (size : Int), .slice none 0 0, .bool false] 71)) (.cells #[.func (.func 32) #[.pointer (some ⟨w.heap.size, 0, none⟩)] #[], .func (.func 33) #[.pointer (some ⟨w.heap.size, 0, none⟩)] #[], .func (.func 34) #[.pointer (some ⟨w.heap.size, 0, none⟩)] #[], .func (.func 35) #[.pointer (some ⟨w.heap.size, 0, none⟩)] #[], .func (.func 36) #[.pointer (some ⟨w.heap.size, 0, none⟩)] #[]] 42))
  have hnS := heap_alloc_new (w.alloc (.cells #[.pointer (some ⟨d, 0, none⟩), .string nm, .int .i64 (size : Int), .slice none 0 0, .bool false] 71)) (.cells #[.func (.func 32) #[.pointer (some ⟨w.heap.size, 0, none⟩)] #[], .func (.func 33) #[.pointer (some ⟨w.heap.size, 0, none⟩)] #[], .func (.func 34) #[.pointer (some ⟨w.heap.size, 0, none⟩)] #[], .func (.func 35) #[.pointer (some ⟨w.heap.size, 0, none⟩)] #[], .func (.func 36) #[.pointer (some ⟨w.heap.size, 0, none⟩)] #[]] 42)
  rw [World.size_alloc] at hnS
  have hzS : ((w.alloc (.cells #[.pointer (some ⟨d, 0, none⟩), .string nm, .int .i64 (size : Int), .slice none 0 0, .bool false] 71)).alloc (.cells #[.func (.func 32) #[.pointer (some ⟨w.heap.size, 0, none⟩)] #[], .func (.func 33) #[.pointer (some ⟨w.heap.size, 0, none⟩)] #[], .func (.func 34) #[.pointer (some ⟨w.heap.size, 0, none⟩)] #[], .func (.func 35) #[.pointer (some ⟨w.heap.size, 0, none⟩)] #[], .func (.func 36) #[.pointer (some ⟨w.heap.size, 0, none⟩)] #[]] 42)).heap.size = w.heap.size + 1 + 1 := by simp
  generalize ((w.alloc (.cells #[.pointer (some ⟨d, 0, none⟩), .string nm, .int .i64 (size : Int), .slice none 0 0, .bool false] 71)).alloc (.cells #[.func (.func 32) #[.pointer (some ⟨w.heap.size, 0, none⟩)] #[], .func (.func 33) #[.pointer (some ⟨w.heap.size, 0, none⟩)] #[], .func (.func 34) #[.pointer (some ⟨w.heap.size, 0, none⟩)] #[], .func (.func 35) #[.pointer (some ⟨w.heap.size, 0, none⟩)] #[], .func (.func 36) #[.pointer (some ⟨w.heap.size, 0, none⟩)] #[]] 42)) = W1 at *
  have hd1 := hd.next (Chg.of_below hbS) (fun b hs q => by have := (hd.blo hs).2; omega)
  have hodS : od (w.heap.size + 1) = none := by
    cases hq : od (w.heap.size + 1) with
    | none => rfl
    | some r => have := (hd.blo (b := w.heap.size + 1) (by rw [hq]; simp)).2; omega
  have hodL : od w.heap.size = none := by
    cases hq : od w.heap.size with
    | none => rfl
    | some r => have := (hd.blo (b := w.heap.size) (by rw [hq]; simp)).2; omega
  have hap : ∀ b, (fun b => if b = w.heap.size then some LRole.log else none) b ≠ none → od b = none := fun b hb => by
    have : b = w.heap.size := by
      apply Classical.byContradiction
      intro hn
      exact hb (if_neg hn)
    rw [this]; exact hodL
  have HCS : Hid (∀ (W : World), W.heap[w.heap.size + 1]? = some (.cells #[.func (.func 32) #[.pointer (some ⟨w.heap.size, 0, none⟩)] #[], .func (.func 33) #[.pointer (some ⟨w.heap.size, 0, none⟩)] #[], .func (.func 34) #[.pointer (some ⟨w.heap.size, 0, none⟩)] #[], .func (.func 35) #[.pointer (some ⟨w.heap.size, 0, none⟩)] #[], .func (.func 36) #[.pointer (some ⟨w.heap.size, 0, none⟩)] #[]] 42 (0, 0)) → (∀ j u, #[Value.func (.func 32) #[.pointer (some ⟨w.heap.size, 0, none⟩)] #[], .func (.func 33) #[.pointer (some ⟨w.heap.size, 0, none⟩)] #[], .func (.func 34) #[.pointer (some ⟨w.heap.size, 0, none⟩)] #[], .func (.func 35) #[.pointer (some ⟨w.heap.size, 0, none⟩)] #[], .func (.func 36) #[.pointer (some ⟨w.heap.size, 0, none⟩)] #[]][j]? = some u → W.cell? ⟨w.heap.size + 1, j, none⟩ = some u)) := fun W hW j u hj => by rw [cell_of_row _ _ _ _ _ _ hW]; exact hj
  refine (tidy_any hL1 hd1 hns (hst _)).mono ?_
  rintro e w2 ⟨rfl, q2, rfl⟩
  have hL2 := hL1.drN q2
  have hd2 := hd1.drN q2
  have hS2 : (W1.drewN q2).heap[w.heap.size + 1]? = some (.cells #[.func (.func 32) #[.pointer (some ⟨w.heap.size, 0, none⟩)] #[], .func (.func 33) #[.pointer (some ⟨w.heap.size, 0, none⟩)] #[], .func (.func 34) #[.pointer (some ⟨w.heap.size, 0, none⟩)] #[], .func (.func 35) #[.pointer (some ⟨w.heap.size, 0, none⟩)] #[], .func (.func 36) #[.pointer (some ⟨w.heap.size, 0, none⟩)] #[]] 42 (0, 0)) := hnS
  have hb2 : Below w.heap.size w (W1.drewN q2) := below_drewN hbS q2
  have hz2 : (W1.drewN q2).heap.size = w.heap.size + 1 + 1 := hzS
  generalize (W1.drewN q2) = W2 at *
  have s1 := HCS.out W2 hS2 1 _ rfl
  clear hL hL1 hd1 hnS hbS hzS hbA hmf
  go_wp2_with fail
  rw [rounds_succ]
  go_wp2_with fail
  refine (find_none hL2 hd2 hap hst hns hsz (by omega) (by omega)).mono ?_
  rintro e w3 ⟨rfl, ⟨sv', own', od', hWI, hown3, hod3⟩, hch3⟩
  have hown4 : ∀ b, own' b ≠ none → w.heap.size ≤ b := fun b hb => by
    rcases hown3 b hb with q | q
    · apply Classical.byContradiction
      intro hn
      exact q (if_neg (by omega))
    · omega
  have hod4 : ∀ b, od' b ≠ none → od b ≠ none ∨ w.heap.size ≤ b := fun b hb => (hod3 b hb).imp id (fun q => by omega)
  clear hown3 hod3
  have hS3 : w3.heap[w.heap.size + 1]? = some (.cells #[.func (.func 32) #[.pointer (some ⟨w.heap.size, 0, none⟩)] #[], .func (.func 33) #[.pointer (some ⟨w.heap.size, 0, none⟩)] #[], .func (.func 34) #[.pointer (some ⟨w.heap.size, 0, none⟩)] #[], .func (.func 35) #[.pointer (some ⟨w.heap.size, 0, none⟩)] #[], .func (.func 36) #[.pointer (some ⟨w.heap.size, 0, none⟩)] #[]] 42 (0, 0)) := (hch3.block (w.heap.size + 1) (by omega) (fun q => q.elim (fun q => q (if_neg (by omega))) (fun q => q hodS))).trans hS2
  have hC3 : Chg (fun b => od b ≠ none) w w3 := ((Chg.of_below hb2).mono (fun b hb q => by omega)).trans (hch3.mono (fun b _ q => q.elim (fun q => .inr (by
    have : b = w.heap.size := by
      apply Classical.byContradiction
      intro hn
      exact q (if_neg hn)
    omega)) .inl))
  have hz3 := hch3.size
  have s2 := HCS.out w3 hS3 2 _ rfl
  have HWI : Hid (WI B w.heap.size d size nm sv' [sg0 1] (recSeg (fun _ => []) 0) own' (n + 1) od' (setF st (fname nm 1).data.toList (some ([], 0))) sz w3) := hWI
  obtain ⟨g, c, ev, _, _, _, _, _⟩ := hWI.lg.seg 0 (sg0 1) rfl
  clear hL2 hd2 hS2 s1 hch3 hap hb2 hz2
  go_wp2_with fail
  rw [rounds_succ]
  go_wp2_with fail
  refine (whole_one hWI.lg ev rfl).mono ?_
  rintro e w4 ⟨rfl, q4, rfl⟩
  have hWI4 := HWI.out.below (below_drewN (Below.refl w3.heap.size w3) q4)
  have hS4 : (w3.drewN q4).heap[w.heap.size + 1]? = some (.cells #[.func (.func 32) #[.pointer (some ⟨w.heap.size, 0, none⟩)] #[], .func (.func 33) #[.pointer (some ⟨w.heap.size, 0, none⟩)] #[], .func (.func 34) #[.pointer (some ⟨w.heap.size, 0, none⟩)] #[], .func (.func 35) #[.pointer (some ⟨w.heap.size, 0, none⟩)] #[], .func (.func 36) #[.pointer (some ⟨w.heap.size, 0, none⟩)] #[]] 42 (0, 0)) := hS3
  have hC4 : Chg (fun b => od b ≠ none) w (w3.drewN q4) := hC3.trans ((Chg.of_below (below_drewN (Below.refl w3.heap.size w3) q4)).mono (fun b hb q => by omega))
  have hz4 : W2.heap.size ≤ (w3.drewN q4).heap.size := hz3
  generalize (w3.drewN q4) = W4 at *
  have s3 := HCS.out W4 hS4 3 _ rfl
  clear hWI HWI hS3 hC3 s2
  go_wp2_with fail
  rw [rounds_succ]
  go_wp2_with fail
  refine (readLast_none hWI4 (k := 0) rfl (p := sg0 1) rfl rfl).mono ?_
  rintro e w5 ⟨rfl, hb5⟩
  have hWI5 := hWI4.below hb5
  have hS5 : w5.heap[w.heap.size + 1]? = some (.cells #[.func (.func 32) #[.pointer (some ⟨w.heap.size, 0, none⟩)] #[], .func (.func 33) #[.pointer (some ⟨w.heap.size, 0, none⟩)] #[], .func (.func 34) #[.pointer (some ⟨w.heap.size, 0, none⟩)] #[], .func (.func 35) #[.pointer (some ⟨w.heap.size, 0, none⟩)] #[], .func (.func 36) #[.pointer (some ⟨w.heap.size, 0, none⟩)] #[]] 42 (0, 0)) := (hb5.block _ (by have := (Array.getElem?_eq_some_iff.1 hS4).1; omega)).trans hS4
  have hC5 : Chg (fun b => od b ≠ none) w w5 := hC4.trans ((Chg.of_below hb5).mono (fun b hb q => by omega))
  have s4 := HCS.out w5 hS5 4 _ rfl
  clear hWI4 hS4 hC4 s3 hb5
  go_wp2_with fail
  rw [rounds_succ]
  go_wp2_with fail
  refine (sall_any hWI5).mono ?_
  rintro e w6 ⟨rfl, ⟨od6, hWI6, _⟩, hch6⟩
  have hC6 : Chg (fun b => od b ≠ none) w w6 := hC5.trans (hch6.mono (fun b _ q => q.elim (fun q => .inr (hown4 b q)) (fun q => hod4 b q)))
  clear hWI5 hS5 s4
  go_wp2_with fail
  rw [rounds_succ]
  go_wp2_with fail
  go_returns
  exact ⟨_, _, _, _, _, rfl, hWI6, hC6⟩
end
end Go.Proofs.YtgdgnkmjoiholaaGreatDoor

/- A program that is one: the first line of each statement about logs. -/
namespace Go.Proofs.YtgdgnkmjoiholaaGreatDoor
open Go.RowKit
set_option linter.unusedVariables false
set_option maxRecDepth 100000

section
variable {B l d size : Nat} {nm : ByteArray} {sv : Value} {P : List (Sg × Value)} {U : Nat → List Value} {own : Nat → Option LRole} {n : Nat} {od : Nat → Option Role} {st : Nm → Option (List UInt8 × Nat)} {sz : Nat} {w w' : World}
theorem WI.leB (h : WI B l d size nm sv P U own n od st sz w) : B ≤ w.heap.size := by
  have := h.lg.lo l (by rw [h.lg.ol]; simp)
  omega
theorem WI.chg (h : WI B l d size nm sv P U own n od st sz w) (hc : Chg (fun b => own b ≠ none ∨ od b ≠ none) w w') : Below B w w' :=
  hc.below (fun b q => q.elim (fun q => (h.lg.lo b q).1) (fun q => (h.dk.blo q).1)) h.leB
theorem WI.fresh (h : WI B l d size nm sv P U own n od st sz w) (i k : Nat) : ∀ q, (Value.slice (some ⟨w.heap.size, 0, none⟩) i k).ownBlock = some q → own q = none ∧ od q = none := fun q e => by
  have e2 : w.heap.size = q := by simpa [Value.ownBlock] using e
  constructor
  · by_cases r : own q = none
    · exact r
    · have := (h.lg.lo q r).2; omega
  · by_cases r : od q = none
    · exact r
    · have := (h.dk.blo r).2; omega
end
theorem rd_litW (w : World) (a : Int) (x : UInt8) (ha : a = (x.toNat : Int)) (t : TypeId) : Rd (w.alloc (.cells #[.int .u8 a] t)) (.slice (some ⟨w.heap.size, 0, none⟩) 1 1) [x] := by
  subst ha
  refine Rd.mk rfl (by simp) (by simp [maxLen]) (fun i hi => ?_)
  obtain rfl : i = 0 := by simpa using hi
  rw [Addr.add_lit, World.cell?_alloc_at _ _ _ _ rfl]; rfl
theorem segs_one {Q : List (Sg × Value)} {s : Sg} (h : Q.map (·.1) = [s]) : ∃ v, Q = [(s, v)] := by
  cases Q with
  | nil => simp at h
  | cons a r => cases r with
    | nil => simp at h; subst h; exact ⟨_, rfl⟩
    | cons b t => simp at h
theorem begins_one (p : Sg × Value) : Begins [p] := fun i j a b ha hb _ => by
  have h1 := (List.getElem?_eq_some_iff.1 ha).1
  have h2 := (List.getElem?_eq_some_iff.1 hb).1
  simp at h1 h2
  omega
theorem frame_one (x : UInt8) : (M.frame [x]).length = 6 := by
  have h2 := M.be_length 4 (M.crc [x])
  simp only [M.frame, List.length_append, h2]
  simp [M.vi, M.viF]

set_option maxHeartbeats 4000000 in
theorem wawake_any (w : World) : Calls Tryz.prog 8 #[] w fun e w' => e = .returned (.bool true) ∧ Below w.heap.size w w' := by
  go_enter Tryz.func8, Tryz.ntmps8
  go_wp2_with fail
  refine (new_any w).mono ?_
  rintro e w1 ⟨d, own, rfl, hd1, hb1⟩
  go_wp2_with fail
  refine (open_none (size := 8) (nm := ⟨#[119]⟩) hd1 (fun _ => rfl) rfl (by omega) hb1.size (by decide) (by decide) (by omega) (by omega)).mono ?_
  rintro e w2 ⟨l, sv, U, own2, od2, rfl, hI2, hc2⟩
  have hb2 : Below w.heap.size w w2 := hb1.trans (hc2.below (fun b q => (hd1.blo q).1) hb1.size)
  clear hc2 hd1 hb1
  go_wp2_with fail
  have hA2 : Below w.heap.size w (w2.alloc (.cells #[.int .u8 170] 5)) := hb2.trans ((bel_alW w2 _).mono hI2.leB)
  have hIA := hI2.below (bel_alW w2 (.cells #[.int .u8 170] 5))
  refine (append_there hIA (begins_one _) (k := 0) rfl rfl (by simp [sg0, frs]) (by omega) (rd_litW w2 170 170 rfl _) (hI2.fresh 1 1) (by simp) (by rw [frame_one]; omega) (by simp [sg0, sgNext]) (by simp [sg0])).mono ?_
  rintro e w3 ⟨he, ⟨sv3, Q3, U3, own3, n3, od3, st3, hI3, hQ3, hn3, _⟩, hc3⟩
  replace he : e = .returned (.tuple #[.int .u64 1, .int .i64 0]) := he
  subst he
  have hb3 : Below w.heap.size w w3 := hA2.trans (hIA.chg hc3)
  obtain ⟨v3, rfl⟩ := segs_one (s := (1, [[170]])) (by rw [hQ3]; simp [addS, sg0, frs])
  rw [frame_one] at hI3
  clear hc3 hIA hI2 hA2 hb2 hQ3
  go_wp2_with fail
  have hA3 : Below w.heap.size w (w3.alloc (.cells #[.int .u8 187] 5)) := hb3.trans ((bel_alW w3 _).mono hI3.leB)
  have hIA := hI3.below (bel_alW w3 (.cells #[.int .u8 187] 5))
  refine (append_there hIA (begins_one _) (k := 0) rfl rfl (by simp [frs, frame_one]) (by omega) (rd_litW w3 187 187 rfl _) (hI3.fresh 1 1) (by simp) (by rw [frame_one]; omega) (by simp [sgNext]) (by simp)).mono ?_
  rintro e w4 ⟨he, ⟨sv4, Q4, U4, own4, n4, od4, st4, hI4, hQ4, hn4, _⟩, hc4⟩
  replace he : e = .returned (.tuple #[.int .u64 2, .int .i64 0]) := he
  subst he
  have hb4 : Below w.heap.size w w4 := hA3.trans (hIA.chg hc4)
  obtain ⟨v4, rfl⟩ := segs_one (s := (1, [[170], [187]])) (by rw [hQ4]; simp [addS, frs, frame_one])
  clear hc4 hIA hI3 hA3 hb3 hQ4
  go_wp2_with fail
  refine (get_there hI4.lg (by simp) (fun i j p q hij hp hq => by have h1 := (List.getElem?_eq_some_iff.1 hq).1; simp at h1; omega) (fun i p q hp hq => by have h1 := (List.getElem?_eq_some_iff.1 hq).1; simp at h1) (k := 0) (j := 1) rfl (r := [187]) rfl (by simp [sgNext]) (by simp) (m := 0) rfl rfl (by simp [sgNext])).mono ?_
  rintro e w5 ⟨⟨v5, rfl, hv5⟩, hb5⟩
  have hI5 := hI4.below hb5
  have h05 : Below w.heap.size w w5 := hb4.trans (hb5.mono hI4.leB)
  clear hb5 hI4 hb4
  go_wp2_with fail
  have hA5 : Below w5.heap.size w5 (w5.alloc (.cells #[.int .u8 187] 5)) := bel_alW w5 _
  have hI6 := hI5.below hA5
  have h06 := h05.trans (hA5.mono h05.size)
  refine (same_any (hv5.rd.below hA5 (Nat.le_refl _)) (rd_litW w5 187 187 rfl _)).mono ?_
  rintro e w7 ⟨rfl, k7, rfl⟩
  rw [decide_eq_true rfl]
  have hd7 := below_drewN (Below.refl (w5.alloc (.cells #[.int .u8 187] 5)).heap.size (w5.alloc (.cells #[.int .u8 187] 5))) k7
  have hI7 := hI6.below hd7
  have h07 := h06.trans (hd7.mono h06.size)
  clear hI5 hI6 hv5 hA5 h05 h06 hd7
  go_wp2_with fail
  refine (lsync_any hI7 (k := 0) rfl rfl).mono ?_
  rintro e w8 ⟨rfl, _, hc8⟩
  have h08 := h07.trans (hI7.chg hc8)
  clear hI7 hc8 h07
  go_wp2_with fail
  go_ret
  exact ⟨rfl, h08⟩
end Go.Proofs.YtgdgnkmjoiholaaGreatDoor

/- A log into which records were appended, one by one. -/
namespace Go.Proofs.YtgdgnkmjoiholaaGreatDoor
open Go.RowKit
set_option linter.unusedVariables false
set_option maxRecDepth 100000

theorem frame_le (r : List UInt8) : (M.frame r).length ≤ r.length + 14 := by
  have h2 := vi_len r.length
  have h3 := M.be_length 4 (M.crc r)
  simp only [M.frame, List.length_append]
  omega
theorem vi_two (n : Nat) (h : n < 16384) : (M.vi n).length ≤ 2 := by
  show (M.viF (7 + 1 + 1) n).length ≤ 2
  rw [M.viF]
  split
  · simp
  · rw [M.viF, if_pos (by omega)]; simp
theorem frame_six (r : List UInt8) (h : r.length < 16384) : r.length < (M.frame r).length ∧ (M.frame r).length ≤ r.length + 6 := by
  have h2 := vi_two r.length h
  have h3 := M.be_length 4 (M.crc r)
  simp only [M.frame, List.length_append]
  omega
theorem sgs_at {P : List (Sg × Value)} {i : Nat} {p : Sg × Value} (e : P[i]? = some p) : (sgs P)[i]? = some p.1 := by rw [List.getElem?_map, e]; rfl
theorem at_sgs {P : List (Sg × Value)} {i : Nat} {s : Sg} (e : (sgs P)[i]? = some s) : ∃ p, P[i]? = some p ∧ p.1 = s := by
  rw [List.getElem?_map] at e
  cases h : P[i]? with
  | none => rw [h] at e; cases e
  | some p => rw [h] at e; exact ⟨p, rfl, Option.some.inj e⟩

/-- A log that holds these records, of segments of so many bytes; the disk's other files, N at most, with z0 bytes, are ex. -/
def Rot (B l d size : Nat) (nm : ByteArray) (N z0 : Nat) (ex : Nm → Option (List UInt8 × Nat)) (rs : List (List UInt8)) (sv : Value) (P : List (Sg × Value)) (U : Nat → List Value) (own : Nat → Option LRole) (n : Nat) (od : Nat → Option Role) (st : Nm → Option (List UInt8 × Nat)) (w : World) : Prop :=
  WI B l d size nm sv P U own n od st (z0 + (frs rs).length) w ∧ Chn size rs (sgs P) ∧ n ≤ N + rs.length ∧ (∀ b, b < 100 → st (fname nm b).data.toList ≠ none → b ≤ rs.length ∨ b = 1) ∧ ∀ f, (∀ b, b < 100 → f ≠ (fname nm b).data.toList) → st f = ex f
def RotE (B l d size : Nat) (nm : ByteArray) (N z0 : Nat) (ex : Nm → Option (List UInt8 × Nat)) (rs : List (List UInt8)) (w : World) : Prop :=
  ∃ sv P U own n od st, Rot B l d size nm N z0 ex rs sv P U own n od st w

section
variable {B l d size : Nat} {nm : ByteArray} {N z0 : Nat} {ex : Nm → Option (List UInt8 × Nat)} {rs : List (List UInt8)} {sv : Value} {P : List (Sg × Value)} {U : Nat → List Value} {own : Nat → Option LRole} {n : Nat} {od : Nat → Option Role} {st : Nm → Option (List UInt8 × Nat)} {w w' : World}
theorem Rot.below (h : Rot B l d size nm N z0 ex rs sv P U own n od st w) (hb : Below w.heap.size w w') : Rot B l d size nm N z0 ex rs sv P U own n od st w' := ⟨h.1.below hb, h.2⟩
theorem Rot.last (h : Rot B l d size nm N z0 ex rs sv P U own n od st w) : ∃ k p, P.length = k + 1 ∧ P[k]? = some p ∧ sgNext p.1 = 1 + rs.length := by
  have hne := h.1.ne
  obtain ⟨p, e⟩ : ∃ p, P[P.length - 1]? = some p := ⟨_, List.getElem?_eq_getElem (by omega)⟩
  exact ⟨P.length - 1, p, by omega, e, h.2.1.next (by simp; omega) p.1 (sgs_at e)⟩
theorem Rot.mono (h : Rot B l d size nm N z0 ex rs sv P U own n od st w) (hs : 0 < size) : ∀ (i j : Nat) p q, i < j → P[i]? = some p → P[j]? = some q → p.1.1 < q.1.1 := fun i j p q hij e1 e2 => h.2.1.mono hs i j p.1 q.1 hij (sgs_at e1) (sgs_at e2)
theorem Rot.chain (h : Rot B l d size nm N z0 ex rs sv P U own n od st w) : ∀ (i : Nat) p q, P[i]? = some p → P[i + 1]? = some q → q.1.1 = sgNext p.1 := fun i p q e1 e2 => h.2.1.chain i p.1 q.1 (sgs_at e1) (sgs_at e2)
theorem Rot.begins (h : Rot B l d size nm N z0 ex rs sv P U own n od st w) (hs : 0 < size) : Begins P := fun i j p q e1 e2 e => by
  rcases Nat.lt_trichotomy i j with a | a | a
  · have := h.mono hs i j p q a e1 e2; omega
  · exact a
  · have := h.mono hs j i q p a e2 e1; omega
theorem Chn.len {S : List Sg} (h : Chn size rs S) (hs : 0 < size) : S.length ≤ 1 + rs.length := by
  rcases Nat.lt_or_ge (1 + rs.length) S.length with a | a
  · have h1 : ∀ i, i < S.length → ∀ p, S[i]? = some p → i + 1 ≤ p.1 := by
      intro i
      induction i with
      | zero => intro hi p e; have := h.at_ 0 p e; omega
      | succ i ih =>
        intro hi p e
        obtain ⟨q, eq⟩ : ∃ q, S[i]? = some q := ⟨_, List.getElem?_eq_getElem (by omega)⟩
        have h2 := ih (by omega) q eq
        have h3 := h.step hs i q p eq e
        omega
    obtain ⟨p, e⟩ : ∃ p, S[S.length - 1]? = some p := ⟨_, List.getElem?_eq_getElem (by omega)⟩
    have h4 := h1 (S.length - 1) (by omega) p e
    have h5 := h.le _ p e
    unfold sgNext at h5
    omega
  · exact a
theorem seg_le {S : List Sg} (h : Chn size rs S) (i : Nat) (p : Sg) (e : S[i]? = some p) : (frs p.2).length ≤ (frs rs).length ∧ p.2.length ≤ rs.length := by
  have h1 := recsOf_drop S i p e
  have h2 : recsOf S = recsOf (S.take i) ++ recsOf (S.drop i) := by
    unfold recsOf
    rw [← List.flatMap_append, List.take_append_drop]
  rw [h.all, h1] at h2
  rw [h2, frs_app, frs_app]
  simp only [List.length_append]
  omega

set_option maxHeartbeats 1000000 in
theorem append_rot (h : Rot B l d size nm N z0 ex rs sv P U own n od st w) (hs0 : 0 < size) (hs : size ≤ 16777216) (hN : N ≤ 1000000) (hrs : rs.length < 98) {bv : Value} {r : List UInt8} (hr : Rd w bv r) (hkp : ∀ w3, Below B w w3 → Rd w3 bv r) (hbl : r.length ≤ 1048576) (hz : z0 + (frs rs).length + (M.frame r).length ≤ 16777216) :
    Calls Tryz.prog 11 #[.pointer (some ⟨l, 0, none⟩), bv] w fun e w' => e = .returned (.tuple #[.int .u64 ((rs.length + 1 : Nat) : Int), .int .i64 0]) ∧ RotE B l d size nm N z0 ex (rs ++ [r]) w' ∧ Below B w w' := by
  obtain ⟨k, p, hk, e, hnx⟩ := h.last
  have hI := h.1
  have hle := seg_le h.2.1 k p.1 (sgs_at e)
  have hln := h.2.1.len hs0
  have hfr : frs (rs ++ [r]) = frs rs ++ M.frame r := frs_snoc rs r
  have hkp2 : ∀ w3, Chg (fun q => own q ≠ none ∨ od q ≠ none) w w3 → Rd w3 bv r := fun w3 hc => hkp w3 (hI.chg hc)
  have hlen : P.length ≤ 100 := by have : (sgs P).length = P.length := by simp
                                   omega
  have fin : ∀ (w' : World) (r' : Ending), (r' = .returned (.tuple #[.int .u64 (sgNext p.1 : Int), .int .i64 0]) ∧ (∃ sv' Q U' own' n' od' st', WI B l d size nm sv' Q U' own' n' od' st' (z0 + (frs rs).length + (M.frame r).length) w' ∧ Q.map (·.1) = addS size P k p r ∧ n' ≤ n + 1 ∧ (∀ f, st' f ≠ none → st f ≠ none ∨ f = (fname nm (sgNext p.1)).data.toList) ∧ ∀ f, (∀ b, b < 100 → f ≠ (fname nm b).data.toList) → st' f = st f) ∧ Chg (fun q => own q ≠ none ∨ od q ≠ none) w w') → r' = .returned (.tuple #[.int .u64 ((rs.length + 1 : Nat) : Int), .int .i64 0]) ∧ RotE B l d size nm N z0 ex (rs ++ [r]) w' ∧ Below B w w' := by
    rintro w' r' ⟨hr', ⟨sv', Q, U', own', n', od', st', hI', hQ, hn', hf1, hf2⟩, hc⟩
    refine ⟨by rw [hr', hnx, Nat.add_comm], ⟨sv', Q, U', own', n', od', st', ?_, ?_, ?_, ?_, ?_⟩, hI.chg hc⟩
    · rw [hfr, List.length_append, ← Nat.add_assoc]; exact hI'
    · show Chn size (rs ++ [r]) (Q.map (·.1))
      rw [hQ]
      unfold addS
      split
      · rename_i q
        exact h.2.1.there (by simp [hk]) p.1 (sgs_at e) r q
      · rename_i q
        exact h.2.1.new hs0 (by simp [hk]) p.1 (sgs_at e) r (by omega)
    · have := h.2.2.1; simp; omega
    · intro b hb q
      rw [List.length_append, List.length_singleton]
      rcases hf1 _ q with a | a
      · have := h.2.2.2.1 b hb a; omega
      · have := fname_inj nm hb (by omega) a; omega
    · intro f hf
      rw [hf2 f hf]; exact h.2.2.2.2 f hf
  by_cases hby : (frs p.1.2).length < size
  · exact (append_thereK hI (h.begins hs0) hk e hby hs hr hkp2 hbl hz (by omega) (by omega)).mono (fun r' w' q => fin w' r' q)
  · refine (append_newK hI (h.begins hs0) hk e (by omega) (by omega) (by have := h.2.2.1; omega) (by omega) ?_ hr hkp2 hbl hz (by omega) (by omega)).mono (fun r' w' q => fin w' r' q)
    by_cases q : st (fname nm (sgNext p.1)).data.toList = none
    · exact q
    · have h1 := h.2.2.2.1 _ (by omega) q
      have h2 : 0 < p.1.2.length := by
        rcases hp : p.1.2 with _ | ⟨a, b⟩
        · rw [hp] at hby; simp [frs] at hby; omega
        · simp
      have : 0 < rs.length := by omega
      omega
end
end Go.Proofs.YtgdgnkmjoiholaaGreatDoor

/- Calls of a log into which records were appended. -/
namespace Go.Proofs.YtgdgnkmjoiholaaGreatDoor
open Go.RowKit
set_option linter.unusedVariables false
set_option maxRecDepth 100000

/-- A number's lowest 62 bits. -/
theorem mask62 (p : Int) : ∃ a : Nat, bits .and .i64 p 4611686018427387903 = (a : Int) ∧ a ≤ 4611686018427387903 := by
  have hle : (BitVec.ofInt 64 p &&& BitVec.ofInt 64 4611686018427387903).toNat ≤ 4611686018427387903 := by
    rw [BitVec.toNat_and, show (BitVec.ofInt 64 4611686018427387903).toNat = 4611686018427387903 by decide]
    exact Nat.and_le_right
  refine ⟨(BitVec.ofInt 64 p &&& BitVec.ofInt 64 4611686018427387903).toNat, ?_, hle⟩
  show IntKind.i64.wrap ((BitVec.ofInt 64 p &&& BitVec.ofInt 64 4611686018427387903).toNat : Int) = _
  rw [IntKind.wrap_i64]
  omega
theorem mask_mod (p : Int) (n : Nat) (hn : 0 < n) : ∃ a : Nat, (bits .and .i64 p 4611686018427387903).tmod (n : Int) = (a : Int) ∧ a < n := by
  obtain ⟨a, e, _⟩ := mask62 p
  rw [e]
  exact ⟨a % n, rfl, Nat.mod_lt _ hn⟩
/-- The name that a statement makes of a segment's number. -/
theorem name_of (nm : ByteArray) (n : Nat) (hn : n < 100) : (nm ++ ⟨#[46]⟩) ++ lowD 20 n = fname nm n := by
  rw [lowD_name n hn]
  unfold fname
  rw [ByteArray.append_assoc (a := nm ++ ⟨#[46]⟩)]
theorem frs_le (L : List (List UInt8)) (c : Nat) (h : ∀ r ∈ L, r.length ≤ c) : (frs L).length ≤ L.length * (c + 14) := by
  induction L with
  | nil => simp [frs]
  | cons a t ih =>
    have h1 := ih (fun r hr => h r (List.mem_cons_of_mem _ hr))
    have h2 := h a List.mem_cons_self
    have h3 := frame_le a
    have h4 : frs (a :: t) = M.frame a ++ frs t := by simp [frs]
    rw [h4, List.length_append, List.length_cons, Nat.succ_mul]
    omega

section
variable {B l d size : Nat} {nm : ByteArray} {N z0 : Nat} {ex : Nm → Option (List UInt8 × Nat)} {rs : List (List UInt8)} {sv : Value} {P : List (Sg × Value)} {U : Nat → List Value} {own : Nat → Option LRole} {n : Nat} {od : Nat → Option Role} {st : Nm → Option (List UInt8 × Nat)} {w w' : World}
theorem open_rot (hd : Dk B d 0 od (fun _ => none) 0 (alive d) 0 w) (hB : B ≤ w.heap.size) (hnm : 0 < nm.size) (hns : nm.size ≤ 40) (hs1 : 1 ≤ size) (hs2 : size ≤ 9223372036854775807) :
    Calls Tryz.prog 10 #[.pointer (some ⟨d, 0, none⟩), .string nm, .int .i64 (size : Int)] w fun r w' => ∃ l, r = .returned (.tuple #[.pointer (some ⟨l, 0, none⟩), .int .i64 0]) ∧ RotE B l d size nm 1 0 (fun _ => none) [] w' ∧ Below B w w' := by
  refine (open_none hd (fun _ => rfl) rfl (by omega) hB hnm hns hs1 hs2).mono ?_
  rintro e w2 ⟨l, sv, U, own2, od2, rfl, hI, hc⟩
  have hsy : syF nm [sg0 1] (setF (fun _ => none) (fname nm 1).data.toList (some ([], 0))) = setF (setF (fun _ => none) (fname nm 1).data.toList (some ([], 0))) (fname nm 1).data.toList (some ([], 0)) := rfl
  refine ⟨l, rfl, ⟨sv, [sg0 1], U, own2, 0 + 1, od2, _, hI, Chn.start size, by simp, ?_, ?_⟩, hc.below (fun b q => (hd.blo q).1) hB⟩
  · intro b hb q
    right
    rw [hsy] at q
    by_cases e : (fname nm b).data.toList = (fname nm 1).data.toList
    · exact fname_inj nm hb (by omega) e
    · rw [setF_other _ _ e, setF_other _ _ e] at q; exact absurd rfl q
  · intro f hf
    have e := hf 1 (by omega)
    rw [hsy, setF_other _ _ e, setF_other _ _ e]
/-- A record that is there still, of a log whose first k segments may have gone. -/
theorem get_rot {k : Nat} (hL : LgI B l d size nm false sv (P.drop k) U own w) (hc : Chn size rs (sgs P)) (hs0 : 0 < size) (hrs : rs.length < 98) {p0 : Sg × Value} (e0 : P[k]? = some p0) {m : Nat} {r : List UInt8} (er : rs[m]? = some r) (hm : p0.1.1 ≤ m + 1) (hrl : r.length ≤ 16777216) :
    Calls Tryz.prog 29 #[.pointer (some ⟨l, 0, none⟩), .int .u64 ((m + 1 : Nat) : Int)] w fun x w' => (∃ v, x = .returned (.tuple #[v, .int .i64 0]) ∧ Ow w.heap.size w' v r) ∧ Below w.heap.size w w' := by
  have hk := (List.getElem?_eq_some_iff.1 e0).1
  have hln := hc.len hs0
  have hpl : (sgs P).length = P.length := by simp
  obtain ⟨i, s, j, es, ej, hij⟩ := hc.find m r er
  obtain ⟨p, ep, rfl⟩ := at_sgs es
  have hi := (List.getElem?_eq_some_iff.1 ep).1
  have hjl := (List.getElem?_eq_some_iff.1 ej).1
  have hki : k ≤ i := by
    rcases Nat.lt_or_ge i k with a | a
    · obtain ⟨q, eq⟩ : ∃ q, P[i + 1]? = some q := ⟨_, List.getElem?_eq_getElem (by omega)⟩
      have h1 := hc.chain i p.1 q.1 es (sgs_at eq)
      have h2 : q.1.1 ≤ p0.1.1 := by
        rcases Nat.lt_or_ge (i + 1) k with b | b
        · exact Nat.le_of_lt (hc.mono hs0 _ _ q.1 p0.1 b (sgs_at eq) (sgs_at e0))
        · obtain rfl : k = i + 1 := by omega
          rw [eq] at e0; obtain rfl := Option.some.inj e0; exact Nat.le_refl _
      unfold sgNext at h1
      omega
    · exact a
  have dr : ∀ (i : Nat) p, (P.drop k)[i]? = some p → P[k + i]? = some p := fun i p e => by rw [List.getElem?_drop] at e; exact e
  obtain ⟨pl, el⟩ : ∃ pl, P[P.length - 1]? = some pl := ⟨_, List.getElem?_eq_getElem (by omega)⟩
  have hnx := hc.le i p.1 es
  have hnl := hc.le (P.length - 1) pl.1 (sgs_at el)
  have := get_there hL (by rw [List.length_drop]; omega) (fun a b p q hab ha hb => hc.mono hs0 _ _ p.1 q.1 (show k + a < k + b by omega) (sgs_at (dr a p ha)) (sgs_at (dr b q hb))) (fun a p q ha hb => hc.chain (k + a) p.1 q.1 (sgs_at (dr a p ha)) (sgs_at (dr (a + 1) q hb))) (k := i - k) (j := j) (p := p) (by rw [List.getElem?_drop, show k + (i - k) = i by omega]; exact ep) ej (by omega) hrl (m := P.length - 1 - k) (by rw [List.length_drop]; omega) (pl := pl) (by rw [List.getElem?_drop, show k + (P.length - 1 - k) = P.length - 1 by omega]; exact el) (by omega)
  rw [hij] at this
  exact this
/-- A number read out of Segments' list. -/
theorem begins_cell {v : Value} {C : Nat} (h : w.ownsRow C 38 1 v P.length (begins P)) (hne : 0 < P.length) : ∃ g c, v = .slice (some ⟨g, 0, none⟩) P.length c ∧ P.length ≤ c ∧ c ≤ maxLen ∧ C ≤ g ∧ ∀ (i : Nat) p, P[i]? = some p → w.cell? ⟨g, i, none⟩ = some (.int .u64 (p.1.1 : Int)) := by
  obtain ⟨a, c, ev, h1, h2, _, h4⟩ := row_reads h
  have hb : ∀ (i : Nat) p, P[i]? = some p → (begins P)[i]? = some (.int .u64 (p.1.1 : Int)) := fun i p e => by unfold begins; rw [List.getElem?_map, e]; rfl
  obtain ⟨p, e⟩ : ∃ p, P[0]? = some p := ⟨_, List.getElem?_eq_getElem hne⟩
  obtain ⟨g, rfl, _⟩ := h4 0 _ (hb 0 p e)
  subst ev
  refine ⟨g, c, rfl, h1, h2, (World.ownsRow.lt h g rfl).1, fun i q eq => ?_⟩
  obtain ⟨g', eg, hc⟩ := h4 i _ (hb i q eq)
  simp only [Option.some.injEq, Addr.mk.injEq, and_true] at eg
  rw [eg]; exact hc
end
end Go.Proofs.YtgdgnkmjoiholaaGreatDoor
