/- Seats in memory; slices.SortFunc over seats: by store. -/
import Derived.Test.YtlfdcnojbbigbaaG9
import Derived.Test.YtlfdcnojbbigbaaG22
import Derived.Test.YtlfdcnojbbigbaaG8
namespace Go.Proofs.Ytlfdcnojbbigbaa
open Go.RowKit Go.Shelf Go.Lib
open Go.Sort hiding Below
set_option linter.unusedVariables false
set_option maxRecDepth 100000

/-- A seat: a store, and whether who sits there only learns. -/
abbrev Se := Int × Bool
def sec (p : Se) : List Value := [.int .i64 p.1, .bool p.2]
def secs (ps : List Se) : List Value := ps.flatMap sec
theorem sec_len (p : Se) : (sec p).length = 2 := rfl
theorem secs_len (ps : List Se) : (secs ps).length = ps.length * 2 := fm_len sec_len ps
theorem secs_app (a b : List Se) : secs (a ++ b) = secs a ++ secs b := by simp [secs]
theorem secs_one (ps : List Se) : ∀ u ∈ secs ps, u.oneCell' = true := by
  intro u hu
  obtain ⟨p, _, h⟩ := List.mem_flatMap.1 hu
  simp only [sec, List.mem_cons, List.not_mem_nil, or_false] at h
  rcases h with rfl | rfl <;> rfl
/-- A row of seats of the call's own. -/
def OwSe (B : Nat) (w : World) (v : Value) (ps : List Se) : Prop := w.ownsRow B 121 2 v ps.length (secs ps)
theorem OwSe.nil (B : Nat) (w : World) : OwSe B w (.slice none 0 0) [] := World.ownsRow_nil _ _ _ _
theorem OwSe.below {B C : Nat} {w w' : World} {v : Value} {ps : List Se} (h : OwSe B w v ps) (hb : Below C w w') (hC : w.heap.size ≤ C) : OwSe B w' v ps := ownsRow_belP h hb hC
theorem OwSe.lt {B : Nat} {w : World} {v : Value} {l : List Se} (h : OwSe B w v l) : ∀ b, v.ownBlock = some b → B ≤ b ∧ b < w.heap.size := fun b e => World.ownsRow.lt h b e
/-- The slice value reads as these seats. -/
def RdSe (w : World) (v : Value) (ps : List Se) : Prop :=
  ∃ ao c, v = .slice ao ps.length c ∧ ps.length ≤ c ∧ c ≤ maxLen ∧ ∀ i p, ps[i]? = some p → ∃ a, ao = some a ∧ w.cell? (a.add (i * 2)) = some (.int .i64 p.1) ∧ w.cell? ⟨(a.add (i * 2)).block, (a.add (i * 2)).off + 1, none⟩ = some (.bool p.2)
theorem RdSe.below {B : Nat} {w w' : World} {v : Value} {ps : List Se} (h : RdSe w v ps) (hb : Below B w w') (hB : w.heap.size ≤ B) : RdSe w' v ps := by
  obtain ⟨ao, c, h0, h1, h2, h4⟩ := h
  have k : ∀ x u, w.cell? x = some u → w'.cell? x = some u := fun x u q => by rw [hb.cell (by have := World.block_lt_of_cell? w _ q; omega)]; exact q
  refine ⟨ao, c, h0, h1, h2, fun i p hi => ?_⟩
  obtain ⟨a, e, q1, q2⟩ := h4 i p hi
  exact ⟨a, e, k _ _ q1, k _ _ q2⟩

def cmpI (x y : Int) : Int := if x < y then -1 else if y < x then 1 else 0
theorem isNaNI_any (x : Int) (w : World) : Calls Try.prog 80 #[.int .i64 x] w fun e w' => e = .returned (.bool false) ∧ w' = w := by
  go_enter Try.func80, Try.ntmps80
  go_wp2_with fail
  go_ret
  exact ⟨by simp, rfl⟩
theorem compareI_any (a b : Int) (w : World) : Calls Try.prog 77 #[.int .i64 a, .int .i64 b] w fun e w' => e = .returned (.int .i64 (cmpI a b)) ∧ w' = w := by
  have h0 := fun z W => isNaNI_any z W
  have hc : cmpI a b = if a < b then -1 else if b < a then 1 else 0 := rfl
  generalize cmpI a b = r at *
  have HC : Hid _ := hc
  clear hc
  go_enter Try.func77, Try.ntmps77
  go_wp2_with fail
  refine (h0 _ _).mono ?_
  rintro e w1 ⟨rfl, rfl⟩
  go_wp2_with fail
  refine (h0 _ _).mono ?_
  rintro e w1 ⟨rfl, rfl⟩
  by_cases h1 : a < b
  · have HR : Hid (r = -1) := by show _ = _; rw [HC.out, if_pos h1]
    go_wp2_with fail
    go_ret
    exact ⟨by rw [HR.out]; rfl, rfl⟩
  · by_cases h2 : b < a
    · have HR : Hid (r = 1) := by show _ = _; rw [HC.out, if_neg h1, if_pos h2]
      go_wp2_with fail
      go_ret
      exact ⟨by rw [HR.out]; rfl, rfl⟩
    · have HR : Hid (r = 0) := by show _ = _; rw [HC.out, if_neg h1, if_neg h2]
      go_wp2_with fail
      go_ret
      exact ⟨by rw [HR.out]; rfl, rfl⟩
theorem seats1_any {x0 y0 : Int} {x1 y1 : Bool} {W : World} :
    Calls Try.prog 76 #[.agg #[.int .i64 x0, .bool x1], .agg #[.int .i64 y0, .bool y1]] W fun e w' => e = .returned (.int .i64 (cmpI x0 y0)) ∧ ∃ q os', w' = grow (W.drewN q) os' := by
  have hcm := fun W => compareI_any x0 y0 W
  generalize cmpI x0 y0 = r at *
  go_enter Try.func76, Try.ntmps76
  go_wp2_with fail
  refine (hcm _).mono ?_
  rintro e w1 ⟨rfl, rfl⟩
  go_wp2_with fail
  go_ret
  exact ⟨rfl, 0, _, by rw [alloc_eq_grow, alloc_eq_grow, grow_grow]; rfl⟩
def encSe (x : Se) : List Value := sec x
def cfSe (x y : Se) : Int := cmpI x.1 y.1
theorem cfSe_lt (x y : Se) : ltOf cfSe x y = decide (x.1 < y.1) := by
  unfold ltOf cfSe cmpI
  by_cases h : x.1 < y.1
  · rw [if_pos h, decide_eq_true h]; rfl
  · rw [if_neg h, decide_eq_false h]
    by_cases h2 : y.1 < x.1
    · rw [if_pos h2]; rfl
    · rw [if_neg h2]; rfl
theorem swoSe : SWO (ltOf cfSe) where
  irrefl x := by rw [cfSe_lt]; exact decide_eq_false (by omega)
  trans x y z h1 h2 := by
    rw [cfSe_lt] at *
    exact decide_eq_true (by have := of_decide_eq_true h1; have := of_decide_eq_true h2; omega)
  ntrans x y z h1 h2 := by
    rw [cfSe_lt] at *
    exact decide_eq_false (by have := of_decide_eq_false h1; have := of_decide_eq_false h2; omega)
theorem Try.isAggSe (w : World) : (isAgg 121).run Try.prog w = .ok true w := by kernel_rfl
theorem Try.sizeOfSe (w : World) : (Go.sizeOf 121).run Try.prog w = .ok 2 w := by kernel_rfl
set_option maxHeartbeats 1000000 in
theorem sortSe_any {v : Value} {ps : List Se} {w : World} {B : Nat} (ho : OwSe B w v ps) (hne : ps ≠ []) (hl : ps.length ≤ 1099511627776) :
    Calls Try.prog 75 #[v, .func (.func 76) #[] #[]] w fun e w' => e = .returned (.tuple #[]) ∧ ∃ q : List Se, q.Perm ps ∧ q.Pairwise (fun a b => ¬ b.1 < a.1) ∧ RdSe w' v q ∧ Chg (fun b => v.ownBlock = some b) w w' := by
  have hrow := ho
  have hlen0 : 0 < ps.length := List.length_pos_iff.2 hne
  unfold OwSe at ho
  rcases ho.2 with ⟨_, q0⟩ | ⟨g, cap, cur, rfl, hB, hh, hn, hcap, hsz, htake⟩
  · omega
  have hcell : ∀ j u, (secs ps)[j]? = some u → w.cell? ⟨g, j, none⟩ = some u := fun j u e => by
    have := ho.cellAt j (by have := (List.getElem?_eq_some_iff.1 e).1; rw [secs_len] at this; omega)
    rw [this]; exact e
  have hH : HoldsK encSe 2 w g 0 ps.toArray := fun j hj => by
    rw [size_flatK] at hj
    have hj2 : j < ps.length * 2 := by simpa using hj
    have hd : j / 2 < ps.length := by omega
    rw [get_flatK _ _ _ _ hj]
    refine ⟨?_, frozen_of_row _ _ _ _ _ hh⟩
    have e0 : ps.toArray[j / 2]! = ps[j / 2] := by simp [hd]
    rw [e0]
    have hm : j % 2 < 2 := Nat.mod_lt _ (by omega)
    have hcl := hcell j ((encSe ps[j / 2])[j % 2]!) (by
      unfold secs
      have e1 := fm_at sec_len ps (j / 2) (j % 2) ps[j / 2] (List.getElem?_eq_getElem hd) hm
      rw [show j / 2 * 2 + j % 2 = j by omega] at e1
      rw [e1]
      show (sec ps[j / 2])[j % 2]? = _
      rw [getElem!_pos (encSe ps[j / 2]) (j % 2) hm]
      exact List.getElem?_eq_getElem hm)
    rw [Nat.zero_add]
    exact hcl
  have hcmp : CmpLays Try.prog 76 #[] encSe 2 cfSe g 0 ps.toArray.size w := fun m os dk hs x y => by
    obtain ⟨x0, x1⟩ := x
    obtain ⟨y0, y1⟩ := y
    exact seats1_any
  have eg : ∀ args w, (callFunc 76 args).run Try.prog w = .ok (.enter 76 args) w := enters_of Try.func76 (by kernel_rfl) rfl
  have hcon := AnyQ.slices_SortFunc Try.sortSe 2 Try.isAggSe Try.sizeOfSe encSe (fun _ => rfl) (fun x v hv => by simp only [encSe, sec, List.mem_cons, List.not_mem_nil, or_false] at hv; rcases hv with rfl | rfl <;> rfl) cfSe swoSe 76 #[] g 0 cap ps.toArray w eg hcmp hH (Array.getElem?_eq_some_iff.1 hh).1 (by simp; omega)
  have hs0 : ps.toArray.size = ps.length := by simp
  rw [hs0] at hcon
  refine Calls.mono hcon ?_
  rintro e w' ⟨rfl, d', n, os, hperm, hsort, rfl⟩
  have hd' : d'.size = ps.length := by rw [hperm.1, hs0]
  have ch := sort_chg encSe 2 w g 0 n d' os
  have hH' := holdsK_sortWorldK encSe 2 w g 0 n ps.toArray d' os (Array.getElem?_eq_some_iff.1 hh).1 hH (by rw [hd', hs0])
  have hbang : ∀ i (h : i < d'.size), d'[i]! = d'[i] := fun i h => getElem!_pos d' i h
  refine ⟨rfl, d'.toList, ?_, ?_, ⟨some ⟨g, 0, none⟩, cap, congrArg (fun n => Value.slice (some ⟨g, 0, none⟩) n cap) ((Array.length_toList (xs := d')).trans hd').symm, by rw [Array.length_toList]; omega, hcap, fun i r hr => ?_⟩, ch.mono (fun b _ q => by rw [q]; rfl)⟩
  · have hp := hperm.2.2
    rw [← hd', Array.extract_size, hd', ← hs0, Array.extract_size] at hp
    exact hp
  · rw [List.pairwise_iff_getElem]
    intro i j hi hj hij
    have hi2 : i < d'.size := by simpa using hi
    have hj2 : j < d'.size := by simpa using hj
    have := hsort i j (Nat.zero_le _) hij (by omega)
    rw [hbang i hi2, hbang j hj2, cfSe_lt] at this
    exact of_decide_eq_false this
  · obtain ⟨hi, rfl⟩ := List.getElem?_eq_some_iff.1 hr
    have hi2 : i < d'.size := by simpa using hi
    have hc0 := (hH'.cell hi2 (show 0 < 2 by omega)).1
    have hc1 := (hH'.cell hi2 (show 1 < 2 by omega)).1
    rw [hbang i hi2] at hc0 hc1
    refine ⟨_, rfl, ?_, ?_⟩
    · rw [Addr.add_lit]
      rw [Nat.zero_add] at hc0 ⊢
      simpa [encSe, sec] using hc0
    · rw [Addr.add_lit]
      rw [Nat.zero_add] at hc1 ⊢
      simpa [encSe, sec] using hc1
end Go.Proofs.Ytlfdcnojbbigbaa
