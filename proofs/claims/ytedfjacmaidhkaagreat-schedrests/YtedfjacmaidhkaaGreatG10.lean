/- slices.SortFunc over views of regions: by number. -/
import Derived.Test.YtedfjacmaidhkaaGreatG9
import Derived.Test.YtedfjacmaidhkaaGreatG4
import Derived.Test.YtedfjacmaidhkaaGreatG6
import Derived.Test.YtedfjacmaidhkaaGreatG5
namespace Go.Proofs.YtedfjacmaidhkaaGreat
open Go.RowKit Go.Shelf Go.Lib
open Go.Sort hiding Below
set_option linter.unusedVariables false
set_option linter.unusedSimpArgs false
set_option maxRecDepth 100000

theorem Tryz.isAggV (w : World) : (isAgg 42).run Tryz.prog w = .ok true w := by kernel_rfl
theorem Tryz.sizeOfV (w : World) : (Go.sizeOf 42).run Tryz.prog w = .ok 9 w := by kernel_rfl
def rv0 : RV := ⟨0, none, 0, none, 0, 0, 0, none, 0, 0, 0, false, [], [], []⟩
instance : Inhabited RV := ⟨rv0⟩
def cfV (x y : RV) : Int := cmpU x.id y.id
theorem cfV_lt (x y : RV) : ltOf cfV x y = decide (x.id.toNat < y.id.toNat) := by
  unfold ltOf cfV cmpU
  by_cases h : x.id.toNat < y.id.toNat
  · simp [h]
  · rw [if_neg h]
    by_cases h2 : y.id.toNat < x.id.toNat <;> simp [h, h2]
theorem swoV : SWO (ltOf cfV) where
  irrefl x := by rw [cfV_lt]; simp
  trans x y z h1 h2 := by
    rw [cfV_lt] at *
    simp only [decide_eq_true_eq] at *
    omega
  ntrans x y z h1 h2 := by
    rw [cfV_lt] at *
    simp only [decide_eq_false_iff_not] at *
    omega
theorem byid_any (x y : RV) (w : World) : Calls Tryz.prog 57 #[.agg (r9 x), .agg (r9 y)] w fun e w' => e = .returned (.int .i64 (cmpU x.id y.id)) ∧ ∃ q os', w' = grow (w.drewN q) os' := by
  have hcm := fun W => compareU_any x.id y.id W
  simp only [r9]
  go_enter Tryz.func57, Tryz.ntmps57
  go_wp2_with fail
  refine (hcm _).mono ?_
  rintro e w1 ⟨rfl, rfl⟩
  go_wp2_with fail
  go_ret
  exact ⟨rfl, 0, _, by rw [alloc_eq_grow, alloc_eq_grow, grow_grow]; rfl⟩
theorem r9l_one (x : RV) : ∀ v ∈ r9l x, v.oneCell' = true := fun v hv => r9s_one [x] v (by simpa [r9s] using hv)
theorem flat_at (d : Array RV) (j : Nat) (h : j < d.size * 9) : (r9s d.toList)[j]? = some (flatK r9l 9 d)[j]! := by
  have hd : j / 9 < d.size := by omega
  have e1 := fm_at r9l_len d.toList (j / 9) (j % 9) d[j / 9] (by simp [hd]) (Nat.mod_lt _ (by omega))
  rw [show j / 9 * 9 + j % 9 = j by omega] at e1
  rw [get_flatK _ _ _ _ h]
  show (d.toList.flatMap r9l)[j]? = _
  rw [e1]
  have e0 : d[j / 9]! = d[j / 9] := getElem!_pos d _ hd
  rw [e0, getElem!_pos (r9l d[j / 9]) (j % 9) (by rw [r9l_len]; omega)]
  exact List.getElem?_eq_getElem _
theorem sortV_any {v : Value} {rs : List RV} {w : World} {B : Nat} (ho : w.ownsRow B 42 9 v rs.length (r9s rs)) (hne : rs ≠ []) (hl : rs.length ≤ 1099511627776) :
    Calls Tryz.prog 56 #[v, .func (.func 57) #[] #[]] w fun e w' => e = .returned (.tuple #[]) ∧ ∃ q : List RV, q.Perm rs ∧ q.Pairwise (fun a b => a.id.toNat ≤ b.id.toNat) ∧ w'.ownsRow B 42 9 v q.length (r9s q) ∧ Chg (fun b => v.ownBlock = some b) w w' := by
  have hrow := ho
  have hlen0 : 0 < rs.length := List.length_pos_iff.2 hne
  rcases ho.2 with ⟨_, q0⟩ | ⟨g, cap, cur, rfl, hB, hh, hn, hcap, hsz, htake⟩
  · omega
  have hcells := row_reads hrow
  obtain ⟨ag, cg, eg0, _, _, _, h4⟩ := hcells
  simp only [Value.slice.injEq] at eg0
  obtain ⟨rfl, -, rfl⟩ := eg0
  have hH : HoldsK r9l 9 w g 0 rs.toArray := fun j hj => by
    rw [size_flatK] at hj
    have hj2 : j < rs.length * 9 := by simpa using hj
    refine ⟨?_, frozen_of_row _ _ _ _ _ hh⟩
    have hf := flat_at rs.toArray j hj
    obtain ⟨g', e', hc⟩ := h4 j _ hf
    simp only [Option.some.injEq, Addr.mk.injEq, and_true] at e'
    subst e'
    rw [Nat.zero_add]
    exact hc
  have hcmp : CmpLays Tryz.prog 57 #[] r9l 9 cfV g 0 rs.toArray.size w := fun m os dk hs x y => byid_any x y _
  have eg : ∀ args w, (callFunc 57 args).run Tryz.prog w = .ok (.enter 57 args) w := enters_of Tryz.func57 (by kernel_rfl) rfl
  have hcon := AnyQ.slices_SortFunc Tryz.sortV 9 Tryz.isAggV Tryz.sizeOfV r9l (fun _ => rfl) r9l_one cfV swoV 57 #[] g 0 cap rs.toArray w eg hcmp hH (Array.getElem?_eq_some_iff.1 hh).1 (by simp; omega)
  have hs0 : rs.toArray.size = rs.length := by simp
  rw [hs0] at hcon
  refine Calls.mono hcon ?_
  rintro e w' ⟨rfl, d', n, os, hperm, hsort, rfl⟩
  have hd' : d'.size = rs.length := by rw [hperm.1, hs0]
  have ch := sort_chg r9l 9 w g 0 n d' os
  have hbang : ∀ i (h : i < d'.size), d'[i]! = d'[i] := fun i h => getElem!_pos d' i h
  have hlt : g < w.heap.size := (Array.getElem?_eq_some_iff.1 hh).1
  have hblk : (sortWorldK r9l 9 w g 0 n d' os).heap[g]? = some (.cells (putCells id 0 (flatK r9l 9 d') cur) 42 (0, 0)) := by
    show (w.heap.modify g (onCells (putCells id 0 (flatK r9l 9 d'))) ++ os)[g]? = _
    rw [Array.getElem?_append_left (by simpa using hlt), Array.getElem?_modify, if_pos rfl, hh]
    rfl
  refine ⟨rfl, d'.toList, ?_, ?_, ⟨by rw [r9s_len], .inr ⟨g, cap, putCells id 0 (flatK r9l 9 d') cur, by simp [hd'], hB, hblk, by simpa [hd'] using hn, hcap, by simp [putCells, hsz], ?_⟩⟩, ch.mono (fun b _ q => by rw [q]; rfl)⟩
  · have hp := hperm.2.2
    rw [← hd', Array.extract_size, hd', ← hs0, Array.extract_size] at hp
    exact hp
  · rw [List.pairwise_iff_getElem]
    intro i j hi hj hij
    have hi2 : i < d'.size := by simpa using hi
    have hj2 : j < d'.size := by simpa using hj
    have := hsort i j (Nat.zero_le _) hij (by omega)
    rw [hbang i hi2, hbang j hj2, cfV_lt] at this
    simp only [decide_eq_false_iff_not] at this
    simp only [Array.getElem_toList]
    omega
  · apply List.ext_getElem?
    intro j
    have hld : d'.toList.length = rs.length := by simp [hd']
    rw [hld]
    have hcs : rs.length * 9 ≤ cap * 9 := Nat.mul_le_mul_right _ hn
    by_cases hj : j < rs.length * 9
    · have hjd : j < d'.size * 9 := by rw [hd']; exact hj
      rw [List.getElem?_take, if_pos hj, flat_at d' j hjd]
      have hjc : j < cur.size := by omega
      simp [putCells, hjc, hjd]
    · rw [List.getElem?_take, if_neg hj]
      symm
      rw [List.getElem?_eq_none_iff, r9s_len, hld]
      omega
end Go.Proofs.YtedfjacmaidhkaaGreat
