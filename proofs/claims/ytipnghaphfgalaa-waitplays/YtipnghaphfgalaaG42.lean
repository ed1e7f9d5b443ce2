/- The document's graph in memory; its in, less, has, Stop and Done. -/
import Derived.Test.YtipnghaphfgalaaG41
import Derived.Laws.StructEq
namespace Go.Proofs.Ytipnghaphfgalaa
open Go.RowKit
set_option linter.unusedVariables false
set_option maxRecDepth 100000

/-- The document's graph: its block y, its edges E in the slice v. -/
structure RGr (B y : Nat) (v : Value) (E : List Ed) (w : World) : Prop where
  cell : w.heap[y]? = some (.cells #[v] 39 (0, 0))
  row : OwE B w v E
  ne : v.ownBlock ≠ some y
  lo : B ≤ y
section
variable {B y : Nat} {v : Value} {E : List Ed} {w w' : World}
theorem RGr.vx (h : RGr B y v E w) : w.cell? ⟨y, 0, none⟩ = some v ∧ ∀ j, w.frozen? ⟨y, j, none⟩ = false :=
  ⟨by rw [cell_of_row _ _ _ _ _ _ h.cell]; rfl, fun j => frozen_of_row _ _ _ _ _ h.cell⟩
theorem RGr.xlt (h : RGr B y v E w) : y < w.heap.size := (Array.getElem?_eq_some_iff.1 h.cell).1
theorem RGr.keptC {S : Nat → Prop} (h : RGr B y v E w) (hc : Chg S w w') (hx : ¬ S y) (hv : ∀ b, v.ownBlock = some b → ¬ S b) : RGr B y v E w' :=
  ⟨by rw [hc.block y h.xlt hx]; exact h.cell, h.row.keptC hc hv, h.ne, h.lo⟩
theorem RGr.below {C : Nat} (h : RGr B y v E w) (hb : Below C w w') (hC : w.heap.size ≤ C) : RGr B y v E w' :=
  h.keptC (Chg.of_below hb) (fun q => by have := h.xlt; omega) (fun b e q => by have := (h.row.lt b e).2; omega)
/-- The graph with another row of edges, made by the call. -/
theorem RGr.put (h : RGr B y v E w) (hb : Below w.heap.size w w') {v2 : Value} {E2 : List Ed} (h2 : OwE w.heap.size w' v2 E2) : RGr B y v2 E2 (w'.setCell ⟨y, 0, none⟩ v2) ∧ Chg (fun b => b = y) w (w'.setCell ⟨y, 0, none⟩ v2) := by
  have hyl := h.xlt
  have hcy : w'.heap[y]? = some (.cells #[v] 39 (0, 0)) := by rw [hb.block y hyl]; exact h.cell
  have hcp : Chg (fun b => b = y) w' (w'.setCell ⟨y, 0, none⟩ v2) := (Chg.refl (fun b => b = y) w').put y _ _ rfl
  have hny : v2.ownBlock ≠ some y := fun e => by have := (h2.lt y e).1; omega
  refine ⟨⟨by rw [heap_setCell_same _ _ 0 _ _ _ hcy]; rfl, (h2.mono (by have := h.lo; omega)).keptC hcp (fun b e q => hny (by rw [e, q])), hny, h.lo⟩, ?_⟩
  exact ((Chg.of_below hb).mono (fun b q1 q2 => by omega)).trans (hcp.mono (fun b _ q => .inl q))
end

theorem rin_any {v : Value} {l : List UInt64} {w : World} (h : Ru w v l) (hl : l.length ≤ 8192) (y : UInt64) :
    Calls Try.prog 43 #[v, .int .u64 (y.toNat : Int)] w fun r w' => r = .returned (.bool (decide (y ∈ l))) ∧ w' = w := by
  obtain ⟨ao, c, ev, h1, h2, h3, h4⟩ := h
  subst ev
  generalize hR : decide (y ∈ l) = R
  have HR : Hid (decide (y ∈ l) = R) := hR
  clear hR
  go_enter Try.func43, Try.ntmps43
  go_wp2_with fail
  go_loopw [5] (fun i wr => ∃ k : Nat, k ≤ l.length ∧ i = .int .i64 k ∧ Hid (∀ j p, j < k → l[j]? = some p → p ≠ y) ∧ wr = w) (fun i _ => l.length - (intOf i).toNat)
  case atStart => exact ⟨0, Nat.zero_le _, rfl, (fun j p q => by omega), rfl⟩
  case round =>
    obtain ⟨k, hk, rfl, HK, rfl⟩ := hrel
    by_cases hlt : k < l.length
    · obtain ⟨ad, rfl, d0⟩ := h4 k hlt
      have hp : l[k]? = some l[k] := List.getElem?_eq_getElem hlt
      have HP : Hid (l[k]? = some l[k]) := hp
      have hki : (k : Int) < (l.length : Int) := by omega
      clear hp h4
      generalize l[k] = p at *
      by_cases q : p = y
      · subst q
        have HF : Hid (R = true) := by show _ = _; rw [← HR.out, decide_eq_true (List.mem_of_getElem? HP.out)]
        clear HP
        go_wp2_with fail
        go_ret
        exact ⟨by rw [HF.out]; rfl, rfl⟩
      · have g1 : ((p.toNat : Int) == (y.toNat : Int)) = false := by rw [u_eq]; simpa using q
        have g2 : ¬ p.toNat = y.toNat := fun z => q (UInt64.toNat_inj.1 z)
        have HK2 : Hid (∀ j p, j < k + 1 → l[j]? = some p → p ≠ y) := fun j p' q1 q2 => by
          rcases Nat.lt_or_ge j k with z | z
          · exact HK.out j p' z q2
          · obtain rfl : j = k := by omega
            rw [HP.out] at q2
            obtain rfl := Option.some.inj q2
            exact q
        clear HP
        go_wp2_with fail
        exact ⟨⟨k + 1, by omega, by go_num, HK2, by first | rfl | trivial⟩, by simp [intOf]; omega⟩
    · obtain rfl : k = l.length := by omega
      have HF : Hid (R = false) := by
        show _ = _
        rw [← HR.out, decide_eq_false]
        intro hm
        obtain ⟨j, hj⟩ := List.mem_iff_getElem?.1 hm
        exact HK.out j _ (List.getElem?_eq_some_iff.1 hj).1 hj rfl
      clear h4
      go_wp2_with fail
      go_ret
      exact ⟨by rw [HF.out]; rfl, rfl⟩
theorem rfilt_step {E : List Ed} {p : Ed → Bool} {k : Nat} {f : Ed} (hf : E[k]? = some f) : (E.take (k + 1)).filter p = (E.take k).filter p ++ (if p f then [f] else []) := by
  rw [List.take_add_one, hf, List.filter_append]
  congr 1
  simp [List.filter_cons]
end Go.Proofs.Ytipnghaphfgalaa
