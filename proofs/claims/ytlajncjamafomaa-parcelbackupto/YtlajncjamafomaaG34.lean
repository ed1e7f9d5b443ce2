/- Lists of byte slices that are the call's own: the row and each of its texts in a block of its own. -/
import Derived.Test.YtlajncjamafomaaG33
import Derived.Test.YtlajncjamafomaaG5
namespace Go.Proofs.Ytlajncjamafomaa
open Go.RowKit
set_option linter.unusedVariables false
set_option maxRecDepth 100000

/-- An operation whose guard lets it by is carried out as one without a guard. -/
theorem wpList_unguard {P : Program} {w : World} {ops : Array Oper} {rest : List Oper} {o : Oper} {a : Act} {Q : Exit → Act → World → Prop} (hw : Region.wanted o (yielded ops a.tmps) = true) (h : wpList P ops Q ({ o with guard := none } :: rest) a w) : wpList P ops Q (o :: rest) a w := by
  unfold wpList at h ⊢
  rw [if_pos hw]
  rw [if_pos (by rfl)] at h
  exact h

/-- A slice of slices of the call's own, from block B on. -/
structure Ows (B : Nat) (w : World) (v : Value) (ls : List (List UInt8)) (us : List Value) : Prop where
  row : w.ownsRow B 22 1 v us.length us
  len : us.length = ls.length
  el : ∀ (i : Nat) (u : Value) (l : List UInt8), us[i]? = some u → ls[i]? = some l → Ow B w u l
  off : ∀ u ∈ us, ∀ b, u.ownBlock = some b → v.ownBlock ≠ some b
  sep : us.Pairwise Apart

theorem Ows.nil (B : Nat) (w : World) : Ows B w (.slice none 0 0) [] [] := ⟨World.ownsRow_nil _ _ _ _, rfl, by simp, by simp, .nil⟩

theorem ownsRow_bel {B C n : Nat} {e : TypeId} {w w' : World} {v : Value} {xs : List Value} (h : w.ownsRow B e 1 v n xs) (hb : Below C w w') (hC : w.heap.size ≤ C) : w'.ownsRow B e 1 v n xs := by
  obtain ⟨h1, h2⟩ := h
  refine ⟨h1, ?_⟩
  rcases h2 with h2 | ⟨g, cap, cur, hv, hg, hh, r⟩
  · exact .inl h2
  · refine .inr ⟨g, cap, cur, hv, hg, ?_, r⟩
    have hlt : g < w.heap.size := (Array.getElem?_eq_some_iff.1 hh).1
    rw [hb.block g (by omega)]; exact hh

theorem Ows.below {B C : Nat} {w w' : World} {v : Value} {ls : List (List UInt8)} {us : List Value} (h : Ows B w v ls us) (hb : Below C w w') (hC : w.heap.size ≤ C) : Ows B w' v ls us :=
  ⟨ownsRow_bel h.row hb hC, h.len, fun i u l e1 e2 => (h.el i u l e1 e2).below hb hC, h.off, h.sep⟩

theorem Ows.elem {B : Nat} {w : World} {v : Value} {ls : List (List UInt8)} {us : List Value} (h : Ows B w v ls us) (u : Value) (hu : u ∈ us) : ∃ l, Ow B w u l := by
  obtain ⟨i, hi, rfl⟩ := List.getElem_of_mem hu
  have hi' : i < ls.length := by have := h.len; omega
  exact ⟨ls[i], h.el i _ _ (by simp [hi]) (by simp [hi'])⟩

theorem cell_new1 (w : World) (v : Value) (t : TypeId) : (w.alloc (.cells #[v] t)).cell? ⟨w.heap.size, 0, none⟩ = some v := by
  rw [World.cell?_alloc_at _ _ _ _ rfl]; rfl
theorem Ow.shape {B : Nat} {w : World} {v : Value} {l : List UInt8} (h : Ow B w v l) : ∃ a c, v = .slice a l.length c := by
  obtain ⟨ao, c, e, _⟩ := h.rd
  exact ⟨_, _, e⟩

/-- One text more, in a new block. -/
theorem Ows.snoc {B C : Nat} {w w2 w3 : World} {v v' u : Value} {ls : List (List UInt8)} {us : List Value} {l : List UInt8} {o : Obj} (h : Ows B w v ls us) (hb : Below C w w2) (hC : w.heap.size ≤ C) (hu : Ow w.heap.size w2 u l) (hB : B ≤ w.heap.size)
    (hrow : w3.ownsRow B 22 1 v' (us.length + 1) (us ++ [u])) (hg : (w2.alloc o).grownBy w3 v.ownBlock) (hv : v'.ownBlock = v.ownBlock ∨ v'.ownBlock = some (w2.alloc o).heap.size) : Ows B w3 v' (ls ++ [l]) (us ++ [u]) := by
  have h2 := h.below hb hC
  have hlt : ∀ b, u.ownBlock = some b → w.heap.size ≤ b ∧ b < w2.heap.size := fun b e => World.ownsRow.lt hu b e
  have hvlt : ∀ b, v.ownBlock = some b → b < w.heap.size := fun b e => (World.ownsRow.lt h.row b e).2
  have huv : ∀ b, u.ownBlock = some b → v.ownBlock ≠ some b := fun b e q => by have := hlt b e; have := hvlt b q; omega
  have kp : ∀ (x : Value) (m : List UInt8) (D : Nat), Ow D w2 x m → (∀ b, x.ownBlock = some b → v.ownBlock ≠ some b) → Ow D w3 x m := by
    intro x m D hx hne
    refine World.ownsRow.kept (hx.alloc o) hg ?_
    by_cases e : x.ownBlock = none
    · exact .inl e
    · obtain ⟨b, hb⟩ := Option.ne_none_iff_exists'.1 e
      exact .inr (fun q => hne b hb (by rw [← q]; exact hb))
  refine ⟨by simpa using hrow, by simp [h.len], ?_, ?_, ?_⟩
  · intro i x m e1 e2
    have hlen := h.len
    by_cases hi : i < us.length
    · rw [List.getElem?_append_left hi] at e1
      rw [List.getElem?_append_left (by omega)] at e2
      have hm : x ∈ us := List.mem_of_getElem? e1
      exact kp x m B (h2.el i x m e1 e2) (fun b e => h.off x hm b e)
    · rw [List.getElem?_append_right (by omega)] at e1
      rw [List.getElem?_append_right (by omega)] at e2
      rw [List.getElem?_singleton] at e1 e2
      split at e1
      · rename_i h0
        rw [if_pos (by omega)] at e2
        obtain rfl := Option.some.inj e1
        obtain rfl := Option.some.inj e2
        exact (kp u l _ hu huv).mono hB
      · cases e1
  · intro x hx b e
    have hxlt : b < w2.heap.size ∧ v.ownBlock ≠ some b := by
      rcases List.mem_append.1 hx with hx | hx
      · obtain ⟨m, hm⟩ := h2.elem x hx
        exact ⟨(World.ownsRow.lt hm b e).2, h.off x hx b e⟩
      · obtain rfl := List.mem_singleton.1 hx
        exact ⟨(hlt b e).2, huv b e⟩
    rcases hv with q | q
    · rw [q]; exact hxlt.2
    · rw [q]
      intro q2
      have := Option.some.inj q2
      simp at this
      omega
  · rw [List.pairwise_append]
    refine ⟨h.sep, List.pairwise_singleton .., fun a ha x hx => ?_⟩
    obtain rfl := List.mem_singleton.1 hx
    obtain ⟨m, hm⟩ := h.elem a ha
    exact hm.apart hu (Nat.le_refl _)

theorem Rd.grown {w w' : World} {r : Option Nat} {v : Value} {l : List UInt8} (h : Rd w v l) (hg : w.grownBy w' r) (hne : ∀ b, v.ownBlock = some b → r ≠ some b) : Rd w' v l := by
  obtain ⟨ao, c, rfl, h1, h2, h3, h4⟩ := h
  refine ⟨ao, c, rfl, h1, h2, h3, fun i hi => ?_⟩
  obtain ⟨a, rfl, hc⟩ := h4 i hi
  have hlt := World.block_lt_of_cell? w _ hc
  rw [add_block] at hlt
  refine ⟨a, rfl, ?_⟩
  rw [World.cell?_of_block (w := w) (by rw [add_block]; exact hg.block a.block hlt (fun e => hne a.block rfl e.symm))]
  exact hc

theorem Ows.rds {B : Nat} {w : World} {v : Value} {ls : List (List UInt8)} {us : List Value} (h : Ows B w v ls us) : Rds w v ls := by
  have hlen := h.len
  have hrow := h.row
  rcases hrow.2 with ⟨hv, h0⟩ | ⟨g, cap, cur, hv, hg, hh, hn, hcap, hsz, htake⟩
  · have : ls = [] := List.length_eq_zero_iff.1 (by omega)
    subst this
    exact ⟨none, 0, hv, by simp, by simp, fun i hi => by simp at hi⟩
  · refine ⟨some ⟨g, 0, none⟩, cap, by rw [hv, hlen], by omega, hcap, fun i hi => ?_⟩
    have hiu : i < us.length := by omega
    refine ⟨⟨g, 0, none⟩, us[i], rfl, ?_, (h.el i us[i] ls[i] (by simp [hiu]) (by simp [hi])).rd⟩
    rw [Addr.add_lit, Nat.zero_add]
    subst hv
    rw [hrow.cellAt i (by omega)]
    simp [hiu]
end Go.Proofs.Ytlajncjamafomaa
