/- The document's Way: the same search. -/
import Derived.Test.YtipnghaphfgalaaG46
import Derived.Test.YtipnghaphfgalaaG21
namespace Go.Proofs.Ytipnghaphfgalaa
open Go.RowKit
set_option linter.unusedVariables false
set_option maxRecDepth 100000

structure WJ (E : List Ed) (a b : UInt64) (q : List (List UInt64)) (s : List UInt64) : Prop where
  lq : q.length + W.cnt E s ≤ 1 + E.length
  ls : s.length + W.cnt E s ≤ 1 + E.length
  lz : ∀ z ∈ q, z.length ≤ s.length ∧ z ≠ []
  bfs : ∀ r, W.Bfs E b q s r → W.Bfs E b [[a]] [a] r
/-- While a way z is gone on with: k edges are looked at. -/
structure JR (E : List Ed) (z : List UInt64) (l : UInt64) (q0 : List (List UInt64)) (s0 : List UInt64) (k : Nat) (q : List (List UInt64)) (s : List UInt64) : Prop where
  ex : W.exps z (W.outs (E.drop k) l) q s = W.exps z (W.outs E l) q0 s0
  lq : q.length + W.cnt E s ≤ q0.length + W.cnt E s0
  ls : s.length + W.cnt E s ≤ 1 + E.length
  lz : ∀ u ∈ q, u.length ≤ s.length ∧ u ≠ []
  zs : z.length ≤ s.length
theorem outs_drop {E : List Ed} {l : UInt64} {k : Nat} {e : Ed} (he : E[k]? = some e) : W.outs (E.drop k) l = (if e.1 == l then [e.2] else []) ++ W.outs (E.drop (k + 1)) l := by
  obtain ⟨hk, hk2⟩ := List.getElem?_eq_some_iff.1 he
  unfold W.outs
  rw [List.drop_eq_getElem_cons hk, hk2, List.filter_cons]
  split <;> simp
theorem JR.other {E : List Ed} {z : List UInt64} {l : UInt64} {q0 q : List (List UInt64)} {s0 s : List UInt64} {k : Nat} (h : JR E z l q0 s0 k q s) {e : Ed} (he : E[k]? = some e) (hn : e.1 ≠ l ∨ e.2 ∈ s) : JR E z l q0 s0 (k + 1) q s := by
  refine ⟨?_, h.lq, h.ls, h.lz, h.zs⟩
  have := h.ex
  rw [outs_drop he] at this
  by_cases q1 : e.1 = l
  · have q2 : e.2 ∈ s := by rcases hn with p | p; exact absurd q1 p; exact p
    rw [if_pos (by simpa using q1), List.singleton_append, W.exps, if_pos q2] at this
    exact this
  · rw [if_neg (by simpa using q1), List.nil_append] at this
    exact this
theorem JR.new {E : List Ed} {z : List UInt64} {l : UInt64} {q0 q : List (List UInt64)} {s0 s : List UInt64} {k : Nat} (h : JR E z l q0 s0 k q s) {e : Ed} (he : E[k]? = some e) (h1 : e.1 = l) (h2 : e.2 ∉ s) : JR E z l q0 s0 (k + 1) (q ++ [z ++ [e.2]]) (s ++ [e.2]) := by
  obtain ⟨e1, e2⟩ := e
  have hc := W.cnt_push (List.mem_of_getElem? he) h2
  have l1 := h.lq
  have l2 := h.ls
  have l3 := h.zs
  refine ⟨?_, by simp only [List.length_append, List.length_singleton]; omega, by simp only [List.length_append, List.length_singleton]; omega, fun u hu => ?_, by simp; omega⟩
  · have := h.ex
    rw [outs_drop he, if_pos (by simpa using h1), List.singleton_append, W.exps, if_neg h2] at this
    exact this
  · simp only [List.length_append, List.length_singleton]
    rcases List.mem_append.1 hu with p | p
    · obtain ⟨p1, p2⟩ := h.lz u p
      exact ⟨by omega, p2⟩
    · rw [List.mem_singleton.1 p]
      exact ⟨by simp; omega, by simp⟩
theorem JR.done {E : List Ed} {z : List UInt64} {l a b : UInt64} {q0 q : List (List UInt64)} {s0 s : List UInt64} {k : Nat} (h : JR E z l q0 s0 k q s) (hk : E.length ≤ k) (hw : WJ E a b (z :: q0) s0) (hz : z.getLast? = some l) (hl : l ≠ b) : WJ E a b q s := by
  have hex := h.ex
  rw [List.drop_of_length_le hk] at hex
  have ho : W.exps z (W.outs E l) q0 s0 = (q, s) := hex.symm
  have l1 := h.lq
  have l2 := hw.lq
  simp only [List.length_cons] at l2
  refine ⟨by omega, h.ls, h.lz, fun r hr => hw.bfs r (W.Bfs.on z q0 s0 l r hz hl ?_)⟩
  rw [ho]; exact hr
theorem JR.start {E : List Ed} {z : List UInt64} {l a b : UInt64} {q0 : List (List UInt64)} {s0 : List UInt64} (hw : WJ E a b (z :: q0) s0) : JR E z l q0 s0 0 q0 s0 := ⟨rfl, Nat.le_refl _, hw.ls, fun u hu => hw.lz u (List.mem_cons_of_mem _ hu), (hw.lz z List.mem_cons_self).1⟩
end Go.Proofs.Ytipnghaphfgalaa
