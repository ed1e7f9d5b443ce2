/- A box that holds pieces of Pack alone: what Put and Done make of it. -/
import Derived.Test.YtlajncjamafomaaG28
import Derived.Test.YtlajncjamafomaaG26
namespace Go.Proofs.Ytlajncjamafomaa
open Go.RowKit Go.Maps
set_option linter.unusedVariables false

/-- The parts of a box are those of b. -/
structure PB (b : List UInt8) (size k : Nat) (ps : List (Nat × List UInt8)) : Prop where
  rs : RsP ps
  mem : ∀ x ∈ ps, x.1 < pkM b.length size ∧ x.2 = pkP b size x.1
  kk : (ps = [] ∧ k = 0) ∨ k = pkM b.length size
theorem PB.nil (b : List UInt8) (size : Nat) : PB b size 0 [] := ⟨List.Pairwise.nil, fun x hx => (by cases hx), .inl ⟨rfl, rfl⟩⟩
theorem pkR_I (b : List UInt8) (size i : Nat) (hs : 0 < size) (hb : b.length ≤ 1048576) (hi : i < pkM b.length size) : pkR (pkI b size i) = ((M.crc b, b.length, pkM b.length size, i, pkP b size i), 0) := by
  have h1 := M.crc_lt b
  have h2 := pkM_le b.length size hs
  have h3 := pkP_len b size i
  exact pkR_W _ _ _ _ _ (by omega) (by omega) (by omega) hi (by omega)
theorem pkI_len (b : List UInt8) (size i : Nat) (hb : b.length ≤ 1048576) : (pkI b size i).length ≤ 1099511627776 := by
  have h1 := pkRow_len (M.crc b) b.length (pkM b.length size) i (pkP b size i)
  have h2 := pkP_len b size i
  have h3 := vi_le (M.row [M.vi (M.crc b), M.vi b.length, M.vi (pkM b.length size), M.vi i, pkP b size i]).length
  unfold pkI pkW M.frame
  simp only [List.length_append, M.be_length]
  omega
theorem putP_mem (ps : List (Nat × List UInt8)) (i : Nat) (p : List UInt8) (x : Nat × List UInt8) (h : x ∈ putP ps i p) : x = (i, p) ∨ x ∈ ps := by
  unfold putP at h
  split at h
  · exact .inr h
  · exact (insP_mem ps i p x).1 h
theorem putP_len (ps : List (Nat × List UInt8)) (i : Nat) (p : List UInt8) : (putP ps i p).length = if (lkP ps i).isSome then ps.length else ps.length + 1 := by
  unfold putP
  split
  · rfl
  · exact insP_len ps i p
theorem putP_lk (ps : List (Nat × List UInt8)) (i : Nat) (p : List UInt8) (j : Nat) : (lkP (putP ps i p) j).isSome = (decide (j = i) || (lkP ps j).isSome) := by
  unfold putP
  cases h : lkP ps i with
  | none =>
    simp only [Option.isSome_none, Bool.false_eq_true, if_false]
    rw [lkP_ins p h j]
    by_cases e : j = i
    · subst e; simp
    · rw [if_neg e, decide_eq_false e]; simp
  | some q =>
    simp only [Option.isSome_some, if_true]
    by_cases e : j = i
    · subst e; rw [h]; simp
    · rw [decide_eq_false e]; simp
theorem PB.put {b : List UInt8} {size k : Nat} {ps : List (Nat × List UInt8)} (h : PB b size k ps) (hs : 0 < size) (hb : b.length ≤ 1048576) {i : Nat} (hi : i < pkM b.length size) :
    bxPut (M.crc b) b.length k ps (pkR (pkI b size i)) = ((pkM b.length size, putP ps i (pkP b size i)), 0) ∧ PB b size (pkM b.length size) (putP ps i (pkP b size i)) := by
  have hlk : lkP ps i = none ∨ lkP ps i = some (pkP b size i) := by
    cases q : lkP ps i with
    | none => exact .inl rfl
    | some p =>
      have := (h.mem _ (lkP_mem q)).2
      simp only [] at this
      exact .inr (by rw [this])
  have hpl := pkP_len b size i
  have hbl : blg (M.crc b) b.length k ps (M.crc b) b.length (pkM b.length size) i (pkP b size i) = true := by
    unfold blg
    rw [if_neg (fun q => q ⟨rfl, rfl⟩), if_neg (by omega), if_neg]
    · rcases hlk with q | q
      · rw [q]
      · rw [q]; simp
    · rintro ⟨q1, q2⟩
      rcases h.kk with ⟨_, q⟩ | q
      · omega
      · exact q2 q.symm
  refine ⟨?_, ?_, fun x hx => ?_, .inr rfl⟩
  · rw [pkR_I b size i hs hb hi]
    unfold bxPut
    simp only [hbl]
    simp
  · unfold putP
    split
    · exact h.rs
    · rename_i q
      exact insP_rises h.rs _ (by cases e : lkP ps i with | none => rfl | some _ => rw [e] at q; exact absurd rfl q)
  · rcases putP_mem ps i _ x hx with rfl | hx
    · exact ⟨hi, rfl⟩
    · exact h.mem x hx
theorem PB.len {b : List UInt8} {size k : Nat} {ps : List (Nat × List UInt8)} (h : PB b size k ps) : ps.length ≤ pkM b.length size := by
  have hb := fun x hx => (h.mem x hx).1
  have hr := h.rs
  generalize pkM b.length size = m at *
  clear h
  have key : ∀ (qs : List (Nat × List UInt8)) (a : Nat), RsP qs → (∀ x ∈ qs, a ≤ x.1) → (∀ x ∈ qs, x.1 < m) → qs.length = 0 ∨ a + qs.length ≤ m := by
    intro qs
    induction qs with
    | nil => intro a _ _ _; exact .inl rfl
    | cons y r ih =>
      intro a hq ha hm
      obtain ⟨h1, h2⟩ := List.pairwise_cons.1 hq
      have q1 := ha y (.head _)
      have q2 := hm y (.head _)
      rcases ih (y.1 + 1) h2 (fun x hx => h1 x hx) (fun x hx => hm x (.tail _ hx)) with q | q
      · right; rw [List.length_cons, q]; omega
      · right; rw [List.length_cons]; omega
  rcases key ps 0 hr (fun _ _ => Nat.zero_le _) hb with q | q <;> omega
/-- A full box tells the bytes. -/
theorem PB.full {b : List UInt8} {size k : Nat} {ps : List (Nat × List UInt8)} (h : PB b size k ps) (hs : 0 < size) (hl : ps.length = pkM b.length size) : jnP ps = b := by
  have hfull := rsP_full h.rs (fun x hx => (h.mem x hx).1) hl
  have e : ps.map (·.2) = (List.range (pkM b.length size)).map (pkP b size) := by
    apply List.ext_getElem?
    intro j
    rw [List.getElem?_map, List.getElem?_map]
    by_cases hj : j < ps.length
    · have e1 : ps[j]? = some ps[j] := by simp [hj]
      have e2 := hfull j _ e1
      have e3 := (h.mem _ (List.getElem_mem hj)).2
      rw [e1, List.getElem?_range (by omega)]
      simp only [Option.map_some]
      rw [e3, e2]
    · rw [List.getElem?_eq_none (by omega), List.getElem?_eq_none (by simp; omega)]
      rfl
  unfold jnP
  rw [e]
  exact pkP_all b size hs
theorem PB.done {b : List UInt8} {size k : Nat} {ps : List (Nat × List UInt8)} (h : PB b size k ps) (hs : 0 < size) : bxDone (M.crc b) b.length k ps = if ps.length = pkM b.length size then some b else none := by
  have hm1 : 1 ≤ pkM b.length size := by unfold pkM; omega
  unfold bxDone
  by_cases q : ps.length = pkM b.length size
  · have hk : k = pkM b.length size := by
      rcases h.kk with ⟨e, _⟩ | e
      · rw [e] at q; simp at q; omega
      · exact e
    have hj := h.full hs q
    have hsum : sumP ps = b.length := by rw [← jnP_len, hj]
    rw [if_pos ⟨by omega, by omega, hsum, by rw [hj]⟩, if_pos q, hj]
  · rw [if_neg q, if_neg]
    rintro ⟨q1, q2, _⟩
    rcases h.kk with ⟨_, e⟩ | e
    · omega
    · exact q (by omega)
/-- A piece of other bytes. -/
theorem put_other {b c : List UInt8} {size k : Nat} {ps : List (Nat × List UInt8)} (hs : 0 < size) (hc : c.length ≤ 1048576) {i : Nat} (hi : i < pkM c.length size) (hne : ¬ (M.crc c = M.crc b ∧ c.length = b.length)) :
    bxPut (M.crc b) b.length k ps (pkR (pkI c size i)) = ((k, ps), 140) := by
  rw [pkR_I c size i hs hc hi]
  have hbl : blg (M.crc b) b.length k ps (M.crc c) c.length (pkM c.length size) i (pkP c size i) = false := by
    unfold blg
    rw [if_pos hne]
  unfold bxPut
  simp only [hbl]
  simp
end Go.Proofs.Ytlajncjamafomaa
