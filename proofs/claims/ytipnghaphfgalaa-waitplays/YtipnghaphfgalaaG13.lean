/- Plain mathematics of a graph's edges and of ways looked for by a queue. No program is named here. -/
namespace Go.Proofs.Ytipnghaphfgalaa.W
set_option linter.unusedVariables false

abbrev E1 := UInt64 × UInt64
/-- Does edge a stand ahead of b? -/
def elt (a b : E1) : Prop := a.1.toNat < b.1.toNat ∨ (a.1.toNat = b.1.toNat ∧ a.2.toNat < b.2.toNat)
instance (a b : E1) : Decidable (elt a b) := by unfold elt; exact inferInstance
theorem elt_irr (a : E1) : ¬ elt a a := by unfold elt; omega
theorem elt_trans {a b c : E1} (h : elt a b) (k : elt b c) : elt a c := by unfold elt at *; omega
theorem elt_asy {a b : E1} (h : elt a b) : ¬ elt b a := by unfold elt at *; omega
theorem elt_tot {a b : E1} (h : ¬ elt a b) (k : ¬ elt b a) : a = b := by
  unfold elt at *
  exact Prod.ext (UInt64.toNat_inj.1 (by omega)) (UInt64.toNat_inj.1 (by omega))
/-- The edges rise. -/
def Ris (E : List E1) : Prop := E.Pairwise elt
theorem Ris.nodup {E : List E1} (h : Ris E) : E.Nodup := h.imp (fun q e => by subst e; exact elt_irr _ q)

/-- The place of an edge in edges that rise. -/
def pl : List E1 → E1 → Nat
  | [], _ => 0
  | x :: r, e => if elt x e then pl r e + 1 else 0
theorem pl_le (E : List E1) (e : E1) : pl E e ≤ E.length := by
  induction E with
  | nil => exact Nat.le_refl _
  | cons x r ih => simp only [pl]; split <;> simp <;> omega
theorem pl_lt {E : List E1} {e : E1} {i : Nat} {x : E1} (h : i < pl E e) (hx : E[i]? = some x) : elt x e := by
  induction E generalizing i with
  | nil => simp at hx
  | cons y r ih =>
    simp only [pl] at h
    split at h
    · cases i with
      | zero => simp at hx; subst hx; assumption
      | succ i => exact ih (i := i) (by omega) (by simpa using hx)
    · omega
theorem pl_ge {E : List E1} {e : E1} {x : E1} (hx : E[pl E e]? = some x) : ¬ elt x e := by
  induction E with
  | nil => simp at hx
  | cons y r ih =>
    simp only [pl] at hx
    split at hx
    · exact ih (by simpa using hx)
    · simp at hx; subst hx; assumption
theorem pl_eq {E : List E1} {e : E1} {i : Nat} (h1 : ∀ k x, k < i → E[k]? = some x → elt x e) (h2 : ∀ x, E[i]? = some x → ¬ elt x e) (h3 : i ≤ E.length) : pl E e = i := by
  rcases Nat.lt_trichotomy (pl E e) i with q | q | q
  · have hl : pl E e < E.length := by omega
    exact absurd (h1 _ _ q (List.getElem?_eq_getElem hl)) (pl_ge (List.getElem?_eq_getElem hl))
  · exact q
  · have hl : i < E.length := by have := pl_le E e; omega
    exact absurd (pl_lt q (List.getElem?_eq_getElem hl)) (h2 _ (List.getElem?_eq_getElem hl))
/-- Is the edge there? -/
def is (E : List E1) (e : E1) : Bool := E[pl E e]? == some e
theorem mem_pl {E : List E1} (h : Ris E) {e : E1} (he : e ∈ E) : E[pl E e]? = some e := by
  obtain ⟨i, hi, rfl⟩ := List.mem_iff_getElem.1 he
  have : pl E E[i] = i := pl_eq (fun k x hk hx => by
      have hk2 : k < E.length := by omega
      rw [List.getElem?_eq_getElem hk2] at hx
      obtain rfl := Option.some.inj hx
      exact List.pairwise_iff_getElem.1 h k i hk2 hi hk) (fun x hx => by
      rw [List.getElem?_eq_getElem hi] at hx
      obtain rfl := Option.some.inj hx
      exact elt_irr _) (by omega)
  rw [this, List.getElem?_eq_getElem hi]
theorem is_iff {E : List E1} (h : Ris E) (e : E1) : is E e = true ↔ e ∈ E := by
  unfold is
  rw [beq_iff_eq]
  exact ⟨fun q => List.mem_of_getElem? q, mem_pl h⟩
theorem is_false {E : List E1} (h : Ris E) (e : E1) : is E e = false ↔ e ∉ E := by
  rw [← is_iff h e]; simp
/-- One more edge. -/
def ins (E : List E1) (e : E1) : List E1 := E.take (pl E e) ++ e :: E.drop (pl E e)
theorem ins_len (E : List E1) (e : E1) : (ins E e).length = E.length + 1 := by
  have := pl_le E e
  unfold ins; simp; omega
theorem mem_ins {E : List E1} {e x : E1} : x ∈ ins E e ↔ x = e ∨ x ∈ E := by
  unfold ins
  rw [List.mem_append, List.mem_cons]
  constructor
  · rintro (h | h | h)
    · exact .inr (List.mem_of_mem_take h)
    · exact .inl h
    · exact .inr (List.mem_of_mem_drop h)
  · rintro (h | h)
    · exact .inr (.inl h)
    · have : x ∈ E.take (pl E e) ++ E.drop (pl E e) := by rw [List.take_append_drop]; exact h
      rcases List.mem_append.1 this with q | q
      · exact .inl q
      · exact .inr (.inr q)
theorem ris_ins {E : List E1} (h : Ris E) {e : E1} (he : e ∉ E) : Ris (ins E e) := by
  have hlo : ∀ x ∈ E.take (pl E e), elt x e := fun x hx => by
    obtain ⟨k, hk⟩ := List.mem_iff_getElem?.1 hx
    rw [List.getElem?_take] at hk
    split at hk
    · rename_i q; exact pl_lt q hk
    · cases hk
  have hhi : ∀ x ∈ E.drop (pl E e), elt e x := fun x hx => by
    obtain ⟨k, hk⟩ := List.mem_iff_getElem?.1 hx
    rw [List.getElem?_drop] at hk
    have hge : ¬ elt x e := by
      cases k with
      | zero => exact pl_ge (by simpa using hk)
      | succ k =>
        have hl := (List.getElem?_eq_some_iff.1 hk).1
        have h0 := pl_ge (List.getElem?_eq_getElem (show pl E e < E.length by omega))
        have h1 := List.pairwise_iff_getElem.1 h (pl E e) (pl E e + (k + 1)) (by omega) hl (by omega)
        obtain ⟨_, q⟩ := List.getElem?_eq_some_iff.1 hk
        rw [q] at h1
        intro h2
        exact h0 (elt_trans h1 h2)
    refine Decidable.byContradiction fun q => ?_
    have := elt_tot hge q
    subst this
    exact he (List.mem_of_mem_drop hx)
  unfold Ris ins
  rw [List.pairwise_append]
  refine ⟨h.sublist (List.take_sublist _ _), ?_, ?_⟩
  · rw [List.pairwise_cons]
    exact ⟨hhi, h.sublist (List.drop_sublist _ _)⟩
  · intro x hx y hy
    rcases List.mem_cons.1 hy with q | q
    · rw [q]; exact hlo x hx
    · exact elt_trans (hlo x hx) (hhi y q)
theorem ris_filter {E : List E1} (h : Ris E) (p : E1 → Bool) : Ris (E.filter p) := h.filter p
theorem ris_del {E : List E1} (h : Ris E) (k : Nat) : Ris (E.take k ++ E.drop (k + 1)) := by
  refine h.sublist ?_
  have : (E.take k ++ E.drop (k + 1)).Sublist (E.take k ++ E.drop k) := List.Sublist.append (List.Sublist.refl _) (by rw [← List.drop_drop]; exact List.drop_sublist _ _)
  rwa [List.take_append_drop] at this
theorem del_filter {E : List E1} (h : Ris E) {e : E1} {k : Nat} (hk : E[k]? = some e) : E.take k ++ E.drop (k + 1) = E.filter (fun x => !(x == e)) := by
  obtain ⟨hl, rfl⟩ := List.getElem?_eq_some_iff.1 hk
  have hE : E = E.take k ++ E[k] :: E.drop (k + 1) := by rw [← List.drop_eq_getElem_cons hl, List.take_append_drop]
  have hn := h.nodup
  generalize hx : E[k] = x at *
  rw [hE] at hn
  have hn2 := List.nodup_append.1 hn
  have hn3 := List.nodup_cons.1 hn2.2.1
  conv => rhs; rw [hE]
  rw [List.filter_append, List.filter_cons]
  rw [List.filter_eq_self.2 (fun y hy => by
    have := hn2.2.2 y hy x (by simp)
    simpa using this), List.filter_eq_self.2 (fun y hy => by
    have : y ≠ x := fun q => hn3.1 (by rw [← q]; exact hy)
    simpa using this)]
  simp

/-- For whom does x wait? -/
def outs (E : List E1) (x : UInt64) : List UInt64 := (E.filter (fun e => e.1 == x)).map (·.2)
theorem mem_outs {E : List E1} {x y : UInt64} : y ∈ outs E x ↔ (x, y) ∈ E := by
  unfold outs
  rw [List.mem_map]
  constructor
  · rintro ⟨⟨a, b⟩, h, rfl⟩
    obtain ⟨h1, h2⟩ := List.mem_filter.1 h
    simp only [beq_iff_eq] at h2
    subst h2; exact h1
  · intro h
    exact ⟨(x, y), List.mem_filter.2 ⟨h, by simp⟩, rfl⟩
theorem outs_rise {E : List E1} (h : Ris E) (x : UInt64) : (outs E x).Pairwise (fun a b => a.toNat < b.toNat) := by
  unfold outs
  rw [List.pairwise_map]
  have h1 : (E.filter (fun e => e.1 == x)).Pairwise elt := List.Pairwise.filter _ h
  refine h1.imp_of_mem ?_
  intro a b ha hb hab
  have ha := (List.mem_filter.1 ha).2
  have hb := (List.mem_filter.1 hb).2
  simp only [beq_iff_eq] at ha hb
  unfold elt at hab
  rw [ha, hb] at hab
  omega

/-- The ways that go on from w to what is not seen yet are put behind the queue. -/
def exps (w : List UInt64) : List UInt64 → List (List UInt64) → List UInt64 → List (List UInt64) × List UInt64
  | [], q, s => (q, s)
  | y :: r, q, s => if y ∈ s then exps w r q s else exps w r (q ++ [w ++ [y]]) (s ++ [y])
/-- What the search for b answers, when these ways wait in this order and these numbers are seen. -/
inductive Bfs (E : List E1) (b : UInt64) : List (List UInt64) → List UInt64 → Option (List UInt64) → Prop
  | none (s) : Bfs E b [] s none
  | here (w q s) : w.getLast? = some b → Bfs E b (w :: q) s (some w)
  | on (w q s x r) : w.getLast? = some x → x ≠ b → Bfs E b (exps w (outs E x) q s).1 (exps w (outs E x) q s).2 r → Bfs E b (w :: q) s r
theorem Bfs.det {E : List E1} {b : UInt64} {q : List (List UInt64)} {s : List UInt64} {r r' : Option (List UInt64)} (h : Bfs E b q s r) (k : Bfs E b q s r') : r = r' := by
  induction h generalizing r' with
  | none s => cases k; rfl
  | here w q s h =>
    cases k with
    | here _ _ _ _ => rfl
    | on _ _ _ x _ h1 h2 _ => rw [h] at h1; exact absurd (Option.some.inj h1).symm h2
  | on w q s x r h1 h2 h3 ih =>
    cases k with
    | here _ _ _ h => rw [h] at h1; exact absurd (Option.some.inj h1).symm h2
    | on _ _ _ y _ k1 k2 k3 =>
      rw [h1] at k1
      obtain rfl := Option.some.inj k1
      exact ih k3
/-- How many edges lead to what is not seen. -/
def cnt (E : List E1) (s : List UInt64) : Nat := E.countP (fun e => !decide (e.2 ∈ s))
theorem cnt_le (E : List E1) (s : List UInt64) : cnt E s ≤ E.length := List.countP_le_length
theorem cnt_mono (E : List E1) (s : List UInt64) (y : UInt64) : cnt E (s ++ [y]) ≤ cnt E s := by
  refine List.countP_mono_left (fun e _ h => ?_)
  simp only [Bool.not_eq_true', decide_eq_false_iff_not] at *
  exact fun q => h (List.mem_append_left _ q)
theorem cnt_push {E : List E1} {s : List UInt64} {x y : UInt64} (he : (x, y) ∈ E) (hy : y ∉ s) : cnt E (s ++ [y]) + 1 ≤ cnt E s := by
  obtain ⟨l1, l2, rfl⟩ := List.append_of_mem he
  have h1 := cnt_mono l1 s y
  have h2 := cnt_mono l2 s y
  unfold cnt at *
  rw [List.countP_append, List.countP_append, List.countP_cons, List.countP_cons, if_neg (by simp), if_pos (by simp [hy])]
  omega
end Go.Proofs.Ytipnghaphfgalaa.W
