/- The regions of RegionChain in memory: a row of the law's own, each with lists of its own. -/
import Derived.Test.YtnapkomjegbhcaaG31
import Derived.Test.YtnapkomjegbhcaaG32
import Derived.Test.YtnapkomjegbhcaaG18
import Derived.Test.YtnapkomjegbhcaaG22
namespace Go.Proofs.Ytnapkomjegbhcaa
open Go.RowKit
set_option linter.unusedVariables false
set_option maxRecDepth 100000

/-- A region: its numbers, its range, its peers' numbers, where its lists lie. -/
structure Rg where
  id : UInt64
  vr : UInt64
  s : List UInt8
  e : List UInt8
  a : UInt64
  b : UInt64
  c : UInt64
  sv : Value
  ev : Value
  pv : Value
def Rg.v6 (r : Rg) : V6 := ((r.id.toNat : Int), r.sv, r.ev, 1, (r.vr.toNat : Int), r.pv)
def Rg.r3 (r : Rg) : R3 := (r.v6, r.s, r.e)
def Rg.pe (r : Rg) : List Pe := pe3 r.a r.b r.c
structure Rg.Ok (N V : Nat) (r : Rg) : Prop where
  id0 : r.id ≠ 0
  idn : r.id.toNat < N
  s64 : r.s.length ≤ 64
  e64 : r.e.length ≤ 64
  p0 : 0 < r.a
  p1 : r.a < r.b
  p2 : r.b < r.c
  vb : r.vr.toNat ≤ V
theorem Rg.Ok.mono {N V N' V' : Nat} {r : Rg} (h : r.Ok N V) (hN : N ≤ N') (hV : V ≤ V') : r.Ok N' V' := ⟨h.id0, Nat.lt_of_lt_of_le h.idn hN, h.s64, h.e64, h.p0, h.p1, h.p2, Nat.le_trans h.vb hV⟩
structure AllR (B : Nat) (v : Value) (rs : List Rg) (w : World) : Prop where
  row : w.ownsRow B 34 6 v rs.length (c6s (rs.map Rg.v6))
  own : ∀ r ∈ rs, OwR B w r.sv r.ev r.pv r.s r.e r.pe
  ap : ∀ r ∈ rs, ∀ b, Bl r.sv r.ev r.pv b → v.ownBlock ≠ some b
theorem OwR.itR {B : Nat} {w : World} {r : Rg} (h : OwR B w r.sv r.ev r.pv r.s r.e r.pe) : It w r.r3 := by
  refine ⟨h.s.rd, h.e.rd, ?_⟩
  obtain ⟨a, c, e⟩ := h.p.shape
  exact ⟨a, _, c, e⟩
theorem fm_get6 {us : List V6} {i j : Nat} {u : V6} {x : Value} (hi : us[i]? = some u) (hj : (c6 u)[j]? = some x) : (c6s us)[i * 6 + j]? = some x := by
  have hj6 : j < 6 := (List.getElem?_eq_some_iff.1 hj).1
  induction us generalizing i with
  | nil => simp at hi
  | cons y us ih =>
    have e : c6s (y :: us) = c6 y ++ c6s us := by simp [c6s]
    rw [e]
    cases i with
    | zero =>
      simp at hi; subst hi
      rw [List.getElem?_append_left (by rw [c6_len]; omega)]
      simpa using hj
    | succ i =>
      rw [List.getElem?_append_right (by rw [c6_len]; omega), c6_len]
      have := ih (i := i) (by simpa using hi)
      rw [show (i + 1) * 6 + j - 6 = i * 6 + j by omega]
      exact this
section
variable {B : Nat} {v : Value} {rs : List Rg} {w w' : World}
theorem AllR.keptC {S : Nat → Prop} (h : AllR B v rs w) (hc : Chg S w w') (h1 : ∀ b, v.ownBlock = some b → ¬ S b) (h2 : ∀ r ∈ rs, ∀ b, Bl r.sv r.ev r.pv b → ¬ S b) : AllR B v rs w' :=
  ⟨ownsRow_keptC h.row hc h1, fun r hr => (h.own r hr).keptB hc (h2 r hr), h.ap⟩
theorem AllR.below {C : Nat} (h : AllR B v rs w) (hb : Below C w w') (hC : w.heap.size ≤ C) : AllR B v rs w' :=
  ⟨ownsRow_belP h.row hb hC, fun r hr => (h.own r hr).below hb hC, h.ap⟩
theorem AllR.some_ (h : AllR B v rs w) (hn : rs ≠ []) : ∃ g c, v = .slice (some ⟨g, 0, none⟩) rs.length c ∧ rs.length ≤ c ∧ c ≤ maxLen ∧ B ≤ g ∧ g < w.heap.size ∧ ∃ cur, w.heap[g]? = some (.cells cur 34 (0, 0)) ∧ cur.size = c * 6 ∧ cur.toList.take (rs.length * 6) = c6s (rs.map Rg.v6) := by
  rcases h.row.2 with ⟨_, q⟩ | ⟨g, cap, cur, e, hg, hh, h1, h2, h3, h4⟩
  · exact absurd (List.length_eq_zero_iff.1 q) hn
  · exact ⟨g, cap, e, h1, h2, hg, (Array.getElem?_eq_some_iff.1 hh).1, cur, hh, h3, h4⟩
theorem AllR.rds (h : AllR B v rs w) : RdRs w v (rs.map Rg.r3) := by
  by_cases hn : rs = []
  · subst hn
    rcases h.row.2 with ⟨q, _⟩ | ⟨g, cap, cur, e, hg, hh, h1, h2, h3, h4⟩
    · exact ⟨none, 0, q, by simp, by simp, fun i r hi => by simp at hi⟩
    · exact ⟨_, cap, e, by simp, h2, fun i r hi => by simp at hi⟩
  · obtain ⟨g, c, e, h1, h2, h3, h4, cur, h5, h6, h7⟩ := h.some_ hn
    refine ⟨some ⟨g, 0, none⟩, c, by rw [List.length_map]; exact e, by rw [List.length_map]; exact h1, h2, fun i r hi => ?_⟩
    rw [List.getElem?_map] at hi
    cases hr : rs[i]? with
    | none => rw [hr] at hi; cases hi
    | some r0 =>
      rw [hr] at hi
      obtain rfl := Option.some.inj hi
      have hil := (List.getElem?_eq_some_iff.1 hr).1
      refine ⟨(h.own r0 (List.mem_of_getElem? hr)).itR, _, rfl, fun j x hx => ?_⟩
      have hj6 : j < 6 := (List.getElem?_eq_some_iff.1 hx).1
      have hv : (c6s (rs.map Rg.v6))[i * 6 + j]? = some x := fm_get6 (by rw [List.getElem?_map, hr]; rfl) hx
      rw [← h7, List.getElem?_take, if_pos (by omega)] at hv
      have hcell : w.cell? ⟨g, i * 6 + j, none⟩ = some x := by
        rw [cell_of_row _ _ _ _ _ _ h5]; simpa using hv
      rw [Addr.add_lit, Nat.zero_add]
      by_cases hj : j = 0
      · subst hj; exact hcell
      · rw [if_neg hj]; exact hcell
end
end Go.Proofs.Ytnapkomjegbhcaa

/- The row of regions: one set in place, some put behind. -/
namespace Go.Proofs.Ytnapkomjegbhcaa
open Go.RowKit
set_option linter.unusedVariables false
set_option maxRecDepth 100000

theorem heap_setCellsR (g : Nat) (t : TypeId) : ∀ (vs : List Value) (o : Nat) (w : World) (cur : Array Value), w.heap[g]? = some (.cells cur t (0, 0)) → o + vs.length ≤ cur.size → ∃ cur' : Array Value, (w.setCells g o vs).heap[g]? = some (.cells cur' t (0, 0)) ∧ cur'.size = cur.size ∧ ∀ j, cur'[j]? = if o ≤ j ∧ j < o + vs.length then vs[j - o]? else cur[j]?
  | [], o, w, cur, h, _ => ⟨cur, h, rfl, fun j => by rw [if_neg (by simp)]⟩
  | v :: r, o, w, cur, h, hl => by
    simp only [List.length_cons] at hl
    have h1 : (w.setCell ⟨g, o, none⟩ v).heap[g]? = some (.cells (cur.setIfInBounds o v) t (0, 0)) := heap_setCell_same _ _ o _ _ _ h
    obtain ⟨cur', q1, q2, q3⟩ := heap_setCellsR g t r (o + 1) (w.setCell ⟨g, o, none⟩ v) (cur.setIfInBounds o v) h1 (by rw [Array.size_setIfInBounds]; omega)
    refine ⟨cur', q1, by rw [q2, Array.size_setIfInBounds], fun j => ?_⟩
    rw [q3 j]
    by_cases h2 : o + 1 ≤ j ∧ j < o + 1 + r.length
    · rw [if_pos h2, if_pos (by simp only [List.length_cons]; omega)]
      rw [show j - o = (j - (o + 1)) + 1 by omega, List.getElem?_cons_succ]
    · rw [if_neg h2]
      by_cases h3 : j = o
      · subst h3
        rw [if_pos (by simp), Array.getElem?_setIfInBounds_self_of_lt (by omega)]
        simp
      · rw [if_neg (by simp only [List.length_cons]; omega), Array.getElem?_setIfInBounds_ne (by omega)]
theorem chg_setCellsR (g : Nat) (vs : List Value) : ∀ (o : Nat) (w : World), Chg (fun b => b = g) w (w.setCells g o vs) := by
  induction vs with
  | nil => exact fun o w => Chg.refl _ _
  | cons v r ih => exact fun o w => ((Chg.refl (fun b => b = g) w).put g o v rfl).trans ((ih (o + 1) _).mono (fun b _ q => .inl q))
theorem c6s_get : ∀ (us : List V6) (j : Nat), (c6s us)[j]? = (us[j / 6]?).bind (fun u => (c6 u)[j % 6]?) := by
  intro us
  induction us with
  | nil => intro j; simp [c6s]
  | cons y us ih =>
    intro j
    have e : c6s (y :: us) = c6 y ++ c6s us := by simp [c6s]
    rw [e]
    by_cases hj : j < 6
    · rw [List.getElem?_append_left (by rw [c6_len]; omega), Nat.div_eq_of_lt hj, Nat.mod_eq_of_lt hj]
      simp
    · rw [List.getElem?_append_right (by rw [c6_len]; omega), c6_len, ih (j - 6)]
      have h1 : j / 6 = (j - 6) / 6 + 1 := by omega
      have h2 : j % 6 = (j - 6) % 6 := by omega
      rw [h1, h2, List.getElem?_cons_succ]
theorem c6s_set (us : List V6) (k : Nat) (u : V6) (hk : k < us.length) (j : Nat) : (c6s (us.set k u))[j]? = if k * 6 ≤ j ∧ j < k * 6 + (c6 u).length then (c6 u)[j - k * 6]? else (c6s us)[j]? := by
  rw [c6s_get, c6s_get, c6_len]
  by_cases h : k * 6 ≤ j ∧ j < k * 6 + 6
  · rw [if_pos h]
    have h1 : j / 6 = k := by omega
    have h2 : j % 6 = j - k * 6 := by omega
    rw [h1, h2, List.getElem?_set_self hk]
    rfl
  · rw [if_neg h]
    have h1 : j / 6 ≠ k := by omega
    rw [List.getElem?_set_ne (by omega)]
theorem c6s_length (us : List V6) : (c6s us).length = us.length * 6 := c6s_len us
section
variable {B : Nat} {v : Value} {rs : List Rg} {w w' : World}
/-- A region set in place. -/
theorem AllR.put {g c k : Nat} (h : AllR B (.slice (some ⟨g, 0, none⟩) rs.length c) rs w) (hk : k < rs.length) (r : Rg) (ho : OwR B w r.sv r.ev r.pv r.s r.e r.pe) (hb : ∀ b, Bl r.sv r.ev r.pv b → b ≠ g) :
    AllR B (.slice (some ⟨g, 0, none⟩) rs.length c) (rs.set k r) (w.setCells g (k * 6) (c6 r.v6)) ∧ Chg (fun b => b = g) w (w.setCells g (k * 6) (c6 r.v6)) := by
  have hch := chg_setCellsR g (c6 r.v6) (k * 6) w
  have hne : rs ≠ [] := fun e => by rw [e] at hk; simp at hk
  obtain ⟨g', c', e, h1, h2, h3, h4, cur, h5, h6, h7⟩ := h.some_ hne
  simp only [Value.slice.injEq, Option.some.injEq, Addr.mk.injEq, and_true, true_and] at e
  obtain ⟨rfl, rfl⟩ := e
  obtain ⟨cur', q1, q2, q3⟩ := heap_setCellsR g 34 (c6 r.v6) (k * 6) w cur h5 (by rw [c6_len]; omega)
  have hap : ∀ x ∈ rs.set k r, x ∈ rs ∨ x = r := fun x hx => List.mem_or_eq_of_mem_set hx
  refine ⟨⟨⟨?_, .inr ⟨g, c, cur', ?_, h3, q1, ?_, h2, by rw [q2]; exact h6, ?_⟩⟩, fun x hx => ?_, fun x hx b hbl => ?_⟩, hch⟩
  · rw [c6s_len, List.length_map]
  · rw [List.length_set]
  · simp; exact h1
  · apply List.ext_getElem?
    intro j
    rw [List.map_set, c6s_set _ _ _ (by simpa using hk), List.getElem?_take, List.length_set]
    by_cases hj : j < rs.length * 6
    · rw [if_pos hj]
      have := q3 j
      rw [Array.getElem?_toList, this]
      by_cases hz : k * 6 ≤ j ∧ j < k * 6 + (c6 r.v6).length
      · rw [if_pos hz, if_pos hz]
      · rw [if_neg hz, if_neg hz, ← h7, List.getElem?_take, if_pos hj, Array.getElem?_toList]
    · rw [if_neg hj, if_neg (by rw [c6_len]; omega)]
      exact (List.getElem?_eq_none (by rw [c6s_len]; simp; omega)).symm
  · rcases hap x hx with q | q
    · exact (h.own x q).keptB hch (fun b hbl z => h.ap x q b hbl (by rw [z]; rfl))
    · subst q
      exact ho.keptB hch (fun b hbl z => hb b hbl z)
  · rcases hap x hx with q | q
    · exact h.ap x q b hbl
    · subst q
      exact fun z => hb b hbl (Option.some.inj z).symm
end
theorem Try.infoRg : (Try.prog.info? 34).map (fun i => (i.zero, i.size, i.bytes)) = some (some (.agg #[.int .u64 0, .slice none 0 0, .slice none 0 0, .int .u64 0, .int .u64 0, .slice none 0 0]), 6, 96) := by kernel_rfl
theorem wpList_appRg {w : World} {ops : Array Oper} {rest : List Oper} {o : Oper} {a : Act} {Q : Exit → Act → World → Prop} (hgd : o.guard = none) (s x : Operand)
    (ho : o.op = .call { callee := .builtin .append, args := #[s, x], argTypes := #[26, 26] })
    (B : Nat) (v : Value) (us : List V6) (hs : a.eval s = v) (hown : w.ownsRow B 34 6 v us.length (c6s us)) (ad : Addr) (m c : Nat) (ms : List V6) (hm : ms.length = m) (hx : a.eval x = .slice (some ad) m c)
    (hnews : ∀ j u, (c6s ms)[j]? = some u → w.cell? (ad.add j) = some u) (hone : ∀ u ∈ c6s ms, u.oneCell' = true) (hB : B ≤ w.heap.size) (hlen : us.length + m ≤ 1099511627776)
    (h : ∀ v' w', w'.ownsRow B 34 6 v' (us ++ ms).length (c6s (us ++ ms)) → w.grownBy w' v.ownBlock → (v'.ownBlock = v.ownBlock ∨ v'.ownBlock = some w.heap.size) → wpList Try.prog ops Q rest (a.put o.dst v') w') : wpList Try.prog ops Q (o :: rest) a w := by
  refine wpList_plain hgd fun K hK => ?_
  obtain ⟨v', w', hr, q2, q3, q4⟩ := run_appW (P := Try.prog) w B 26 o.type 34 _ 6 96 Try.underlying26 Try.infoRg rfl (by decide) v us.length (c6s us) hown ad m c (c6s ms) (by rw [c6s_len, hm]) hnews hone (by unfold maxLen; omega) (by omega) hB
  unfold Oper.wp execOp
  simp only [ho, resolve, invoke, builtin, Sem.run_bind, Sem.run_pure, Result.andThen_ok, List.map_toArray, List.map_cons, List.map_nil, hs, hx, hr]
  refine hK _ _ (h v' w' ?_ q3 q4)
  rw [c6s_app, List.length_append, hm]
  exact q2
theorem c6s_one {B : Nat} {w : World} {rs : List Rg} (h : ∀ r ∈ rs, OwR B w r.sv r.ev r.pv r.s r.e r.pe) : ∀ u ∈ c6s (rs.map Rg.v6), u.oneCell' = true := by
  intro u hu
  unfold c6s at hu
  rw [List.mem_flatMap] at hu
  obtain ⟨x, hx, hu⟩ := hu
  obtain ⟨r, hr, rfl⟩ := List.mem_map.1 hx
  exact (h r hr).itR.one u hu
end Go.Proofs.Ytnapkomjegbhcaa
