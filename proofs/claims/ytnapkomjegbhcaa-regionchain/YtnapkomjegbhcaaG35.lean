/- One region of a chain taken into its neighbour: what becomes of the list. -/
import Derived.Test.YtnapkomjegbhcaaG34
import Derived.Deep.CutRange
namespace Go.Proofs.Ytnapkomjegbhcaa
open Go.RowKit
set_option linter.unusedVariables false
set_option maxRecDepth 100000

/-- The region that Merge makes of two. -/
def mrg (r q : Rg) (sv ev pv : Value) : Rg := ⟨r.id, UInt64.ofNat (max r.vr.toNat q.vr.toNat + 1), if flw q.s r.e then r.s else q.s, if flw q.s r.e then q.e else r.e, r.a, r.b, r.c, sv, ev, pv⟩
theorem mrg_vr {r q : Rg} {sv ev pv : Value} (h1 : r.vr.toNat ≤ 1000000) (h2 : q.vr.toNat ≤ 1000000) : (mrg r q sv ev pv).vr.toNat = max r.vr.toNat q.vr.toNat + 1 := by
  show (UInt64.ofNat _).toNat = _
  rw [UInt64.toNat_ofNat_of_lt' (by simp [UInt64.size]; omega)]
theorem cmg_flw {id id' vr vr' : UInt64} {s e t f : List UInt8} {ps qs : List Pe} (h : cmgE id id' vr vr' s e t f ps qs = 0) : flw s f = true ∨ flw t e = true := by
  unfold cmgE at h
  split at h
  · rename_i q; exact absurd h q
  · split at h
    · rename_i q; exact absurd h q
    · split at h
      · cases h
      · split at h
        · cases h
        · rename_i q
          cases h1 : flw s f <;> cases h2 : flw t e <;> simp_all
theorem map_eraseG {α β : Type} (f : α → β) : ∀ (l : List α) (k : Nat), (l.eraseIdx k).map f = (l.map f).eraseIdx k
  | [], _ => rfl
  | x :: l, 0 => rfl
  | x :: l, k + 1 => by simp [List.eraseIdx_cons_succ, map_eraseG f l k]
section
variable {B N V : Nat} {v : Value} {rs : List Rg} {w w' : World}
theorem CI.merge_prt (h : CI B N V v rs w) {i k : Nat} (hi : i < rs.length) (hk : k < rs.length) (hik : i ≠ k) (hf : flw rs[i].s rs[k].e = true ∨ flw rs[k].s rs[i].e = true) (sv ev pv : Value) :
    Prt (((rs.set i (mrg rs[i] rs[k] sv ev pv)).eraseIdx k).map Rg.r3) := by
  have hm : ((rs.set i (mrg rs[i] rs[k] sv ev pv)).eraseIdx k).map Rg.r3 = ((rs.map Rg.r3).set i ((mrg rs[i] rs[k] sv ev pv).v6, if flw rs[k].s rs[i].e then rs[i].s else rs[k].s, if flw rs[k].s rs[i].e then rs[k].e else rs[i].e)).eraseIdx k := by
    rw [map_eraseG, List.map_set]
    rfl
  rw [hm]
  have gi : (rs.map Rg.r3)[i]'(by simpa using hi) = rs[i].r3 := by simp
  have gk : (rs.map Rg.r3)[k]'(by simpa using hk) = rs[k].r3 := by simp
  refine Prt.take (by simpa using hi) (by simpa using hk) hik _ _ _ ?_
  have mi : rs[i].r3 ∈ rs.map Rg.r3 := List.mem_map_of_mem (List.getElem_mem hi)
  have mk : rs[k].r3 ∈ rs.map Rg.r3 := List.mem_map_of_mem (List.getElem_mem hk)
  cases hq : flw rs[k].s rs[i].e with
  | true =>
    obtain ⟨q1, q2⟩ := (flw_iff _ _).1 hq
    obtain ⟨l, m, z1, z2⟩ := h.prt.two mi mk q2 q1
    exact ⟨l, m, .inl ⟨by rw [gi, gk]; exact z1, by rw [gi, gk]; exact z2, by rw [gi]; rfl, by rw [gk]; rfl⟩⟩
  | false =>
    have hf' : flw rs[i].s rs[k].e = true := by rcases hf with z | z; exact z; rw [hq] at z; cases z
    obtain ⟨q1, q2⟩ := (flw_iff _ _).1 hf'
    obtain ⟨l, m, z1, z2⟩ := h.prt.two mk mi q2 q1
    exact ⟨l, m, .inr ⟨by rw [gi, gk]; exact z1, by rw [gi, gk]; exact z2, by rw [gk]; rfl, by rw [gi]; rfl⟩⟩
theorem CI.merge_nd (h : CI B N V v rs w) {i k : Nat} (hi : i < rs.length) (q : Rg) (sv ev pv : Value) : (((rs.set i (mrg rs[i] q sv ev pv)).eraseIdx k).map Rg.id).Nodup := by
  rw [map_eraseG, List.map_set]
  have : (rs.map Rg.id).set i (mrg rs[i] q sv ev pv).id = rs.map Rg.id := by
    apply List.ext_getElem?
    intro j
    by_cases hj : j = i
    · subst hj
      rw [List.getElem?_set_self (by simpa using hi), List.getElem?_map, List.getElem?_eq_getElem hi]
      rfl
    · rw [List.getElem?_set_ne (fun e => hj e.symm)]
  rw [this]
  exact h.nd.sublist (List.eraseIdx_sublist _ _)
theorem CI.merge_ok (h : CI B N V v rs w) (hV : V ≤ 1000000) {i k : Nat} (hi : i < rs.length) (hk : k < rs.length) (sv ev pv : Value) : ∀ r ∈ (rs.set i (mrg rs[i] rs[k] sv ev pv)).eraseIdx k, r.Ok N (V + 1) := by
  intro r hr
  have hr2 := List.mem_of_mem_eraseIdx hr
  rcases List.mem_or_eq_of_mem_set hr2 with q | q
  · exact (h.ok r q).mono (Nat.le_refl _) (by omega)
  · subst q
    have oi := h.ok _ (List.getElem_mem hi)
    have ok := h.ok _ (List.getElem_mem hk)
    refine ⟨oi.id0, oi.idn, ?_, ?_, oi.p0, oi.p1, oi.p2, ?_⟩
    · show (if _ then _ else _ : List UInt8).length ≤ 64
      split
      · exact oi.s64
      · exact ok.s64
    · show (if _ then _ else _ : List UInt8).length ≤ 64
      split
      · exact ok.e64
      · exact oi.e64
    · have h1 := oi.vb
      have h2 := ok.vb
      rw [mrg_vr (by omega) (by omega)]
      omega
end
theorem put6R {w : World} {g : Nat} {a0 a1 a2 a3 a4 a5 u0 u1 u2 u3 u4 u5 : Value} {t : TypeId} (h : w.heap[g]? = some (.cells #[a0, a1, a2, a3, a4, a5] t (0, 0))) :
    ((((((w.setCell ⟨g, 0, none⟩ u0).setCell ⟨g, 1, none⟩ u1).setCell ⟨g, 2, none⟩ u2).setCell ⟨g, 3, none⟩ u3).setCell ⟨g, 4, none⟩ u4).setCell ⟨g, 5, none⟩ u5).heap[g]? = some (.cells #[u0, u1, u2, u3, u4, u5] t (0, 0)) := by
  have h0 : (w.setCell ⟨g, 0, none⟩ u0).heap[g]? = some (.cells #[u0, a1, a2, a3, a4, a5] t (0, 0)) := heap_setCell_same _ _ 0 _ _ _ h
  generalize w.setCell ⟨g, 0, none⟩ u0 = w0 at *
  have h1 : (w0.setCell ⟨g, 1, none⟩ u1).heap[g]? = some (.cells #[u0, u1, a2, a3, a4, a5] t (0, 0)) := heap_setCell_same _ _ 1 _ _ _ h0
  generalize w0.setCell ⟨g, 1, none⟩ u1 = w1 at *
  have h2 : (w1.setCell ⟨g, 2, none⟩ u2).heap[g]? = some (.cells #[u0, u1, u2, a3, a4, a5] t (0, 0)) := heap_setCell_same _ _ 2 _ _ _ h1
  generalize w1.setCell ⟨g, 2, none⟩ u2 = w2 at *
  have h3 : (w2.setCell ⟨g, 3, none⟩ u3).heap[g]? = some (.cells #[u0, u1, u2, u3, a4, a5] t (0, 0)) := heap_setCell_same _ _ 3 _ _ _ h2
  generalize w2.setCell ⟨g, 3, none⟩ u3 = w3 at *
  have h4 : (w3.setCell ⟨g, 4, none⟩ u4).heap[g]? = some (.cells #[u0, u1, u2, u3, u4, a5] t (0, 0)) := heap_setCell_same _ _ 4 _ _ _ h3
  generalize w3.setCell ⟨g, 4, none⟩ u4 = w4 at *
  exact heap_setCell_same _ _ 5 _ _ _ h4
theorem put6C (w : World) (g : Nat) (u0 u1 u2 u3 u4 u5 : Value) : Chg (fun b => b = g) w ((((((w.setCell ⟨g, 0, none⟩ u0).setCell ⟨g, 1, none⟩ u1).setCell ⟨g, 2, none⟩ u2).setCell ⟨g, 3, none⟩ u3).setCell ⟨g, 4, none⟩ u4).setCell ⟨g, 5, none⟩ u5) :=
  (((((((Chg.refl (fun b => b = g) w).put g 0 u0 rfl).put g 1 u1 rfl).put g 2 u2 rfl).put g 3 u3 rfl).put g 4 u4 rfl).put g 5 u5 rfl)
end Go.Proofs.Ytnapkomjegbhcaa

/- merged: one region of a chain taken into a neighbour. -/
namespace Go.Proofs.Ytnapkomjegbhcaa
open Go.RowKit
set_option linter.unusedVariables false
set_option maxRecDepth 100000

theorem mask62R (p : Int) : ∃ a : Nat, bits .and .i64 p 4611686018427387903 = (a : Int) ∧ a ≤ 4611686018427387903 := by
  have hle : (BitVec.ofInt 64 p &&& BitVec.ofInt 64 4611686018427387903).toNat ≤ 4611686018427387903 := by
    rw [BitVec.toNat_and, show (BitVec.ofInt 64 4611686018427387903).toNat = 4611686018427387903 by decide]
    exact Nat.and_le_right
  refine ⟨(BitVec.ofInt 64 p &&& BitVec.ofInt 64 4611686018427387903).toNat, ?_, hle⟩
  show IntKind.i64.wrap ((BitVec.ofInt 64 p &&& BitVec.ofInt 64 4611686018427387903).toNat : Int) = _
  rw [IntKind.wrap_i64]
  omega
theorem mask_modR (p : Int) (n : Nat) (hn : 0 < n) : ∃ a : Nat, (bits .and .i64 p 4611686018427387903).tmod (n : Int) = (a : Int) ∧ a < n := by
  obtain ⟨a, e, _⟩ := mask62R p
  rw [e]
  exact ⟨a % n, rfl, Nat.mod_lt _ hn⟩
/-- The six cells of a region in the row. -/
def C6 (g o : Nat) (u : V6) (w : World) : Prop := w.cell? ⟨g, o, none⟩ = some (.int .u64 u.1) ∧ w.cell? ⟨g, o + 1, none⟩ = some u.2.1 ∧ w.cell? ⟨g, o + 2, none⟩ = some u.2.2.1 ∧ w.cell? ⟨g, o + 3, none⟩ = some (.int .u64 u.2.2.2.1) ∧ w.cell? ⟨g, o + 4, none⟩ = some (.int .u64 u.2.2.2.2.1) ∧ w.cell? ⟨g, o + 5, none⟩ = some u.2.2.2.2.2
section
variable {B N V : Nat} {v : Value} {rs : List Rg} {w w' : World}
theorem AllR.c6 {g n c : Nat} (h : AllR B (.slice (some ⟨g, 0, none⟩) n c) rs w) {i : Nat} {r : Rg} (hr : rs[i]? = some r) : C6 g (i * 6) r.v6 w := by
  obtain ⟨ao, c', e, h1, h2, h3⟩ := h.rds
  simp only [Value.slice.injEq] at e
  obtain ⟨_, a, ea, hat⟩ := h3 i r.r3 (by rw [List.getElem?_map, hr]; rfl)
  rw [← e.1] at ea
  obtain rfl := Option.some.inj ea
  rw [Addr.add_lit, Nat.zero_add] at hat
  exact hat.six
theorem AllR.froz {g n c : Nat} (h : AllR B (.slice (some ⟨g, 0, none⟩) n c) rs w) (hn : rs ≠ []) (j : Nat) : w.frozen? ⟨g, j, none⟩ = false := by
  obtain ⟨g', c', e, h1, h2, h3, h4, cur, h5, h6, h7⟩ := h.some_ hn
  simp only [Value.slice.injEq, Option.some.injEq, Addr.mk.injEq, and_true] at e
  obtain ⟨rfl, _⟩ := e
  exact frozen_of_row _ _ _ _ _ h5
/-- What Merge answers of two of the chain. -/
theorem CI.merge_call (h : CI B N V v rs w) (hV : V ≤ 1000000) {i k : Nat} (hi : i < rs.length) (hk : k < rs.length) :
    (cmgE rs[i].id rs[k].id rs[i].vr rs[k].vr rs[i].s rs[i].e rs[k].s rs[k].e rs[i].pe rs[k].pe ≠ 0 → ∀ W, Below w.heap.size w W → Calls Try.prog 10 #[.agg #[.int .u64 (rs[i].id.toNat : Int), rs[i].sv, rs[i].ev, .int .u64 1, .int .u64 (rs[i].vr.toNat : Int), rs[i].pv], .agg #[.int .u64 (rs[k].id.toNat : Int), rs[k].sv, rs[k].ev, .int .u64 1, .int .u64 (rs[k].vr.toNat : Int), rs[k].pv]] W fun x w' => ∃ ce : Int, ce ≠ 0 ∧ x = .returned (.tuple #[.agg #[.int .u64 0, .slice none 0 0, .slice none 0 0, .int .u64 0, .int .u64 0, .slice none 0 0], .int .i64 ce]) ∧ Below W.heap.size W w') ∧
    (cmgE rs[i].id rs[k].id rs[i].vr rs[k].vr rs[i].s rs[i].e rs[k].s rs[k].e rs[i].pe rs[k].pe = 0 → ∀ W, Below w.heap.size w W → Calls Try.prog 10 #[.agg #[.int .u64 (rs[i].id.toNat : Int), rs[i].sv, rs[i].ev, .int .u64 1, .int .u64 (rs[i].vr.toNat : Int), rs[i].pv], .agg #[.int .u64 (rs[k].id.toNat : Int), rs[k].sv, rs[k].ev, .int .u64 1, .int .u64 (rs[k].vr.toNat : Int), rs[k].pv]] W fun x w' => ∃ a1 n1 c1 a2 n2 c2 a3 n3 c3, x = .returned (.tuple #[.agg #[.int .u64 (rs[i].id.toNat : Int), .slice a1 n1 c1, .slice a2 n2 c2, .int .u64 1, .int .u64 ((mrg rs[i] rs[k] (.slice a1 n1 c1) (.slice a2 n2 c2) (.slice a3 n3 c3)).vr.toNat : Int), .slice a3 n3 c3], .int .i64 0]) ∧ OwR W.heap.size w' (.slice a1 n1 c1) (.slice a2 n2 c2) (.slice a3 n3 c3) (mrg rs[i] rs[k] (.slice a1 n1 c1) (.slice a2 n2 c2) (.slice a3 n3 c3)).s (mrg rs[i] rs[k] (.slice a1 n1 c1) (.slice a2 n2 c2) (.slice a3 n3 c3)).e rs[i].pe ∧ Below W.heap.size W w') := by
  have oi := h.all.own _ (List.getElem_mem hi)
  have ok := h.all.own _ (List.getElem_mem hk)
  have ki := h.ok _ (List.getElem_mem hi)
  have kk := h.ok _ (List.getElem_mem hk)
  have hm := fun W (hW : Below w.heap.size w W) => merge_any (id := rs[i].id) (vr := rs[i].vr) (id' := rs[k].id) (vr' := rs[k].vr) (cf := 1) (cf' := 1) (oi.s.rd.below hW (Nat.le_refl _)) (oi.e.rd.below hW (Nat.le_refl _)) (oi.p.rd.below hW (Nat.le_refl _)) (ok.s.rd.below hW (Nat.le_refl _)) (ok.e.rd.below hW (Nat.le_refl _)) (ok.p.rd.below hW (Nat.le_refl _)) (by rw [Rg.pe, Rg.pe, se3, se3]) (by rw [Rg.pe]; exact se3_rise _ _ _) (by simp [Rg.pe, pe3]) (by simp [Rg.pe, pe3]) (by have := ki.s64; omega) (by have := ki.e64; omega) (by have := kk.s64; omega) (by have := kk.e64; omega)
  constructor
  · intro hce W hW
    refine (hm W hW).mono ?_
    rintro x w' (⟨q1, q2, q3⟩ | ⟨q1, _⟩)
    · exact ⟨_, q1, q2, q3⟩
    · exact absurd q1 hce
  · intro hce W hW
    refine (hm W hW).mono ?_
    rintro x w' (⟨q1, _⟩ | ⟨q1, sv, ev, pv, q2, q3, q4⟩)
    · exact absurd hce q1
    · obtain ⟨a1, c1, e1⟩ := q3.s.rd.shp
      obtain ⟨a2, c2, e2⟩ := q3.e.rd.shp
      obtain ⟨a3, c3, e3⟩ := q3.p.shape
      subst e1
      subst e2
      subst e3
      refine ⟨_, _, _, _, _, _, _, _, _, ?_, q3, q4⟩
      rw [mrg_vr (by have := ki.vb; omega) (by have := kk.vb; omega)]
      exact q2
end
end Go.Proofs.Ytnapkomjegbhcaa
