/- The merges: the set of regions that are in an open one, the map of merges by their numbers; isMerging, outcome. -/
import Derived.Test.YtlfdcnojbbigbaaG13
import Derived.Maps.OwnSet
namespace Go.Proofs.Ytlfdcnojbbigbaa
open Go.RowKit Go.Maps
set_option linter.unusedVariables false
set_option linter.unusedSimpArgs false
set_option maxRecDepth 100000

theorem Try.keyedM : Maps.Keyed Try.prog 22 := Maps.int_keyed Try.underlying22
def kM (i : Nat) : Lit := .int .u64 (i : Int)
theorem kM_inj {i j : Nat} (h : kM i = kM j) : i = j := by
  simp only [kM, Lit.int.injEq, true_and] at h
  omega
theorem keyM (i : Nat) (h : i < 18446744073709551616) : keyOf Try.prog 22 (.int .u64 (i : Int)) = some (kM i) :=
  Maps.keyOf_int_mk Try.underlying22 (by simp [Lit.wf, IntKind.min, IntKind.max, IntKind.signed, IntKind.bits]; omega)
theorem Try.zeroE (w : World) : (zeroValue 91).run Try.prog w = .ok (.agg #[]) w := by kernel_rfl
/-- A merge's fourteen cells; how it reads: as itself. -/
def elM : Value → Option (DataW Value × List MemPlace)
  | .agg cs => some (.held (.agg cs), [])
  | _ => none
theorem elM_inv {v : Value} {y : DataW Value × List MemPlace} (h : elM v = some y) : y = (.held v, []) := by
  unfold elM at h
  split at h
  · exact (Option.some.inj h).symm
  · cases h
def zeroM : Value := .agg #[.int .u64 0, .int .u64 0, .slice none 0 0, .slice none 0 0, .int .u64 0, .int .u64 0, .slice none 0 0, .int .u64 0, .slice none 0 0, .slice none 0 0, .int .u64 0, .int .u64 0, .slice none 0 0, .int .i64 0]
theorem Try.zeroMg (w : World) : (zeroValue 64).run Try.prog w = .ok zeroM w := by kernel_rfl

/-- Block m is the set of the numbers that g says, c of them. -/
structure GsI (m n : Nat) (D : DataW Unit) (g : Nat → Bool) (c : Nat) (w : World) : Prop where
  map : w.ownsMap Try.prog 22 unitElem m n D
  has : ∀ x, Maps.has D (kM x) = g x
  size : Maps.size D = c
def Gs (m n : Nat) (g : Nat → Bool) (c : Nat) (w : World) : Prop := ∃ D, GsI m n D g c w
/-- Block m is the map of the merges that f says. -/
structure MmI (m n : Nat) (D : DataW Value) (f : Nat → Option Value) (w : World) : Prop where
  map : w.ownsMap Try.prog 22 elM m n D
  has : ∀ x, Maps.has D (kM x) = (f x).isSome
  at_ : ∀ x v, f x = some v → D.atKey (kM x) (.held zeroM) = .held v
def Mm (m n : Nat) (f : Nat → Option Value) (w : World) : Prop := ∃ D, MmI m n D f w
def gPut (g : Nat → Bool) (k : Nat) : Nat → Bool := fun x => if x = k then true else g x
def gDel (g : Nat → Bool) (k : Nat) : Nat → Bool := fun x => if x = k then false else g x
def mPut (f : Nat → Option Value) (k : Nat) (v : Value) : Nat → Option Value := fun x => if x = k then some v else f x
section
variable {m n c p : Nat} {g : Nat → Bool} {f : Nat → Option Value} {w w' : World} {d : DC}
theorem owM_chg {H : Type} {P : Program} {k : TypeId} {R : Value → Option (DataW H × List MemPlace)} {b : Nat} {D : DataW H} {S : Nat → Prop} (h : w.ownsMap P k R b n D) (hc : Chg S w w') (hb : ¬ S b) : w'.ownsMap P k R b n D := by
  obtain ⟨es, clock, hh, r⟩ := h
  exact ⟨es, clock, by rw [hc.block b (Array.getElem?_eq_some_iff.1 hh).1 hb]; exact hh, r⟩
theorem Gs.next {S : Nat → Prop} (h : Gs m n g c w) (hc : Chg S w w') (hm : ¬ S m) : Gs m n g c w' := by
  obtain ⟨D, h⟩ := h
  exact ⟨D, owM_chg h.map hc hm, h.has, h.size⟩
theorem Mm.next {S : Nat → Prop} (h : Mm m n f w) (hc : Chg S w w') (hm : ¬ S m) : Mm m n f w' := by
  obtain ⟨D, h⟩ := h
  exact ⟨D, owM_chg h.map hc hm, h.has, h.at_⟩
theorem Gs.lt (h : Gs m n g c w) : m < w.heap.size := by obtain ⟨D, h⟩ := h; exact h.map.lt
theorem Mm.lt (h : Mm m n f w) : m < w.heap.size := by obtain ⟨D, h⟩ := h; exact h.map.lt
theorem Gs.below {C : Nat} (h : Gs m n g c w) (hb : Below C w w') (hC : w.heap.size ≤ C) : Gs m n g c w' := h.next (Chg.of_below hb) (fun q => by have := h.lt; omega)
theorem Mm.below {C : Nat} (h : Mm m n f w) (hb : Below C w w') (hC : w.heap.size ≤ C) : Mm m n f w' := h.next (Chg.of_below hb) (fun q => by have := h.lt; omega)
theorem Gs.nem (h : Gs m n g c w) {b : Nat} {cs : Array Value} {t : TypeId} {fr : Nat × Nat} (hb : w.heap[b]? = some (.cells cs t fr)) : b ≠ m := by
  obtain ⟨D, h⟩ := h
  obtain ⟨es, clock, hh, r⟩ := h.map
  rintro rfl
  rw [hb] at hh
  cases hh
theorem Mm.nem (h : Mm m n f w) {b : Nat} {cs : Array Value} {t : TypeId} {fr : Nat × Nat} (hb : w.heap[b]? = some (.cells cs t fr)) : b ≠ m := by
  obtain ⟨D, h⟩ := h
  obtain ⟨es, clock, hh, r⟩ := h.map
  rintro rfl
  rw [hb] at hh
  cases hh
theorem Gs.look (h : Gs m n g c w) {x : Nat} (hx : x < 18446744073709551616) : (Instr.lookup 50 (.map (some m)) (.int .u64 (x : Int)) true).run Try.prog w = .ok (.tuple #[.agg #[], .bool (g x)]) w := by
  obtain ⟨D, h⟩ := h
  obtain ⟨v, qs, hr, hv⟩ := h.map.look_ok (t := 50) Try.keyedM Try.underlying50 (Try.zeroE w) unitElem_mk (keyM x hx)
  rw [hr, (unitElem_inv hv).1, h.has]
theorem Gs.len (h : Gs m n g c w) (ty : TypeId) : (Builtin.len_ #[50] ty #[.map (some m)]).run Try.prog w = .ok (.int .i64 (c : Int)) w := by
  obtain ⟨D, h⟩ := h
  rw [h.map.len Try.underlying50 ty, h.size]
theorem Gs.put (h : Gs m n g c w) {k : Nat} (hk : k < 18446744073709551616) (hn : n < 1048576) : ∃ w2, (Instr.mapUpdate 50 (.map (some m)) (.int .u64 (k : Int)) (.agg #[])).run Try.prog w = .ok () w2 ∧ Gs m (n + 1) (gPut g k) (if g k then c else c + 1) w2 ∧ Chg (fun b => b = m) w w2 := by
  obtain ⟨D, h⟩ := h
  obtain ⟨w2, hr, hown, ht⟩ := h.map.store Try.keyedM Try.underlying50 (by unfold maxLen; omega) (keyM k hk) unitElem_mk
  refine ⟨w2, hr, ⟨_, hown, fun x => ?_, ?_⟩, Chg.of_grown ht.grown (fun b e _ => (Option.some.inj e).symm)⟩
  · unfold gPut
    by_cases e : x = k
    · subst e
      rw [if_pos rfl, Maps.has_put_same h.map.isMap (by trivial)]
    · rw [if_neg e, Maps.has_put_other (fun q => e (kM_inj q))]; exact h.has x
  · rw [Maps.size_put (h.map.tidy Try.keyedM), h.has, h.size]
theorem Gs.drop (h : Gs m n g c w) {k : Nat} (hk : k < 18446744073709551616) (ty : TypeId) : ∃ w2, (Builtin.delete_ #[50, 22] ty #[.map (some m), .int .u64 (k : Int)]).run Try.prog w = .ok (.tuple #[]) w2 ∧ Gs m n (gDel g k) (if g k then c - 1 else c) w2 ∧ Chg (fun b => b = m) w w2 := by
  obtain ⟨D, h⟩ := h
  obtain ⟨w2, hr, hown, ht⟩ := h.map.drop Try.keyedM Try.underlying50 (keyM k hk) ty
  refine ⟨w2, hr, ⟨_, hown, fun x => ?_, ?_⟩, Chg.of_grown ht.grown (fun b e _ => (Option.some.inj e).symm)⟩
  · unfold gDel
    by_cases e : x = k
    · subst e
      rw [if_pos rfl, Maps.has_del_same]
    · rw [if_neg e, Maps.has_del_other (fun q => e (kM_inj q))]; exact h.has x
  · have := Maps.size_del (k := kM k) (h.map.tidy Try.keyedM)
    rw [h.has, h.size] at this
    split <;> simp_all <;> omega
theorem Mm.look (h : Mm m n f w) {x : Nat} (hx : x < 18446744073709551616) : (Instr.lookup 49 (.map (some m)) (.int .u64 (x : Int)) true).run Try.prog w = .ok (.tuple #[(f x).getD zeroM, .bool (f x).isSome]) w := by
  obtain ⟨D, h⟩ := h
  obtain ⟨v, qs, hr, hv⟩ := h.map.look_ok (t := 49) Try.keyedM Try.underlying49 (Try.zeroMg w) (zd := .held zeroM) (zp := []) rfl (keyM x hx)
  rw [hr, h.has]
  cases hf : f x with
  | none =>
    rw [Maps.atKey_of_not_has (by rw [h.has, hf]; rfl)] at hv
    have := elM_inv hv
    simp only [Prod.mk.injEq, DataW.held.injEq] at this
    rw [← this.1]; rfl
  | some u =>
    rw [h.at_ x u hf] at hv
    have := elM_inv hv
    simp only [Prod.mk.injEq, DataW.held.injEq] at this
    rw [← this.1]; rfl
theorem Mm.put (h : Mm m n f w) {k : Nat} (hk : k < 18446744073709551616) (cs : Array Value) (hn : n < 1048576) : ∃ w2, (Instr.mapUpdate 49 (.map (some m)) (.int .u64 (k : Int)) (.agg cs)).run Try.prog w = .ok () w2 ∧ Mm m (n + 1) (mPut f k (.agg cs)) w2 ∧ Chg (fun b => b = m) w w2 := by
  obtain ⟨D, h⟩ := h
  obtain ⟨w2, hr, hown, ht⟩ := h.map.store Try.keyedM Try.underlying49 (by unfold maxLen; omega) (keyM k hk) (show elM (.agg cs) = some (.held (.agg cs), []) from rfl)
  refine ⟨w2, hr, ⟨_, hown, fun x => ?_, fun x v hx => ?_⟩, Chg.of_grown ht.grown (fun b e _ => (Option.some.inj e).symm)⟩
  · unfold mPut
    by_cases e : x = k
    · subst e
      rw [if_pos rfl, Maps.has_put_same h.map.isMap (by trivial)]; rfl
    · rw [if_neg e, Maps.has_put_other (fun q => e (kM_inj q))]; exact h.has x
  · unfold mPut at hx
    by_cases e : x = k
    · subst e
      rw [if_pos rfl] at hx
      obtain rfl := Option.some.inj hx
      rw [Maps.atKey_put_same h.map.isMap (by trivial)]
    · rw [if_neg e] at hx
      rw [Maps.atKey_put_other (fun q => e (kM_inj q))]; exact h.at_ x v hx
theorem isMerging_any (hd : Drv p d w) (h : Gs d.gm n g c w) {x : Nat} (hx : x < 18446744073709551616) :
    Calls Try.prog 50 #[.pointer (some ⟨p, 0, none⟩), .int .u64 (x : Int)] w fun e w' => e = .returned (.bool (g x)) ∧ Below w.heap.size w w' := by
  have p8 : w.cell? ⟨p, 8, none⟩ = some (.map (some d.gm)) := hd.at_ rfl
  have hl := h.look hx
  go_enter Try.func50, Try.ntmps50
  go_wp2_with fail
  go_ret
  exact ⟨rfl, (Below.refl _ w).alloc (Nat.le_refl _) _⟩
theorem outcome_any (b : Bool) (w : World) : Calls Try.prog 51 #[.bool b] w fun e w' => e = .returned (.int .i64 (if b then 2 else 3)) ∧ w' = w := by
  cases b
  all_goals
    go_enter Try.func51, Try.ntmps51
    go_wp2_with fail
    go_ret
    exact ⟨rfl, rfl⟩
end
end Go.Proofs.Ytlfdcnojbbigbaa
