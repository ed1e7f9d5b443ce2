/- The plan's maps: counts by store, regions by number, places by Start. -/
import Derived.Test.YtedfjacmaidhkaaGreatG6
import Derived.Maps.OwnSet
import Derived.Lib.BufferRead
namespace Go.Proofs.YtedfjacmaidhkaaGreat
open Go.RowKit Go.Maps
set_option linter.unusedVariables false
set_option linter.unusedSimpArgs false
set_option maxRecDepth 100000

theorem Tryz.keyedI : Maps.Keyed Tryz.prog 3 := Maps.int_keyed Tryz.underlying3
theorem Tryz.keyedM : Maps.Keyed Tryz.prog 30 := Maps.int_keyed Tryz.underlying30
theorem Tryz.keyedS : Maps.Keyed Tryz.prog 9 := Maps.string_keyed Tryz.underlying9
def kI (i : Int) : Lit := .int .i64 i
def kM (i : Nat) : Lit := .int .u64 (i : Int)
theorem kI_inj {i j : Int} (h : kI i = kI j) : i = j := by simpa only [kI, Lit.int.injEq, true_and] using h
theorem kM_inj {i j : Nat} (h : kM i = kM j) : i = j := by
  simp only [kM, Lit.int.injEq, true_and] at h
  omega
theorem keyI_mk (x : Int) (h : -9223372036854775808 ≤ x ∧ x ≤ 9223372036854775807) : keyOf Tryz.prog 3 (.int .i64 x) = some (kI x) :=
  Maps.keyOf_int_mk Tryz.underlying3 (by simp [Lit.wf, IntKind.min, IntKind.max, IntKind.signed, IntKind.bits]; omega)
theorem keyM (i : Nat) (h : i < 18446744073709551616) : keyOf Tryz.prog 30 (.int .u64 (i : Int)) = some (kM i) :=
  Maps.keyOf_int_mk Tryz.underlying30 (by simp [Lit.wf, IntKind.min, IntKind.max, IntKind.signed, IntKind.bits]; omega)
theorem Tryz.zeroE (w : World) : (zeroValue 90).run Tryz.prog w = .ok (.agg #[]) w := by kernel_rfl
theorem Tryz.zeroI (w : World) : (zeroValue 3).run Tryz.prog w = .ok (.int .i64 0) w := by kernel_rfl
/-- How an int in a map reads. -/
def elI : Value → Option (DataW Unit × List MemPlace)
  | .int .i64 n => some (.lit (.int .i64 n), [])
  | _ => none
theorem elI_inv {v : Value} {n : Int} {ps : List MemPlace} (h : elI v = some (.lit (.int .i64 n), ps)) : v = .int .i64 n := by
  unfold elI at h
  split at h
  · simp only [Option.some.injEq, Prod.mk.injEq, DataW.lit.injEq, Lit.int.injEq, true_and] at h
    rw [h.1]
  · cases h
/-- Block m counts by store. -/
structure ImI (m n : Nat) (D : DataW Unit) (f : Int → Int) (w : World) : Prop where
  map : w.ownsMap Tryz.prog 3 elI m n D
  at_ : ∀ x, D.atKey (kI x) (.lit (.int .i64 0)) = .lit (.int .i64 (f x))
def Im (m n : Nat) (f : Int → Int) (w : World) : Prop := ∃ D, ImI m n D f w
/-- Block m is the set of the numbers that g says. -/
structure GsI (m n : Nat) (D : DataW Unit) (g : Nat → Bool) (w : World) : Prop where
  map : w.ownsMap Tryz.prog 30 unitElem m n D
  has : ∀ x, Maps.has D (kM x) = g x
def Gs (m n : Nat) (g : Nat → Bool) (w : World) : Prop := ∃ D, GsI m n D g w
/-- Block m tells the place of who begins at a key. -/
structure StI (m n : Nat) (D : DataW Unit) (s : List UInt8 → Option Int) (w : World) : Prop where
  map : w.ownsMap Tryz.prog 9 elI m n D
  has : ∀ x, Maps.has D (.string x) = (s x).isSome
  at_ : ∀ x v, s x = some v → D.atKey (.string x) (.lit (.int .i64 0)) = .lit (.int .i64 v)
def St (m n : Nat) (s : List UInt8 → Option Int) (w : World) : Prop := ∃ D, StI m n D s w
def iPut (f : Int → Int) (k v : Int) : Int → Int := fun x => if x = k then v else f x
def gPut (g : Nat → Bool) (k : Nat) : Nat → Bool := fun x => if x = k then true else g x
def sPut (s : List UInt8 → Option Int) (k : List UInt8) (v : Int) : List UInt8 → Option Int := fun x => if x = k then some v else s x
section
variable {m n : Nat} {f : Int → Int} {g : Nat → Bool} {s : List UInt8 → Option Int} {w w' : World}
theorem owM_chg {H : Type} {P : Program} {k : TypeId} {R : Value → Option (DataW H × List MemPlace)} {b : Nat} {D : DataW H} {S : Nat → Prop} (h : w.ownsMap P k R b n D) (hc : Chg S w w') (hb : ¬ S b) : w'.ownsMap P k R b n D := by
  obtain ⟨es, clock, hh, r⟩ := h
  exact ⟨es, clock, by rw [hc.block b (Array.getElem?_eq_some_iff.1 hh).1 hb]; exact hh, r⟩
theorem Im.next {S : Nat → Prop} (h : Im m n f w) (hc : Chg S w w') (hm : ¬ S m) : Im m n f w' := by
  obtain ⟨D, h⟩ := h
  exact ⟨D, owM_chg h.map hc hm, h.at_⟩
theorem Gs.next {S : Nat → Prop} (h : Gs m n g w) (hc : Chg S w w') (hm : ¬ S m) : Gs m n g w' := by
  obtain ⟨D, h⟩ := h
  exact ⟨D, owM_chg h.map hc hm, h.has⟩
theorem St.next {S : Nat → Prop} (h : St m n s w) (hc : Chg S w w') (hm : ¬ S m) : St m n s w' := by
  obtain ⟨D, h⟩ := h
  exact ⟨D, owM_chg h.map hc hm, h.has, h.at_⟩
theorem Im.lt (h : Im m n f w) : m < w.heap.size := by obtain ⟨D, h⟩ := h; exact h.map.lt
theorem Gs.lt (h : Gs m n g w) : m < w.heap.size := by obtain ⟨D, h⟩ := h; exact h.map.lt
theorem St.lt (h : St m n s w) : m < w.heap.size := by obtain ⟨D, h⟩ := h; exact h.map.lt
theorem Im.below {C : Nat} (h : Im m n f w) (hb : Below C w w') (hC : w.heap.size ≤ C) : Im m n f w' := h.next (Chg.of_below hb) (fun q => by have := h.lt; omega)
theorem Gs.below {C : Nat} (h : Gs m n g w) (hb : Below C w w') (hC : w.heap.size ≤ C) : Gs m n g w' := h.next (Chg.of_below hb) (fun q => by have := h.lt; omega)
theorem St.below {C : Nat} (h : St m n s w) (hb : Below C w w') (hC : w.heap.size ≤ C) : St m n s w' := h.next (Chg.of_below hb) (fun q => by have := h.lt; omega)
theorem own_nem {H : Type} {P : Program} {k : TypeId} {R : Value → Option (DataW H × List MemPlace)} {D : DataW H} (h : w.ownsMap P k R m n D) {b : Nat} {cs : Array Value} {t : TypeId} {fr : Nat × Nat} (hb : w.heap[b]? = some (.cells cs t fr)) : b ≠ m := by
  obtain ⟨es, clock, hh, r⟩ := h
  rintro rfl
  rw [hb] at hh
  cases hh
theorem Im.nem (h : Im m n f w) {b : Nat} {cs : Array Value} {t : TypeId} {fr : Nat × Nat} (hb : w.heap[b]? = some (.cells cs t fr)) : b ≠ m := by obtain ⟨D, h⟩ := h; exact own_nem h.map hb
theorem Gs.nem (h : Gs m n g w) {b : Nat} {cs : Array Value} {t : TypeId} {fr : Nat × Nat} (hb : w.heap[b]? = some (.cells cs t fr)) : b ≠ m := by obtain ⟨D, h⟩ := h; exact own_nem h.map hb
theorem St.nem (h : St m n s w) {b : Nat} {cs : Array Value} {t : TypeId} {fr : Nat × Nat} (hb : w.heap[b]? = some (.cells cs t fr)) : b ≠ m := by obtain ⟨D, h⟩ := h; exact own_nem h.map hb
theorem Im.made (w : World) (h : w.heap[m]? = some (.map #[] 0)) : Im m 0 (fun _ => 0) w := by
  obtain ⟨es, ck, hh, r⟩ := World.ownsMap_made (H := Unit) w Tryz.prog 3 elI
  rw [heap_new] at hh
  cases hh
  exact ⟨.map [], ⟨#[], 0, h, r⟩, fun x => rfl⟩
theorem Gs.made (w : World) (h : w.heap[m]? = some (.map #[] 0)) : Gs m 0 (fun _ => false) w := by
  obtain ⟨es, ck, hh, r⟩ := World.ownsMap_made (H := Unit) w Tryz.prog 30 unitElem
  rw [heap_new] at hh
  cases hh
  exact ⟨.map [], ⟨#[], 0, h, r⟩, fun x => rfl⟩
theorem St.made (w : World) (h : w.heap[m]? = some (.map #[] 0)) : St m 0 (fun _ => none) w := by
  obtain ⟨es, ck, hh, r⟩ := World.ownsMap_made (H := Unit) w Tryz.prog 9 elI
  rw [heap_new] at hh
  cases hh
  exact ⟨.map [], ⟨#[], 0, h, r⟩, fun x => rfl, fun x v e => by cases e⟩
theorem Im.look (h : Im m n f w) {x : Int} (hx : -9223372036854775808 ≤ x ∧ x ≤ 9223372036854775807) : (Instr.lookup 68 (.map (some m)) (.int .i64 x) false).run Tryz.prog w = .ok (.int .i64 (f x)) w := by
  obtain ⟨D, h⟩ := h
  obtain ⟨v, qs, hr, hv⟩ := h.map.lookup (t := 68) Tryz.keyedI Tryz.underlying68 (Tryz.zeroI w) (zd := .lit (.int .i64 0)) (zp := []) rfl (keyI_mk x hx)
  rw [h.at_ x] at hv
  rw [hr, elI_inv hv]
theorem Im.put (h : Im m n f w) {k : Int} (hk : -9223372036854775808 ≤ k ∧ k ≤ 9223372036854775807) (c : Int) (hn : n < 1099511627776) : ∃ w2, (Instr.mapUpdate 68 (.map (some m)) (.int .i64 k) (.int .i64 c)).run Tryz.prog w = .ok () w2 ∧ Im m (n + 1) (iPut f k c) w2 ∧ Chg (fun b => b = m) w w2 := by
  obtain ⟨D, h⟩ := h
  obtain ⟨w2, hr, hown, ht⟩ := h.map.store Tryz.keyedI Tryz.underlying68 (by unfold maxLen; omega) (keyI_mk k hk) (show elI (.int .i64 c) = some (.lit (.int .i64 c), []) from rfl)
  refine ⟨w2, hr, ⟨_, hown, fun x => ?_⟩, Chg.of_grown ht.grown (fun b e _ => (Option.some.inj e).symm)⟩
  unfold iPut
  by_cases e : x = k
  · subst e
    rw [if_pos rfl, Maps.atKey_put_same h.map.isMap (by trivial)]
  · rw [if_neg e, Maps.atKey_put_other (fun q => e (kI_inj q))]; exact h.at_ x
theorem Gs.look (h : Gs m n g w) {x : Nat} (hx : x < 18446744073709551616) : (Instr.lookup 69 (.map (some m)) (.int .u64 (x : Int)) true).run Tryz.prog w = .ok (.tuple #[.agg #[], .bool (g x)]) w := by
  obtain ⟨D, h⟩ := h
  obtain ⟨v, qs, hr, hv⟩ := h.map.look_ok (t := 69) Tryz.keyedM Tryz.underlying69 (Tryz.zeroE w) unitElem_mk (keyM x hx)
  rw [hr, (unitElem_inv hv).1, h.has]
theorem Gs.put (h : Gs m n g w) {k : Nat} (hk : k < 18446744073709551616) (hn : n < 1099511627776) : ∃ w2, (Instr.mapUpdate 69 (.map (some m)) (.int .u64 (k : Int)) (.agg #[])).run Tryz.prog w = .ok () w2 ∧ Gs m (n + 1) (gPut g k) w2 ∧ Chg (fun b => b = m) w w2 := by
  obtain ⟨D, h⟩ := h
  obtain ⟨w2, hr, hown, ht⟩ := h.map.store Tryz.keyedM Tryz.underlying69 (by unfold maxLen; omega) (keyM k hk) unitElem_mk
  refine ⟨w2, hr, ⟨_, hown, fun x => ?_⟩, Chg.of_grown ht.grown (fun b e _ => (Option.some.inj e).symm)⟩
  unfold gPut
  by_cases e : x = k
  · subst e
    rw [if_pos rfl, Maps.has_put_same h.map.isMap (by trivial)]
  · rw [if_neg e, Maps.has_put_other (fun q => e (kM_inj q))]; exact h.has x
theorem St.look (h : St m n s w) (x : ByteArray) (hx : x.size ≤ maxLen) : (Instr.lookup 67 (.map (some m)) (.string x) true).run Tryz.prog w = .ok (.tuple #[.int .i64 ((s x.data.toList).getD 0), .bool (s x.data.toList).isSome]) w := by
  obtain ⟨D, h⟩ := h
  obtain ⟨v, qs, hr, hv⟩ := h.map.look_ok (t := 67) Tryz.keyedS Tryz.underlying67 (Tryz.zeroI w) (zd := .lit (.int .i64 0)) (zp := []) rfl (key := .string x) (WideMaps.keyOf_string_mk Tryz.underlying9 hx)
  rw [hr, h.has]
  cases hf : s x.data.toList with
  | none =>
    rw [Maps.atKey_of_not_has (by rw [h.has, hf]; rfl)] at hv
    rw [elI_inv hv]; rfl
  | some u =>
    rw [h.at_ _ u hf] at hv
    rw [elI_inv hv]; rfl
theorem St.put (h : St m n s w) (k : ByteArray) (hk : k.size ≤ maxLen) (c : Int) (hn : n < 1099511627776) : ∃ w2, (Instr.mapUpdate 67 (.map (some m)) (.string k) (.int .i64 c)).run Tryz.prog w = .ok () w2 ∧ St m (n + 1) (sPut s k.data.toList c) w2 ∧ Chg (fun b => b = m) w w2 := by
  obtain ⟨D, h⟩ := h
  obtain ⟨w2, hr, hown, ht⟩ := h.map.store Tryz.keyedS Tryz.underlying67 (by unfold maxLen; omega) (key := .string k) (WideMaps.keyOf_string_mk Tryz.underlying9 hk) (show elI (.int .i64 c) = some (.lit (.int .i64 c), []) from rfl)
  refine ⟨w2, hr, ⟨_, hown, fun x => ?_, fun x v hx => ?_⟩, Chg.of_grown ht.grown (fun b e _ => (Option.some.inj e).symm)⟩
  · unfold sPut
    by_cases e : x = k.data.toList
    · subst e
      rw [if_pos rfl, Maps.has_put_same h.map.isMap (by trivial)]; rfl
    · rw [if_neg e, Maps.has_put_other (fun q => e (by simpa using q))]; exact h.has x
  · unfold sPut at hx
    by_cases e : x = k.data.toList
    · subst e
      rw [if_pos rfl] at hx
      obtain rfl := Option.some.inj hx
      rw [Maps.atKey_put_same h.map.isMap (by trivial)]
    · rw [if_neg e] at hx
      rw [Maps.atKey_put_other (fun q => e (by simpa using q))]; exact h.at_ x v hx
/-- string(b) of bytes. -/
theorem conv_rd {v : Value} {l : List UInt8} (h : Rd w v l) : (convert 35 9 v).run Tryz.prog w = .ok (.string ⟨l.toArray⟩) w := by
  rcases h.two with ⟨rfl, rfl⟩ | ⟨a, c, rfl, h1, h2, h3⟩
  · exact Go.Lib.run_convert_nil_bytes w 35 9 5 0 Tryz.underlying35 Tryz.underlying5 Tryz.underlying9
  · exact run_convert_bytes_back w 35 9 5 a c l Tryz.underlying35 Tryz.underlying5 Tryz.underlying9 h3
end
end Go.Proofs.YtedfjacmaidhkaaGreat
