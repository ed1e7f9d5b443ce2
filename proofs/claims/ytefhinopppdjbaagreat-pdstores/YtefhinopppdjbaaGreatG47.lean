/- When stores were heard of: hear, Stores. -/
import Derived.Test.YtefhinopppdjbaaGreatG38
import Derived.Test.YtefhinopppdjbaaGreatG45
namespace Go.Proofs.YtefhinopppdjbaaGreat
open Go.RowKit Go.Maps
set_option linter.unusedVariables false
set_option linter.unusedSimpArgs false
set_option maxRecDepth 100000

/-- How a clock in the map reads. -/
def elU : Value → Option (DataW Unit × List MemPlace)
  | .int .u64 n => some (.lit (.int .u64 n), [])
  | _ => none
theorem elU_inv {v : Value} {y : DataW Unit × List MemPlace} (h : elU v = some y) : ∃ n, v = .int .u64 n ∧ y = (.lit (.int .u64 n), []) := by
  unfold elU at h
  split at h
  · exact ⟨_, rfl, (Option.some.inj h).symm⟩
  · cases h
theorem Tryz.zeroU6 (w : World) : (zeroValue 23).run Tryz.prog w = .ok (.int .u64 0) w := by kernel_rfl
theorem keyI_mk (x : Int) (h : -9223372036854775808 ≤ x ∧ x ≤ 9223372036854775807) : keyOf Tryz.prog 3 (.int .i64 x) = some (kI x) :=
  Maps.keyOf_int_mk Tryz.underlying3 (by simp [Lit.wf, IntKind.min, IntKind.max, IntKind.signed, IntKind.bits]; omega)
/-- The map of block m says when the stores were heard of. -/
structure HdI (B m n : Nat) (D : DataW Unit) (f : Int → Option Nat) (w : World) : Prop where
  map : w.ownsMap Tryz.prog 3 elU m n D
  has : ∀ x, Maps.has D (kI x) = (f x).isSome
  at_ : ∀ x c, f x = some c → D.atKey (kI x) (.lit (.int .u64 0)) = .lit (.int .u64 (c : Int))
  ks : ∀ x, (f x).isSome = true → 1 ≤ x ∧ x ≤ 5
  lo : B ≤ m
def Hd (B m n : Nat) (f : Int → Option Nat) (w : World) : Prop := ∃ D, HdI B m n D f w
section
variable {B m n p : Nat} {D : DataW Unit} {f : Int → Option Nat} {w w' : World} {d : DC}
theorem HdI.lt (h : HdI B m n D f w) : m < w.heap.size := h.map.lt
theorem HdI.next {S : Nat → Prop} (h : HdI B m n D f w) (hc : Chg S w w') (hm : ¬ S m) : HdI B m n D f w' := by
  refine ⟨?_, h.has, h.at_, h.ks, h.lo⟩
  obtain ⟨es, clock, hh, r⟩ := h.map
  exact ⟨es, clock, by rw [hc.block m (Array.getElem?_eq_some_iff.1 hh).1 hm]; exact hh, r⟩
theorem Hd.next {S : Nat → Prop} (h : Hd B m n f w) (hc : Chg S w w') (hm : ¬ S m) : Hd B m n f w' := by
  obtain ⟨D, h⟩ := h
  exact ⟨D, h.next hc hm⟩
theorem Hd.lt (h : Hd B m n f w) : m < w.heap.size := by obtain ⟨D, h⟩ := h; exact h.lt
theorem Hd.below {C : Nat} (h : Hd B m n f w) (hb : Below C w w') (hC : w.heap.size ≤ C) : Hd B m n f w' := h.next (Chg.of_below hb) (fun q => by have := h.lt; omega)
theorem Hd.nem (h : Hd B m n f w) {b : Nat} {cs : Array Value} {t : TypeId} {fr : Nat × Nat} (hb : w.heap[b]? = some (.cells cs t fr)) : b ≠ m := by
  obtain ⟨D, h⟩ := h
  obtain ⟨es, clock, hh, r⟩ := h.map
  rintro rfl
  rw [hb] at hh
  cases hh
theorem HdI.look (h : HdI B m n D f w) {x : Int} {c : Nat} (hx : f x = some c) : (Instr.lookup 46 (.map (some m)) (.int .i64 x) false).run Tryz.prog w = .ok (.int .u64 (c : Int)) w := by
  have hk := h.ks x (by rw [hx]; rfl)
  obtain ⟨v, qs, hr, hv⟩ := h.map.lookup (t := 46) Tryz.keyedI Tryz.underlying46 (Tryz.zeroU6 w) (zd := .lit (.int .u64 0)) (zp := []) rfl (keyI_mk x (by omega))
  rw [h.at_ x c hx] at hv
  obtain ⟨k, rfl, q⟩ := elU_inv hv
  have := (Prod.mk.inj q).1
  simp only [DataW.lit.injEq, Lit.int.injEq, true_and] at this
  rw [hr, this]
def updF (f : Int → Option Nat) (k : Int) (c : Nat) : Int → Option Nat := fun x => if x = k then some c else f x
theorem HdI.put (h : HdI B m n D f w) {k : Int} (hk : 1 ≤ k ∧ k ≤ 5) (c : Nat) (hn : n < 1048576) : ∃ w2, (Instr.mapUpdate 46 (.map (some m)) (.int .i64 k) (.int .u64 (c : Int))).run Tryz.prog w = .ok () w2 ∧ Hd B m (n + 1) (updF f k c) w2 ∧ Chg (fun b => b = m) w w2 := by
  obtain ⟨w2, hr, hown, ht⟩ := h.map.store Tryz.keyedI Tryz.underlying46 (by unfold maxLen; omega) (keyI_mk k (by omega)) (show elU (.int .u64 (c : Int)) = some (.lit (.int .u64 (c : Int)), []) from rfl)
  refine ⟨w2, hr, ⟨_, hown, fun x => ?_, fun x c' hx => ?_, fun x hx => ?_, h.lo⟩, Chg.of_grown ht.grown (fun b e _ => (Option.some.inj e).symm)⟩
  · unfold updF
    by_cases e : x = k
    · subst e
      rw [if_pos rfl, Maps.has_put_same h.map.isMap (by trivial)]; rfl
    · rw [if_neg e, Maps.has_put_other (fun q => e (kI_inj q))]; exact h.has x
  · unfold updF at hx
    by_cases e : x = k
    · subst e
      rw [if_pos rfl] at hx
      obtain rfl := Option.some.inj hx
      rw [Maps.atKey_put_same h.map.isMap (by trivial)]
    · rw [if_neg e] at hx
      rw [Maps.atKey_put_other (fun q => e (kI_inj q))]; exact h.at_ x c' hx
  · unfold updF at hx
    by_cases e : x = k
    · subst e; exact hk
    · rw [if_neg e] at hx; exact h.ks x hx
set_option maxHeartbeats 2000000 in
theorem hear_any (c : PC) (hs : 1 ≤ c.store ∧ c.store ≤ 5) (hd : Drv p d w) (h : Hd B d.hm n f w) (hn : n < 1048576) :
    Calls Tryz.prog 20 #[.pointer (some ⟨p, 0, none⟩), .agg (pcA c)] w fun e w' => e = .returned (prA 0 0 0) ∧ Hd B d.hm (n + 1) (updF f c.store d.c) w' ∧ Chg (fun b => b = d.hm) w w' := by
  have hbx := Bxd.new c w
  have hB0 := (two_new w (.cells (pcA c) 38) (.cells #[.int .i64 0, .int .u64 0, .int .i64 0] 29)).2.2
  have hd0 := hd.belowN hB0 (Nat.le_refl _)
  have h0 := h.below hB0 (Nat.le_refl _)
  have hml := h.lt
  have his := isStore_any c.store
  rw [decide_eq_true hs] at his
  go_enter Tryz.func20, Tryz.ntmps20
  go_upto_region 1 with fail
  generalize World.alloc (World.alloc w _) _ = W at *
  have c4 : W.cell? ⟨w.heap.size, 4, none⟩ = some (.int .i64 c.store) := hbx.at_ rfl
  have p4 : W.cell? ⟨p, 4, none⟩ = some (.map (some d.hm)) := hd0.at_ rfl
  have p2 : W.cell? ⟨p, 2, none⟩ = some (.int .u64 (d.c : Int)) := hd0.at_ rfl
  obtain ⟨D, hI⟩ := h0
  obtain ⟨w2, hrun, hI2, hc2⟩ := (hI.next (chg_dN (fun _ => False) W 1) (fun q => q)).put hs d.c hn
  have hbx2 := (hbx.drewN 1).next hc2 (by show ¬ _ = d.hm; omega) (by show ¬ _ = d.hm; omega)
  obtain ⟨r0, r1, r2, f5, f6, f7⟩ := hbx2.rs
  go_wp2_with fail
  refine (his _).mono ?_
  rintro e w1 ⟨rfl, rfl⟩
  have hrun' : (Instr.mapUpdate 46 (.map (some d.hm)) (.int .i64 c.store) (.int .u64 (d.c : Int))).run Tryz.prog w1.drew = .ok () w2 := hrun
  clear hrun hI
  go_wp2_with fail
  go_region
  go_wp2_with fail
  obtain ⟨⟨k0, k1, k2⟩, hc⟩ := pr_fin hbx2.res (.int .i64 0) (.int .u64 0) (.int .i64 0)
  have hfin := fin_chg hB0 ((chg_dN (fun b => b = d.hm) w1 1).trans (hc2.mono (fun b _ q => .inl q))) hc
  have hI3 := hI2.next hc (by show ¬ d.hm = _; omega)
  clear hc
  generalize World.setCell _ ⟨_, 2, none⟩ _ = wz at *
  refine bodyPost_ret (v := prA 0 0 0) (by simp [results, Tryz.results20, go_sem, k0, k1, k2]; try rfl) rfl ?_
  exact ⟨rfl, hI3, hfin⟩
end
end Go.Proofs.YtefhinopppdjbaaGreat
