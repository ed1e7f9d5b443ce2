/- What the law's CopyConf answers: a configuration in new memory. -/
import Derived.Test.YtedpfmalhapmeaaG3
import Derived.Test.YtedpfmalhapmeaaG1
import Derived.Deep.RegionHeld3
import Derived.Test.YtedpfmalhapmeaaG2
import Derived.Deep.QuietTactic
import Derived.BigQuiet
namespace Go.Proofs.Ytedpfmalhapmeaa
open Go.RowKit
set_option linter.unusedVariables false
set_option maxRecDepth 100000

/-- 'append(out, x...)' of numbers: what the operation does. -/
theorem run_appU (w : World) (ty : TypeId) (B : Nat) (v : Value) (l : List UInt64) (hown : Ou B w v l) (vx : Value) (m : List UInt64) (hm : Ru w vx m) (hB : B ≤ w.heap.size) (hlen : l.length + m.length ≤ 10995116277760) :
    ∃ v' w', (Builtin.append_ #[22, 22] ty #[v, vx]).run Try.prog w = .ok v' w' ∧ Ou B w' v' (l ++ m) ∧ w.grownBy w' v.ownBlock ∧ (v'.ownBlock = v.ownBlock ∨ v'.ownBlock = some w.heap.size) := by
  obtain ⟨i, hi, hz0, hz1, hz2⟩ := info_parts Try.infoU
  rcases hm.two with ⟨rfl, rfl⟩ | ⟨ad, c, rfl, h1, h2, h3⟩
  · exact ⟨v, w, run_append_owned_none (P := Try.prog) (w := w) B 22 ty 25 i 1 Try.underlying22 hi v l.length (celU l) hown, by simpa using hown, World.grownBy.refl _ _, .inl rfl⟩
  · obtain ⟨v', w', hr, q2, q3, q4⟩ := run_appN (P := Try.prog) w B 22 ty 25 (.int .u64 0) 8 Try.underlying22 Try.infoU rfl v l.length (celU l) hown ad m.length c (celU m) (by simp [celU_length]) (by
      intro j u hu
      have hj : j < m.length := by have := (List.getElem?_eq_some_iff.1 hu).1; simpa [celU_length] using this
      rw [h3 j hj]; rw [celU_get m j hj] at hu; exact hu) (celU_one m) (by unfold maxLen; omega) (by omega) hB
    exact ⟨v', w', hr, by unfold Ou; rw [celU_append, List.length_append]; exact q2, q3, q4⟩
/-- 'append(nil, x...)' of numbers, as a step of a drawn region. -/
theorem step_appU0 {ops : Array Oper} {o : Oper} {a : Act} {w : World} {K : Act → World → Prop} {Q : Exit → Act → World → Prop} {E : Prop} (hgd : o.guard = none) (s x : Operand)
    (ho : o.op = .call { callee := .builtin .append, args := #[s, x], argTypes := #[22, 22] })
    (B : Nat) (hs : a.eval s = .slice none 0 0) (vx : Value) (m : List UInt64) (hx : a.eval x = vx) (hm : Ru w vx m)
    (hB : B ≤ w.heap.size) (hlen : m.length ≤ 1099511627776)
    (hK : ∀ v' w', Ou B w' v' m → Below w.heap.size w w' → K (a.put o.dst v') w') : if Region.wanted o (yielded ops a.tmps) = true then Oper.wp Try.prog o a w K Q else E := by
  have hw : Region.wanted o (yielded ops a.tmps) = true := by simp [Region.wanted, hgd]
  rw [if_pos hw]
  obtain ⟨v', w', hr, q2, q3, q4⟩ := run_appU w o.type B _ [] (Ou.nil _ _) vx m hm hB (by simp; omega)
  unfold Oper.wp execOp
  simp only [ho, resolve, invoke, builtin, Sem.run_bind, Sem.run_pure, Result.andThen_ok, List.map_toArray, List.map_cons, List.map_nil, hs, hx, hr]
  exact hK v' w' q2 ((Below.refl w.heap.size w).grown q3 (Nat.le_refl _) (fun j e => by cases e))

set_option maxHeartbeats 4000000 in
theorem lcopyc_any {x y z : Value} {c : Cn} {w : World} (hr : Rc w x y z c) (hl : c.1.length + c.2.1.length + c.2.2.length ≤ 1099511627776) :
    Calls Try.prog 8 #[.agg #[x, y, z]] w fun e w' => ∃ (x' y' z' : Value), e = .returned (.agg #[x', y', z']) ∧ Oc w.heap.size w' x' y' z' c ∧ Below w.heap.size w w' := by
  obtain ⟨V, O, L⟩ := c
  simp only [] at hl
  obtain ⟨ax, cx, rfl⟩ := hr.1.shape
  obtain ⟨ay, cy, rfl⟩ := hr.2.1.shape
  obtain ⟨az, cz, rfl⟩ := hr.2.2.shape
  simp only [] at hr ⊢
  have hB0 : Below w.heap.size w ((w.alloc (.cells #[.slice ax V.length cx, .slice ay O.length cy, .slice az L.length cz] 24)).alloc (.cells #[.slice none 0 0, .slice none 0 0, .slice none 0 0] 24)) := (u_al w _).alloc (by simp) _
  have hz0 : ((w.alloc (.cells #[.slice ax V.length cx, .slice ay O.length cy, .slice az L.length cz] 24)).alloc (.cells #[.slice none 0 0, .slice none 0 0, .slice none 0 0] 24)).heap.size = w.heap.size + 2 := by simp
  have hbx : ((w.alloc (.cells #[.slice ax V.length cx, .slice ay O.length cy, .slice az L.length cz] 24)).alloc (.cells #[.slice none 0 0, .slice none 0 0, .slice none 0 0] 24)).heap[w.heap.size]? = some (.cells #[.slice ax V.length cx, .slice ay O.length cy, .slice az L.length cz] 24 (0, 0)) := by
    rw [Below.heap_alloc _ _ _ (by simp)]; exact heap_alloc_new w _
  have hrs : ((w.alloc (.cells #[.slice ax V.length cx, .slice ay O.length cy, .slice az L.length cz] 24)).alloc (.cells #[.slice none 0 0, .slice none 0 0, .slice none 0 0] 24)).heap[w.heap.size + 1]? = some (.cells #[.slice none 0 0, .slice none 0 0, .slice none 0 0] 24 (0, 0)) := by
    have := heap_alloc_new (w.alloc (.cells #[.slice ax V.length cx, .slice ay O.length cy, .slice az L.length cz] 24)) (.cells #[.slice none 0 0, .slice none 0 0, .slice none 0 0] 24)
    rw [World.size_alloc] at this
    exact this
  go_enter Try.func8, Try.ntmps8
  go_wp2_with fail
  generalize ((w.alloc (.cells #[.slice ax V.length cx, .slice ay O.length cy, .slice az L.length cz] 24)).alloc (.cells #[.slice none 0 0, .slice none 0 0, .slice none 0 0] 24)) = W0 at *
  have HKB : Hid (∀ W, Below W0.heap.size W0 W → Below w.heap.size w W) := fun W hW => hB0.trans (hW.mono hB0.size)
  have HKC : Hid (∀ W, Below W0.heap.size W0 W → W.cell? ⟨w.heap.size, 0, none⟩ = some (.slice ax V.length cx) ∧ W.cell? ⟨w.heap.size, 1, none⟩ = some (.slice ay O.length cy) ∧ W.cell? ⟨w.heap.size, 2, none⟩ = some (.slice az L.length cz)) := fun W hW => by
    obtain ⟨q0, q1, q2, _⟩ := at3 ((hW.block _ (by omega)).trans hbx)
    exact ⟨q0, q1, q2⟩
  have HKR : Hid (∀ W, Below W0.heap.size W0 W → W.heap[w.heap.size + 1]? = some (.cells #[.slice none 0 0, .slice none 0 0, .slice none 0 0] 24 (0, 0))) := fun W hW => (hW.block _ (by omega)).trans hrs
  have HR1 : Hid (∀ W, Below W0.heap.size W0 W → Ru W (.slice ax V.length cx) V) := fun W hW => hr.1.below (HKB.out W hW) (Nat.le_refl _)
  have HR2 : Hid (∀ W, Below W0.heap.size W0 W → Ru W (.slice ay O.length cy) O) := fun W hW => hr.2.1.below (HKB.out W hW) (Nat.le_refl _)
  have HR3 : Hid (∀ W, Below W0.heap.size W0 W → Ru W (.slice az L.length cz) L) := fun W hW => hr.2.2.below (HKB.out W hW) (Nat.le_refl _)
  have HOUT : Hid (∀ (W : World) (x' y' z' : Value), Below W0.heap.size W0 W → Oc W0.heap.size W x' y' z' (V, O, L) → ∀ W', W' = ((W.setCell ⟨w.heap.size + 1, 0, none⟩ x').setCell ⟨w.heap.size + 1, 1, none⟩ y').setCell ⟨w.heap.size + 1, 2, none⟩ z' → (W'.cell? ⟨w.heap.size + 1, 0, none⟩ = some x' ∧ W'.cell? ⟨w.heap.size + 1, 1, none⟩ = some y' ∧ W'.cell? ⟨w.heap.size + 1, 2, none⟩ = some z') ∧ Oc w.heap.size W' x' y' z' (V, O, L) ∧ Below w.heap.size w W') := fun W x' y' z' hW ho => outO (HKR.out W hW) (Nat.le_succ _) (by omega) (HKB.out W hW) ho
  clear hbx hrs hr hB0
  obtain ⟨c0, c1, c2⟩ := HKC.out W0 (Below.refl _ _)
  have hb0 : Below W0.heap.size W0 (W0.drewN 1) := Below.drN (Below.refl _ _) 1
  go_region_held3 (fun w' => w'.cell? ⟨w.heap.size, 0, none⟩ = some (.slice ax V.length cx) ∧ w'.cell? ⟨w.heap.size, 1, none⟩ = some (.slice ay O.length cy) ∧ w'.cell? ⟨w.heap.size, 2, none⟩ = some (.slice az L.length cz)) (go_keep) (first
    | (refine step_appU0 rfl _ _ rfl W0.heap.size rfl _ _ rfl (by first | exact HR1.out w2 hb2 | exact HR2.out w2 hb2 | exact HR3.out w2 hb2) hb2.size (by omega) ?_; intro v3 w3 ho3 hb3'; have hb3 := hb2.trans (hb3'.mono hb2.size); have ho1b := ho1a.below hb3' (Nat.le_refl _); have ho2b := ho2.below hb3' (Nat.le_refl _); obtain ⟨a3, e3, rfl⟩ := ho3.shape; obtain ⟨r0, r1, r2⟩ := HKC.out w3 hb3; obtain ⟨t0, t1, t2, tz⟩ := at3 (HKR.out w3 hb3); have tz0 := tz 0; have tz1 := tz 1; have tz2 := tz 2; clear tz)
    | (refine step_appU0 rfl _ _ rfl W0.heap.size rfl _ _ rfl (by first | exact HR1.out w1 hb1 | exact HR2.out w1 hb1 | exact HR3.out w1 hb1) hb1.size (by omega) ?_; intro v2 w2 ho2 hb2'; have hb2 := hb1.trans (hb2'.mono hb1.size); have ho1a := ho1.below hb2' (Nat.le_refl _); obtain ⟨a2, e2, rfl⟩ := ho2.shape; obtain ⟨q0, q1, q2⟩ := HKC.out w2 hb2)
    | (refine step_appU0 rfl _ _ rfl W0.heap.size rfl _ _ rfl (by first | exact HR1.out _ hb0 | exact HR2.out _ hb0 | exact HR3.out _ hb0) hb0.size (by omega) ?_; intro v1 w1 ho1 hb1'; have hb1 := hb0.trans (hb1'.mono hb0.size); obtain ⟨a1, e1, rfl⟩ := ho1.shape; obtain ⟨p0, p1, p2⟩ := HKC.out w1 hb1)
    | fail)
  go_wp2_with fail
  obtain ⟨⟨k0, k1, k2⟩, hoc, hbz⟩ := HOUT.out w3 (.slice a1 V.length e1) (.slice a2 O.length e2) (.slice a3 L.length e3) hb3 ⟨ho1b, ho2b, ho3⟩ _ rfl
  generalize (((w3.setCell ⟨w.heap.size + 1, 0, none⟩ (.slice a1 V.length e1)).setCell ⟨w.heap.size + 1, 1, none⟩ (.slice a2 O.length e2)).setCell ⟨w.heap.size + 1, 2, none⟩ (.slice a3 L.length e3)) = wz at *
  refine bodyPost_ret (v := .agg #[.slice a1 V.length e1, .slice a2 O.length e2, .slice a3 L.length e3]) (by simp [results, Try.results8, go_sem, k0, k1, k2]; try rfl) rfl ?_
  exact ⟨_, _, _, rfl, hoc, hbz⟩
end Go.Proofs.Ytedpfmalhapmeaa

/- The walk of Enter. -/
namespace Go.Proofs.Ytedpfmalhapmeaa
open Go.RowKit Go.Maps
set_option linter.unusedVariables false
set_option maxRecDepth 100000

theorem St.chg {m n : Nat} {S : UInt64 → Nat} {w w' : World} {T : Nat → Prop} (h : St m n S w) (hc : Chg T w w') (hT : ¬ T m) : St m n S w' := by
  obtain ⟨D, ⟨es, clock, hbk, r⟩, h2⟩ := h.own
  exact ⟨⟨D, ⟨es, clock, by rw [hc.block m (Array.getElem?_eq_some_iff.1 hbk).1 hT]; exact hbk, r⟩, h2⟩⟩
theorem St.lt {m n : Nat} {S : UInt64 → Nat} {w : World} (h : St m n S w) : m < w.heap.size := by
  obtain ⟨D, hown, _⟩ := h.own; exact hown.lt

set_option maxHeartbeats 8000000 in
theorem enter_any {N : Nat} (hSo : SortsTo N) {x y z v : Value} {c : Cn} {qs : List Cg} {w : World} (hr : Rc w x y z c) (hx : RdX w v qs) (hl : c.1.length + c.2.1.length + c.2.2.length ≤ N ∨ 27 ≤ N) (hn : c.1.length + c.2.2.length + qs.length ≤ N) (hN : N ≤ 1099511627776)
    (hq : 27 ≤ N ∨ ∀ S V' L', foldS (seatF c.1 c.2.2) qs = some S → IsL S 1 V' → IsL S 2 L' → V'.length + c.1.length + L'.length ≤ N) :
    Calls Try.prog 21 #[.agg #[x, y, z], v] w fun e w' => ∃ (x' y' z' : Value) (res : Cn) (er : Nat), e = .returned (.tuple #[.agg #[x', y', z'], .int .i64 er]) ∧ Oc w.heap.size w' x' y' z' res ∧ EntR c qs res er ∧ Below w.heap.size w w' := by
  obtain ⟨V, O, L⟩ := c
  obtain ⟨ax, cx, rfl⟩ := hr.1.shape
  obtain ⟨ay, cy, rfl⟩ := hr.2.1.shape
  obtain ⟨az, cz, rfl⟩ := hr.2.2.shape
  simp only [] at hl hn hq
  have hB0 : Below w.heap.size w ((w.alloc (.cells #[.slice ax V.length cx, .slice ay O.length cy, .slice az L.length cz] 24)).alloc (.cells #[.slice none 0 0, .slice none 0 0, .slice none 0 0] 24)) := (u_al w _).alloc (by simp) _
  have hz0 : ((w.alloc (.cells #[.slice ax V.length cx, .slice ay O.length cy, .slice az L.length cz] 24)).alloc (.cells #[.slice none 0 0, .slice none 0 0, .slice none 0 0] 24)).heap.size = w.heap.size + 2 := by simp
  have hbx : ((w.alloc (.cells #[.slice ax V.length cx, .slice ay O.length cy, .slice az L.length cz] 24)).alloc (.cells #[.slice none 0 0, .slice none 0 0, .slice none 0 0] 24)).heap[w.heap.size]? = some (.cells #[.slice ax V.length cx, .slice ay O.length cy, .slice az L.length cz] 24 (0, 0)) := by
    rw [Below.heap_alloc _ _ _ (by simp)]; exact heap_alloc_new w _
  have hrs : ((w.alloc (.cells #[.slice ax V.length cx, .slice ay O.length cy, .slice az L.length cz] 24)).alloc (.cells #[.slice none 0 0, .slice none 0 0, .slice none 0 0] 24)).heap[w.heap.size + 1]? = some (.cells #[.slice none 0 0, .slice none 0 0, .slice none 0 0] 24 (0, 0)) := by
    have := heap_alloc_new (w.alloc (.cells #[.slice ax V.length cx, .slice ay O.length cy, .slice az L.length cz] 24)) (.cells #[.slice none 0 0, .slice none 0 0, .slice none 0 0] 24)
    rw [World.size_alloc] at this
    exact this
  go_enter Try.func21, Try.ntmps21
  go_wp2_with fail
  generalize ((w.alloc (.cells #[.slice ax V.length cx, .slice ay O.length cy, .slice az L.length cz] 24)).alloc (.cells #[.slice none 0 0, .slice none 0 0, .slice none 0 0] 24)) = W0 at *
  have HKB : Hid (∀ W, Below W0.heap.size W0 W → Below w.heap.size w W) := fun W hW => hB0.trans (hW.mono hB0.size)
  have HKC : Hid (∀ W, Below W0.heap.size W0 W → W.cell? ⟨w.heap.size, 0, none⟩ = some (.slice ax V.length cx) ∧ W.cell? ⟨w.heap.size, 1, none⟩ = some (.slice ay O.length cy) ∧ W.cell? ⟨w.heap.size, 2, none⟩ = some (.slice az L.length cz)) := fun W hW => by
    obtain ⟨q0, q1, q2, _⟩ := at3 ((hW.block _ (by omega)).trans hbx)
    exact ⟨q0, q1, q2⟩
  have HKR : Hid (∀ W, Below W0.heap.size W0 W → W.heap[w.heap.size + 1]? = some (.cells #[.slice none 0 0, .slice none 0 0, .slice none 0 0] 24 (0, 0))) := fun W hW => (hW.block _ (by omega)).trans hrs
  have HRC : Hid (∀ W, Below W0.heap.size W0 W → Rc W (.slice ax V.length cx) (.slice ay O.length cy) (.slice az L.length cz) (V, O, L)) := fun W hW => hr.below (HKB.out W hW) (Nat.le_refl _)
  have HRX : Hid (∀ W, Below W0.heap.size W0 W → RdX W v qs) := fun W hW => hx.below (HKB.out W hW) (Nat.le_refl _)
  have HOUT : Hid (∀ (W : World) (x' y' z' : Value) (res : Cn), Below W0.heap.size W0 W → Oc W0.heap.size W x' y' z' res → ∀ W', W' = ((W.setCell ⟨w.heap.size + 1, 0, none⟩ x').setCell ⟨w.heap.size + 1, 1, none⟩ y').setCell ⟨w.heap.size + 1, 2, none⟩ z' → (W'.cell? ⟨w.heap.size + 1, 0, none⟩ = some x' ∧ W'.cell? ⟨w.heap.size + 1, 1, none⟩ = some y' ∧ W'.cell? ⟨w.heap.size + 1, 2, none⟩ = some z') ∧ Oc w.heap.size W' x' y' z' res ∧ Below w.heap.size w W') := fun W x' y' z' res hW ho => outO (HKR.out W hW) (Nat.le_succ _) (by omega) (HKB.out W hW) ho
  clear hbx hrs hr hx hB0
  obtain ⟨c0, c1, c2⟩ := HKC.out W0 (Below.refl _ _)
  have hck := check_any hSo (HRC.out W0 (Below.refl _ _)) hl hN
  cases hchk : chk (V, O, L) with
  | false =>
    rw [hchk] at hck
    have HE : Hid (EntR (V, O, L) qs none3 70) := .inl ⟨hchk, rfl, rfl⟩
    go_wp2_with fail
    refine hck.mono ?_
    rintro e w1 ⟨rfl, hb1⟩
    obtain ⟨t0, t1, t2, tz⟩ := at3 (HKR.out w1 hb1)
    have tz0 := tz 0
    have tz1 := tz 1
    have tz2 := tz 2
    clear tz
    go_wp2_with fail
    obtain ⟨⟨k0, k1, k2⟩, hoc, hbz⟩ := HOUT.out w1 _ _ _ none3 hb1 (Oc.nil _ _) _ rfl
    generalize (((w1.setCell ⟨w.heap.size + 1, 0, none⟩ (.slice none 0 0)).setCell ⟨w.heap.size + 1, 1, none⟩ (.slice none 0 0)).setCell ⟨w.heap.size + 1, 2, none⟩ (.slice none 0 0)) = wz at *
    refine bodyPost_ret (v := .tuple #[.agg #[.slice none 0 0, .slice none 0 0, .slice none 0 0], .int .i64 70]) (by simp [results, Try.results21, go_sem, k0, k1, k2]; try rfl) rfl ?_
    exact ⟨_, _, _, none3, 70, rfl, hoc, HE.out, hbz⟩
  | true =>
    rw [hchk] at hck
    go_wp2_with fail
    refine hck.mono ?_
    rintro e w1 ⟨rfl, hb1⟩
    clear hck
    obtain ⟨d0, d1, d2⟩ := HKC.out w1 hb1
    have hjo := ujoint_any (HRC.out w1 hb1)
    simp only [] at hjo
    by_cases hO : 0 < O.length
    · rw [decide_eq_true hO] at hjo
      have HE : Hid (EntR (V, O, L) qs none3 71) := .inr (.inl ⟨hchk, hO, rfl, rfl⟩)
      go_wp2_with fail
      refine hjo.mono ?_
      rintro e w2 ⟨rfl, hb2'⟩
      have hb2 : Below W0.heap.size W0 w2 := hb1.trans (hb2'.mono hb1.size)
      obtain ⟨t0, t1, t2, tz⟩ := at3 (HKR.out w2 hb2)
      have tz0 := tz 0
      have tz1 := tz 1
      have tz2 := tz 2
      clear tz
      go_wp2_with fail
      obtain ⟨⟨k0, k1, k2⟩, hoc, hbz⟩ := HOUT.out w2 _ _ _ none3 hb2 (Oc.nil _ _) _ rfl
      generalize (((w2.setCell ⟨w.heap.size + 1, 0, none⟩ (.slice none 0 0)).setCell ⟨w.heap.size + 1, 1, none⟩ (.slice none 0 0)).setCell ⟨w.heap.size + 1, 2, none⟩ (.slice none 0 0)) = wz at *
      refine bodyPost_ret (v := .tuple #[.agg #[.slice none 0 0, .slice none 0 0, .slice none 0 0], .int .i64 71]) (by simp [results, Try.results21, go_sem, k0, k1, k2]; try rfl) rfl ?_
      exact ⟨_, _, _, none3, 71, rfl, hoc, HE.out, hbz⟩
    · rw [decide_eq_false hO] at hjo
      have HO : Hid (O = []) := List.length_eq_zero_iff.1 (by omega)
      have HCK : Hid _ := hchk
      clear hchk hO
      go_wp2_with fail
      refine hjo.mono ?_
      rintro e w2 ⟨rfl, hb2'⟩
      have hb2 : Below W0.heap.size W0 w2 := hb1.trans (hb2'.mono hb1.size)
      clear hjo d0 d1 d2 hb2' hb1
      obtain ⟨d0, d1, d2⟩ := HKC.out w2 hb2
      have hse := seats_any (HRC.out w2 hb2) (by simp only []; omega)
      simp only [] at hse
      go_wp2_with fail
      refine hse.mono ?_
      rintro e w3 ⟨m, rfl, hm, hSt, hb3'⟩
      have hb3 : Below W0.heap.size W0 w3 := hb2.trans (hb3'.mono hb2.size)
      have hms : W0.heap.size ≤ m := Nat.le_trans hb2.size hm
      clear hse d0 d1 d2 hb3' hb2 hm
      obtain ⟨aq, cq, rfl, q1, q2, q3, _⟩ := HRX.out w3 hb3
      unfold maxLen at q2
      go_wp2_with fail
      go_loopw [8, 9, 22] (fun _ _ i wr => ∃ (k : Nat) (S : UInt64 → Nat), k ≤ qs.length ∧ i = .int .i64 k ∧ Hid (foldS (seatF V L) (qs.take k) = some S) ∧ Hid (∀ x, S x ≤ 2) ∧ St m (V.length + L.length + k) S wr ∧ Below W0.heap.size W0 wr) (fun _ _ i _ => qs.length - (intOf i).toNat)
      case atStart => exact ⟨0, _, Nat.zero_le _, rfl, by show _ = _; rw [List.take_zero]; rfl, seatF_le V L, hSt, hb3⟩
      case round =>
        obtain ⟨k, S, hk, rfl, HF, HS2, hSt, hb⟩ := hrel
        clear hb3
        have hbs := hb.size
        by_cases hlt : k < qs.length
        · obtain ⟨⟨kd, p⟩, hqk⟩ : ∃ q, qs[k]? = some q := ⟨_, List.getElem?_eq_getElem hlt⟩
          have hkd := q3 _ (List.mem_of_getElem? hqk)
          obtain ⟨ao', c', e0, _, _, _, h4⟩ := HRX.out wr hb
          obtain ⟨a, ea, hcg⟩ := h4 k _ hqk
          simp only [Value.slice.injEq] at e0
          obtain ⟨rfl, -, rfl⟩ := e0
          subst ea
          have g0 := hcg.c0
          have g1 := hcg.c1
          simp only [] at g0 g1 hkd
          clear h4 hcg q3
          have hcga : ∀ W, Chg (fun b => b = m) W W → True := fun _ _ => trivial
          clear hcga
          have HN : Hid (∀ S', chg1 S kd p = some S' → foldS (seatF V L) (qs.take (k + 1)) = some S') := fun S' e => by rw [foldS_snoc _ S qs k _ hqk HF.out]; exact e
          have HNN : Hid (chg1 S kd p = none → foldS (seatF V L) qs = none) := fun e => foldS_none _ S qs k _ hqk HF.out e
          have hmw := hSt.lt
          have hcall := fun (W : World) (hW : Below wr.heap.size wr W) => change_any (hSt.below hW (Nat.le_refl _)) (Nat.lt_of_lt_of_le hmw hW.size) kd p (by omega) HS2.out hkd
          have HSt : Hid _ := hSt
          clear hqk HF hSt
          have hca := hcall _ (u_al wr (.cells #[.int .i64 kd, .int .u64 (p.toNat : Int)] 50))
          have hbA : Below W0.heap.size W0 (wr.alloc (.cells #[.int .i64 kd, .int .u64 (p.toNat : Int)] 50)) := hb.alloc hbs _
          clear hcall
          cases hch : chg1 S kd p with
          | none =>
            have HE : Hid (EntR (V, O, L) qs none3 70) := .inr (.inr (.inl ⟨HCK.out, HO.out, HNN.out hch, rfl, rfl⟩))
            rw [hch] at hca
            clear hch HN HNN
            go_wp2_with fail
            refine hca.mono ?_
            rintro e w4 ⟨rfl, _, hc4⟩
            have hb4 : Below W0.heap.size W0 w4 := hbA.trans (hc4.below (fun b q => by omega) hbA.size)
            obtain ⟨t0, t1, t2, tz⟩ := at3 (HKR.out w4 hb4)
            have tz0 := tz 0
            have tz1 := tz 1
            have tz2 := tz 2
            clear tz
            go_wp2_with fail
            obtain ⟨⟨k0, k1, k2⟩, hoc, hbz⟩ := HOUT.out w4 _ _ _ none3 hb4 (Oc.nil _ _) _ rfl
            generalize (((w4.setCell ⟨w.heap.size + 1, 0, none⟩ (.slice none 0 0)).setCell ⟨w.heap.size + 1, 1, none⟩ (.slice none 0 0)).setCell ⟨w.heap.size + 1, 2, none⟩ (.slice none 0 0)) = wz at *
            (try simp only [Exit.inBlock, Exit.then])
            refine bodyPost_ret (v := .tuple #[.agg #[.slice none 0 0, .slice none 0 0, .slice none 0 0], .int .i64 70]) (by simp [results, Try.results21, go_sem, k0, k1, k2]; try rfl) rfl ?_
            exact ⟨_, _, _, none3, 70, rfl, hoc, HE.out, hbz⟩
          | some S' =>
            have HF2 : Hid _ := HN.out S' hch
            have HS3 : Hid _ := chg1_le hch HS2.out
            rw [hch] at hca
            clear hch HN HNN
            go_wp2_with fail
            refine hca.mono ?_
            rintro e w4 ⟨rfl, hSt4, hc4⟩
            have hb4 : Below W0.heap.size W0 w4 := hbA.trans (hc4.below (fun b q => by omega) hbA.size)
            go_wp2_with fail
            exact ⟨⟨k + 1, S', by omega, by go_num, HF2, HS3, hSt4, hb4⟩, by simp [intOf]; omega⟩
        · obtain rfl : k = qs.length := by omega
          have HF2 : Hid (foldS (seatF V L) qs = some S) := by have := HF.out; rw [List.take_length] at this; exact this
          clear HF q3
          have hmw := hSt.lt
          have hof1 := of_any hSo hSt hmw 1 (by omega) (by omega) hn hN
          go_wp2_with fail
          refine hof1.mono ?_
          rintro e w4 ⟨v4, V', rfl, ho4, hr4, hm4, hl4, hb4'⟩
          have hb4 : Below W0.heap.size W0 w4 := hb.trans (hb4'.mono hbs)
          have hSt4 := hSt.below hb4' (Nat.le_refl _)
          have hof2 := of_any hSo hSt4 hSt4.lt 2 (by omega) (by omega) hn hN
          clear hof1
          go_wp2_with fail
          refine hof2.mono ?_
          rintro e w5 ⟨v5, L', rfl, ho5, hr5, hm5, hl5, hb5'⟩
          have hb5 : Below W0.heap.size W0 w5 := hb4.trans (hb5'.mono hb4.size)
          have ho4b := (ho4.below hb5' (Nat.le_refl _)).mono hbs
          have ho5b := ho5.mono hb4.size
          have HIL : Hid (IsL S 1 V' ∧ IsL S 2 L') := ⟨⟨hr4, hm4⟩, ⟨hr5, hm5⟩⟩
          have hq2 : V'.length + V.length + L'.length ≤ N ∨ 27 ≤ N := by
            rcases hq with hq | hq
            · exact .inr hq
            · exact .inl (hq S V' L' HF2.out HIL.out.1 HIL.out.2)
          clear hof2 hr4 hm4 hr5 hm5 hSt hSt4 ho4 ho5 hb4' hb5' hq
          obtain ⟨a4, c4, rfl⟩ := ho4b.shape
          obtain ⟨a5, c5, rfl⟩ := ho5b.shape
          have hb6 : Below W0.heap.size W0 (w5.alloc (.cells #[.slice a4 V'.length c4, .slice none 0 0, .slice a5 L'.length c5] 24)) := hb5.alloc hb5.size _
          have hnb := heap_alloc_new w5 (.cells #[.slice a4 V'.length c4, .slice none 0 0, .slice a5 L'.length c5] 24)
          have hz6 : (w5.alloc (.cells #[.slice a4 V'.length c4, .slice none 0 0, .slice a5 L'.length c5] 24)).heap.size = w5.heap.size + 1 := by simp
          have hoc6 : Ou W0.heap.size (w5.alloc (.cells #[.slice a4 V'.length c4, .slice none 0 0, .slice a5 L'.length c5] 24)) (.slice a4 V'.length c4) V' ∧ Ou W0.heap.size (w5.alloc (.cells #[.slice a4 V'.length c4, .slice none 0 0, .slice a5 L'.length c5] 24)) (.slice a5 L'.length c5) L' := ⟨ho4b.alloc _, ho5b.alloc _⟩
          have HNB : Hid (∀ b, (Value.slice a4 V'.length c4).ownBlock = some b ∨ (Value.slice a5 L'.length c5).ownBlock = some b → b < w5.heap.size) := fun b e => by
            rcases e with e | e
            · exact (ho4b.lt b e).2
            · exact (ho5b.lt b e).2
          obtain ⟨d0, d1, d2⟩ := HKC.out _ hb6
          go_wp2_with fail
          generalize (w5.alloc (.cells #[.slice a4 V'.length c4, .slice none 0 0, .slice a5 L'.length c5] 24)) = w6 at *
          have heq := uequal_any hoc6.1.ru (HRC.out w6 hb6).1
          refine heq.mono ?_
          rintro e w7 ⟨rfl, n7, rfl⟩
          have hb7 : Below W0.heap.size W0 (w6.drewN n7) := Below.drN hb6 n7
          have hnb7 : (w6.drewN n7).heap[w5.heap.size]? = some (.cells #[.slice a4 V'.length c4, .slice none 0 0, .slice a5 L'.length c5] 24 (0, 0)) := hnb
          have hoc7 : Ou W0.heap.size (w6.drewN n7) (.slice a4 V'.length c4) V' ∧ Ou W0.heap.size (w6.drewN n7) (.slice a5 L'.length c5) L' := ⟨hoc6.1.below (Below.dN w6 n7) (Nat.le_refl _), hoc6.2.below (Below.dN w6 n7) (Nat.le_refl _)⟩
          have hz7 : (w6.drewN n7).heap.size = w5.heap.size + 1 := hz6
          clear heq hb6 hnb hoc6 d0 d1 d2 hz6
          -- the last of it: next is laid; Check(next)
          have tail : ∀ (W : World) (y' : Value) (Y : List UInt64), Below W0.heap.size W0 W → W.heap[w5.heap.size]? = some (.cells #[.slice a4 V'.length c4, y', .slice a5 L'.length c5] 24 (0, 0)) → Oc W0.heap.size W (.slice a4 V'.length c4) y' (.slice a5 L'.length c5) (V', Y, L') → Y = (if V' = V then [] else V) → Y.length ≤ V.length →
              (Calls Try.prog 11 #[.agg #[.slice a4 V'.length c4, y', .slice a5 L'.length c5]] W fun e w' => e = .returned (.int .i64 (if chk (nxt V V' L') then 0 else 70)) ∧ Below W0.heap.size W0 w' ∧ w'.heap[w5.heap.size]? = some (.cells #[.slice a4 V'.length c4, y', .slice a5 L'.length c5] 24 (0, 0)) ∧ Oc W0.heap.size w' (.slice a4 V'.length c4) y' (.slice a5 L'.length c5) (nxt V V' L')) := fun W y' Y hW hnb hoc hY hYl => by
            have e : (V', Y, L') = nxt V V' L' := by unfold nxt; rw [hY]
            refine (check_any hSo hoc.rc (by simp only []; omega) hN).mono ?_
            rintro e' w' ⟨rfl, hb'⟩
            rw [e]
            refine ⟨rfl, hW.trans (hb'.mono hW.size), by rw [hb'.block _ (Array.getElem?_eq_some_iff.1 hnb).1]; exact hnb, ?_⟩
            rw [← e]
            exact ⟨hoc.1.below hb' (Nat.le_refl _), hoc.2.1.below hb' (Nat.le_refl _), hoc.2.2.below hb' (Nat.le_refl _)⟩
          have HTAIL : Hid _ := tail
          clear tail
          have HENT : Hid (∀ (res : Cn) (er : Nat), ((chk (nxt V V' L') = false ∧ res = none3 ∧ er = 70) ∨ (chk (nxt V V' L') = true ∧ res = nxt V V' L' ∧ er = 0)) → EntR (V, O, L) qs res er) := fun res er h => .inr (.inr (.inr ⟨HCK.out, HO.out, S, V', L', HF2.out, HIL.out.1, HIL.out.2, h⟩))
          generalize w6.drewN n7 = w7 at *
          by_cases hVV : V' = V
          · have hd : decide (V' = V) = true := decide_eq_true hVV
            rw [hd]
            have hck := HTAIL.out w7 (.slice none 0 0) [] hb7 hnb7 ⟨hoc7.1, Ou.nil _ _, hoc7.2⟩ (by rw [if_pos hVV]) (by simp)
            obtain ⟨n0, n1, n2, _⟩ := at3 hnb7
            have HVV : Hid _ := hVV
            clear hVV hd
            go_wp2_with fail
            refine hck.mono ?_
            rintro e wA ⟨rfl, hbA, hnA, hoA⟩
            obtain ⟨p0, p1, p2, _⟩ := at3 hnA
            obtain ⟨t0, t1, t2, tz⟩ := at3 (HKR.out wA hbA)
            have tz0 := tz 0
            have tz1 := tz 1
            have tz2 := tz 2
            clear tz
            cases hcn : chk (nxt V V' L') with
            | false =>
              have HE : Hid (EntR (V, O, L) qs none3 70) := HENT.out none3 70 (.inl ⟨hcn, rfl, rfl⟩)
              clear hcn
              go_wp2_with fail
              obtain ⟨⟨k0, k1, k2⟩, hoc, hbz⟩ := HOUT.out wA _ _ _ none3 hbA (Oc.nil _ _) _ rfl
              generalize (((wA.setCell ⟨w.heap.size + 1, 0, none⟩ (.slice none 0 0)).setCell ⟨w.heap.size + 1, 1, none⟩ (.slice none 0 0)).setCell ⟨w.heap.size + 1, 2, none⟩ (.slice none 0 0)) = wz at *
              (try simp only [Exit.inBlock, Exit.then])
              refine bodyPost_ret (v := .tuple #[.agg #[.slice none 0 0, .slice none 0 0, .slice none 0 0], .int .i64 70]) (by simp [results, Try.results21, go_sem, k0, k1, k2]; try rfl) rfl ?_
              exact ⟨_, _, _, none3, 70, rfl, hoc, HE.out, hbz⟩
            | true =>
              have HE : Hid (EntR (V, O, L) qs (nxt V V' L') 0) := HENT.out (nxt V V' L') 0 (.inr ⟨hcn, rfl, rfl⟩)
              clear hcn
              go_wp2_with fail
              obtain ⟨⟨k0, k1, k2⟩, hoc, hbz⟩ := HOUT.out wA _ _ _ (nxt V V' L') hbA hoA _ rfl
              generalize (((wA.setCell ⟨w.heap.size + 1, 0, none⟩ (.slice a4 V'.length c4)).setCell ⟨w.heap.size + 1, 1, none⟩ (.slice none 0 0)).setCell ⟨w.heap.size + 1, 2, none⟩ (.slice a5 L'.length c5)) = wz at *
              (try simp only [Exit.inBlock, Exit.then])
              refine bodyPost_ret (v := .tuple #[.agg #[.slice a4 V'.length c4, .slice none 0 0, .slice a5 L'.length c5], .int .i64 0]) (by simp [results, Try.results21, go_sem, k0, k1, k2]; try rfl) rfl ?_
              exact ⟨_, _, _, nxt V V' L', 0, rfl, hoc, HE.out, hbz⟩
          · have hd : decide (V' = V) = false := decide_eq_false hVV
            rw [hd]
            obtain ⟨d0, d1, d2⟩ := HKC.out w7 hb7
            have hcn := uclone_any (HRC.out w7 hb7).1 (by simp only []; omega)
            simp only [] at hcn
            obtain ⟨n0, n1, n2, nz⟩ := at3 hnb7
            have HVV : Hid _ := hVV
            clear hVV hd
            go_wp2_with fail
            refine hcn.mono ?_
            rintro e w8 ⟨v8, rfl, ho8, hb8⟩
            obtain ⟨a8, c8, rfl⟩ := ho8.shape
            have hnb8 : w8.heap[w5.heap.size]? = some (.cells #[.slice a4 V'.length c4, .slice none 0 0, .slice a5 L'.length c5] 24 (0, 0)) := by rw [hb8.block _ (by omega)]; exact hnb7
            have hnb9 : (w8.setCell ⟨w5.heap.size, 1, none⟩ (.slice a8 V.length c8)).heap[w5.heap.size]? = some (.cells #[.slice a4 V'.length c4, .slice a8 V.length c8, .slice a5 L'.length c5] 24 (0, 0)) := by
              have := heap_setCell_same w8 w5.heap.size 1 _ _ (.slice a8 V.length c8) hnb8
              rw [this]; rfl
            have hch9 : Chg (fun b => b = w5.heap.size) w8 (w8.setCell ⟨w5.heap.size, 1, none⟩ (.slice a8 V.length c8)) := (Chg.refl _ w8).put _ 1 _ rfl
            have hs7 := hb7.size
            have hs8 := hb8.size
            have hb9 : Below W0.heap.size W0 (w8.setCell ⟨w5.heap.size, 1, none⟩ (.slice a8 V.length c8)) := (hb7.trans (hb8.mono hs7)).trans (hch9.below (fun b q => by subst q; exact hb5.size) (by omega))
            have hoc9 : Oc W0.heap.size (w8.setCell ⟨w5.heap.size, 1, none⟩ (.slice a8 V.length c8)) (.slice a4 V'.length c4) (.slice a8 V.length c8) (.slice a5 L'.length c5) (V', V, L') := ⟨(hoc7.1.below hb8 (Nat.le_refl _)).keptC hch9 (fun b e q => by have := HNB.out b (.inl e); omega), (ho8.keptC hch9 (fun b e q => by have := (ho8.lt b e).1; omega)).mono hs7, (hoc7.2.below hb8 (Nat.le_refl _)).keptC hch9 (fun b e q => by have := HNB.out b (.inr e); omega)⟩
            obtain ⟨m0, m1, m2, mz⟩ := at3 hnb8
            have mz1 := mz 1
            have hck := HTAIL.out _ (.slice a8 V.length c8) V hb9 hnb9 hoc9 (by rw [if_neg HVV.out]) (Nat.le_refl _)
            obtain ⟨n0, n1, n2, _⟩ := at3 hnb9
            have HB9 : Hid _ := hb9
            clear hb9 hoc9 hnb9 mz nz hch9 d0 d1 d2
            go_wp2_with fail
            refine hck.mono ?_
            rintro e wA ⟨rfl, hbA, hnA, hoA⟩
            obtain ⟨p0, p1, p2, _⟩ := at3 hnA
            obtain ⟨t0, t1, t2, tz⟩ := at3 (HKR.out wA hbA)
            have tz0 := tz 0
            have tz1 := tz 1
            have tz2 := tz 2
            clear tz
            cases hcn : chk (nxt V V' L') with
            | false =>
              have HE : Hid (EntR (V, O, L) qs none3 70) := HENT.out none3 70 (.inl ⟨hcn, rfl, rfl⟩)
              clear hcn
              go_wp2_with fail
              obtain ⟨⟨k0, k1, k2⟩, hoc, hbz⟩ := HOUT.out wA _ _ _ none3 hbA (Oc.nil _ _) _ rfl
              generalize (((wA.setCell ⟨w.heap.size + 1, 0, none⟩ (.slice none 0 0)).setCell ⟨w.heap.size + 1, 1, none⟩ (.slice none 0 0)).setCell ⟨w.heap.size + 1, 2, none⟩ (.slice none 0 0)) = wz at *
              (try simp only [Exit.inBlock, Exit.then])
              refine bodyPost_ret (v := .tuple #[.agg #[.slice none 0 0, .slice none 0 0, .slice none 0 0], .int .i64 70]) (by simp [results, Try.results21, go_sem, k0, k1, k2]; try rfl) rfl ?_
              exact ⟨_, _, _, none3, 70, rfl, hoc, HE.out, hbz⟩
            | true =>
              have HE : Hid (EntR (V, O, L) qs (nxt V V' L') 0) := HENT.out (nxt V V' L') 0 (.inr ⟨hcn, rfl, rfl⟩)
              clear hcn
              go_wp2_with fail
              obtain ⟨⟨k0, k1, k2⟩, hoc, hbz⟩ := HOUT.out wA _ _ _ (nxt V V' L') hbA hoA _ rfl
              generalize (((wA.setCell ⟨w.heap.size + 1, 0, none⟩ (.slice a4 V'.length c4)).setCell ⟨w.heap.size + 1, 1, none⟩ (.slice a8 V.length c8)).setCell ⟨w.heap.size + 1, 2, none⟩ (.slice a5 L'.length c5)) = wz at *
              (try simp only [Exit.inBlock, Exit.then])
              refine bodyPost_ret (v := .tuple #[.agg #[.slice a4 V'.length c4, .slice a8 V.length c8, .slice a5 L'.length c5], .int .i64 0]) (by simp [results, Try.results21, go_sem, k0, k1, k2]; try rfl) rfl ?_
              exact ⟨_, _, _, nxt V V' L', 0, rfl, hoc, HE.out, hbz⟩
end Go.Proofs.Ytedpfmalhapmeaa

/- What awake answers: true. -/
namespace Go.Proofs.Ytedpfmalhapmeaa
open Go.RowKit Go.Maps
set_option linter.unusedVariables false
set_option maxRecDepth 100000

theorem isL_eq {S : UInt64 → Nat} {s : Nat} {a b : List UInt64} (ha : IsL S s a) (hb : IsL S s b) : a = b := ha.1.ext hb.1 (fun x => by rw [ha.2, hb.2])

def aw0 : Cn := ([1, 2, 3], [], [])
def awq : List Cg := [(1, 4), (3, 1)]
theorem aw_fold : foldS (seatF [1, 2, 3] []) awq = some (upd (upd (seatF [1, 2, 3] []) 4 1) 1 0) := by
  simp [foldS, awq, chg1]
theorem aw_V : IsL (upd (upd (seatF [1, 2, 3] []) 4 1) 1 0) 1 [2, 3, 4] := by
  refine ⟨by simp [Ris], fun x => ?_⟩
  unfold upd seatF
  by_cases h1 : x = 1
  · subst h1; simp
  · by_cases h4 : x = 4
    · subst h4; simp
    · simp only [h1, h4, if_false, List.not_mem_nil, List.mem_cons, or_false, false_or]
      by_cases h2 : x = 2
      · simp [h2]
      · by_cases h3 : x = 3
        · simp [h3]
        · simp [h2, h3]
theorem aw_L : IsL (upd (upd (seatF [1, 2, 3] []) 4 1) 1 0) 2 [] := by
  refine ⟨by simp [Ris], fun x => ?_⟩
  unfold upd seatF
  simp only [List.not_mem_nil, if_false, false_iff]
  split
  · omega
  · split
    · omega
    · split <;> omega
theorem mems_le (c : Cn) : (mems c).length ≤ c.1.length + (c.2.1.length + c.2.2.length) := by
  have h := cmK_len (srtd (c.1 ++ (c.2.1 ++ c.2.2))) (srtd (c.1 ++ (c.2.1 ++ c.2.2))).length
  have e : (srtd (c.1 ++ (c.2.1 ++ c.2.2))).length = c.1.length + (c.2.1.length + c.2.2.length) := by simp [srtd]
  unfold mems
  omega
theorem chk_of (c : Cn) (h1 : ok1 c.1 = true) (h2 : ok1 c.2.1 = true) (h3 : ok1 c.2.2 = true) (h4 : c.1 ≠ []) (h5 : c.2.2.any (vt c) = false) (h6 : c.1.length + (c.2.1.length + c.2.2.length) ≤ 9) : chk c = true := by
  have := mems_le c
  unfold chk
  simp only [h1, h2, h3, h5, Bool.true_and, Bool.not_false]
  simp [h4]
  omega
theorem aw_chk0 : chk aw0 = true := chk_of _ (by decide) (by decide) (by decide) (by simp [aw0]) (by decide) (by decide)
theorem aw_chk1 : chk (nxt [1, 2, 3] [2, 3, 4] []) = true := chk_of _ (by decide) (by decide) (by decide) (by simp [nxt]) (by decide) (by decide)
theorem aw_ent {res : Cn} {er : Nat} (h : EntR aw0 awq res er) : res = ([2, 3, 4], [1, 2, 3], []) ∧ er = 0 := by
  rcases h with ⟨h, _⟩ | ⟨_, h, _⟩ | ⟨_, _, h, _⟩ | ⟨_, _, S, V', L', hf, hV, hL, h⟩
  · rw [aw_chk0] at h; cases h
  · simp [aw0] at h
  · have := aw_fold; simp only [aw0] at h; rw [h] at this; cases this
  · have e := aw_fold
    simp only [aw0] at hf
    rw [hf] at e
    obtain rfl := Option.some.inj e
    obtain rfl := isL_eq hV aw_V
    obtain rfl := isL_eq hL aw_L
    have hc : chk (nxt aw0.1 [2, 3, 4] []) = true := aw_chk1
    rcases h with ⟨h, _⟩ | ⟨_, rfl, rfl⟩
    · rw [hc] at h; cases h
    · exact ⟨by simp [nxt, aw0], rfl⟩

theorem ru_lit3 (w : World) (p q r : UInt64) (x y z : Int) (hx : x = (p.toNat : Int)) (hy : y = (q.toNat : Int)) (hz : z = (r.toNat : Int)) (g : Nat) (hg : g = w.heap.size) : Ru (w.alloc (.cells #[.int .u64 x, .int .u64 y, .int .u64 z] 25)) (.slice (some ⟨g, 0, none⟩) 3 3) [p, q, r] := by
  subst hx; subst hy; subst hz
  exact (Ou.made 0 w [p, q, r] 3 rfl (Nat.zero_le _) (by simp [maxLen]) #[.int .u64 (p.toNat : Int), .int .u64 (q.toNat : Int), .int .u64 (r.toNat : Int)] rfl g hg).ru
theorem rdx_lit2 (w : World) (p q : Cg) (hp : -9223372036854775808 ≤ p.1 ∧ p.1 ≤ 9223372036854775807) (hq : -9223372036854775808 ≤ q.1 ∧ q.1 ≤ 9223372036854775807) (t : TypeId) (g : Nat) (hg : g = w.heap.size) : RdX (w.alloc (.cells #[.int .i64 p.1, .int .u64 (p.2.toNat : Int), .int .i64 q.1, .int .u64 (q.2.toNat : Int)] t)) (.slice (some ⟨g, 0, none⟩) 2 2) [p, q] := by
  subst hg
  have hc : ∀ j u, #[Value.int .i64 p.1, .int .u64 (p.2.toNat : Int), .int .i64 q.1, .int .u64 (q.2.toNat : Int)][j]? = some u → (w.alloc (.cells #[.int .i64 p.1, .int .u64 (p.2.toNat : Int), .int .i64 q.1, .int .u64 (q.2.toNat : Int)] t)).cell? ⟨w.heap.size, j, none⟩ = some u := fun j u e => by
    rw [World.cell?_alloc_at _ _ _ _ rfl]; exact e
  refine ⟨some ⟨w.heap.size, 0, none⟩, 2, rfl, by simp, by simp [maxLen], fun r hr => ?_, fun i r hi => ?_⟩
  · simp only [List.mem_cons, List.not_mem_nil, or_false] at hr
    rcases hr with rfl | rfl
    · exact hp
    · exact hq
  · match i with
    | 0 => simp at hi; subst hi; exact ⟨_, rfl, hc 0 _ rfl, hc 1 _ rfl⟩
    | 1 => simp at hi; subst hi; exact ⟨_, rfl, hc 2 _ rfl, hc 3 _ rfl⟩
    | i + 2 => simp at hi

set_option maxHeartbeats 2000000 in
theorem awake_any (w : World) : Calls Try.prog 7 #[] w fun e w' => e = .returned (.bool true) ∧ Below w.heap.size w w' := by
  have h1 := ru_lit3 w 1 2 3 1 2 3 rfl rfl rfl w.heap.size rfl
  have h2 := rdx_lit2 (w.alloc (.cells #[.int .u64 1, .int .u64 2, .int .u64 3] 25)) (1, 4) (3, 1) (by decide) (by decide) 50 (w.heap.size + 1) (by simp)
  have hb0 : Below w.heap.size w ((w.alloc (.cells #[.int .u64 1, .int .u64 2, .int .u64 3] 25)).alloc (.cells #[.int .i64 1, .int .u64 4, .int .i64 3, .int .u64 1] 50)) := (u_al w _).alloc (by simp) _
  have hen := enter_any (N := 12) (usort_small len_ok) (c := aw0) (qs := awq) ⟨h1.alloc (.cells #[.int .i64 1, .int .u64 4, .int .i64 3, .int .u64 1] 50), Ru.nil _, Ru.nil _⟩ h2 (by decide) (by decide) (by decide) (.inr fun S V' L' hf hV hL => by
    have e := aw_fold
    simp only [aw0] at hf
    rw [hf] at e
    obtain rfl := Option.some.inj e
    obtain rfl := isL_eq hV aw_V
    obtain rfl := isL_eq hL aw_L
    decide)
  go_enter Try.func7, Try.ntmps7
  go_wp2_with fail
  refine hen.mono ?_
  rintro e w1 ⟨x', y', z', res, er, rfl, hoc, hent, hb1'⟩
  obtain ⟨rfl, rfl⟩ := aw_ent hent
  have hb1 : Below w.heap.size w w1 := hb0.trans (hb1'.mono hb0.size)
  obtain ⟨k1, k2, k3⟩ := hoc.rc
  simp only [] at k1 k2 k3
  obtain ⟨ax, cx, rfl⟩ := k1.shape
  obtain ⟨ay, cy, rfl⟩ := k2.shape
  obtain ⟨az, cz, rfl⟩ := k3.shape
  clear hen hent hoc hb1' h1 h2 hb0
  simp only [List.length_cons, List.length_nil, Nat.zero_add, Nat.reduceAdd] at k1 k2 k3 ⊢
  have hA := u_al w1 (.cells #[.slice ax 3 cx, .slice ay 3 cy, .slice az 0 cz] 24)
  have hKC : ∀ W, Below (w1.heap.size + 1) (w1.alloc (.cells #[.slice ax 3 cx, .slice ay 3 cy, .slice az 0 cz] 24)) W → W.cell? ⟨w1.heap.size, 0, none⟩ = some (.slice ax 3 cx) ∧ W.cell? ⟨w1.heap.size, 1, none⟩ = some (.slice ay 3 cy) ∧ W.cell? ⟨w1.heap.size, 2, none⟩ = some (.slice az 0 cz) := fun W hW => box3 hW rfl
  have HKC : Hid _ := hKC
  clear hKC
  have hz : (w1.alloc (.cells #[.slice ax 3 cx, .slice ay 3 cy, .slice az 0 cz] 24)).heap.size = w1.heap.size + 1 := by simp
  go_wp2_with fail
  generalize (w1.alloc (.cells #[.slice ax 3 cx, .slice ay 3 cy, .slice az 0 cz] 24)) = W0 at *
  have hW0 : Below w.heap.size w W0 := hb1.trans (hA.mono hb1.size)
  have hs1 := hA.size
  have l1 := ru_lit3 W0 2 3 4 2 3 4 rfl rfl rfl (w1.heap.size + 1) hz.symm
  have q1 := sameU_any ((k1.below hA (Nat.le_refl _)).alloc (.cells #[.int .u64 2, .int .u64 3, .int .u64 4] 25)) l1
  rw [show decide (([2, 3, 4] : List UInt64) = [2, 3, 4]) = true from decide_eq_true rfl] at q1
  refine q1.mono ?_
  rintro e w2 ⟨rfl, n2, rfl⟩
  have hb2 : Below (w1.heap.size + 1) W0 ((W0.alloc (.cells #[.int .u64 2, .int .u64 3, .int .u64 4] 25)).drewN n2) := Below.drN ((Below.refl _ _).alloc (by omega) _) n2
  have hz2 : ((W0.alloc (.cells #[.int .u64 2, .int .u64 3, .int .u64 4] 25)).drewN n2).heap.size = w1.heap.size + 2 := by
    show (W0.alloc (.cells #[.int .u64 2, .int .u64 3, .int .u64 4] 25)).heap.size = _
    rw [World.size_alloc, hz]
  obtain ⟨d0, d1, d2⟩ := HKC.out _ hb2
  clear q1 l1
  go_wp2_with fail
  generalize hW2 : (W0.alloc (.cells #[.int .u64 2, .int .u64 3, .int .u64 4] 25)).drewN n2 = W2 at *
  have hA2 : Below w1.heap.size w1 W2 := hA.trans (hb2.mono (Nat.le_succ _))
  have l2 := ru_lit3 W2 1 2 3 1 2 3 rfl rfl rfl (w1.heap.size + 1 + 1) (by omega)
  have q2 := sameU_any ((k2.below hA2 (Nat.le_refl _)).alloc (.cells #[.int .u64 1, .int .u64 2, .int .u64 3] 25)) l2
  rw [show decide (([1, 2, 3] : List UInt64) = [1, 2, 3]) = true from decide_eq_true rfl] at q2
  refine q2.mono ?_
  rintro e w3 ⟨rfl, n3, rfl⟩
  have hb3 : Below (w1.heap.size + 1) W0 ((W2.alloc (.cells #[.int .u64 1, .int .u64 2, .int .u64 3] 25)).drewN n3) := Below.drN (hb2.alloc (by omega) _) n3
  obtain ⟨e0, e1, e2⟩ := HKC.out _ hb3
  clear q2 l2 d0 d1 d2
  have hA3 : Below w1.heap.size w1 ((W2.alloc (.cells #[.int .u64 1, .int .u64 2, .int .u64 3] 25)).drewN n3) := hA.trans (hb3.mono (Nat.le_succ _))
  have hj := ujoint_any (c := ([2, 3, 4], [1, 2, 3], [])) ⟨k1.below hA3 (Nat.le_refl _), k2.below hA3 (Nat.le_refl _), k3.below hA3 (Nat.le_refl _)⟩
  have hB3 : Below w.heap.size w ((W2.alloc (.cells #[.int .u64 1, .int .u64 2, .int .u64 3] 25)).drewN n3) := hb1.trans (hA3.mono hb1.size)
  go_wp2_with fail
  refine hj.mono ?_
  rintro e w4 ⟨rfl, hb4⟩
  go_wp2_with fail
  go_ret
  exact ⟨rfl, hB3.trans (hb4.mono hB3.size)⟩
end Go.Proofs.Ytedpfmalhapmeaa

/- Quorums meet: the mathematics of ConfMeets. -/
namespace Go.Proofs.Ytedpfmalhapmeaa
open Go.RowKit Go.Sort
set_option linter.unusedVariables false
set_option linter.unusedSimpArgs false
set_option maxRecDepth 100000

/-- Have two lists a number in common that is in a third one? -/
def mtF (a b m : List UInt64) : Bool := a.any (fun p => decide (p ∈ b) && decide (p ∈ m))
theorem mtF_of {a b m : List UInt64} {p : UInt64} (h1 : p ∈ a) (h2 : p ∈ b) (h3 : p ∈ m) : mtF a b m = true := by
  unfold mtF
  rw [List.any_eq_true]
  exact ⟨p, h1, by simp [h2, h3]⟩
theorem cnt_meet (a b vs : List UInt64) (h : vs.length < cnt a vs + cnt b vs) : ∃ p ∈ vs, p ∈ a ∧ p ∈ b := by
  unfold cnt at h
  induction vs with
  | nil => simp at h
  | cons p r ih =>
    by_cases ha : p ∈ a
    · by_cases hb : p ∈ b
      · exact ⟨p, List.mem_cons_self .., ha, hb⟩
      · simp only [List.filter_cons, ha, hb, decide_true, decide_false, if_true, Bool.false_eq_true, if_false, List.length_cons] at h
        obtain ⟨q, hq, h1⟩ := ih (by omega)
        exact ⟨q, List.mem_cons_of_mem _ hq, h1⟩
    · by_cases hb : p ∈ b
      · simp only [List.filter_cons, ha, hb, decide_true, decide_false, if_true, Bool.false_eq_true, if_false, List.length_cons] at h
        obtain ⟨q, hq, h1⟩ := ih (by omega)
        exact ⟨q, List.mem_cons_of_mem _ hq, h1⟩
      · simp only [List.filter_cons, ha, hb, decide_true, decide_false, if_true, Bool.false_eq_true, if_false, List.length_cons] at h
        obtain ⟨q, hq, h1⟩ := ih (by omega)
        exact ⟨q, List.mem_cons_of_mem _ hq, h1⟩
/-- A quorum. -/
def qu (c : Cn) (l : List UInt64) : Bool := chk c && agr (cnt l) c
theorem qu_1 {c : Cn} {l : List UInt64} (h : qu c l = true) : c.1.length < 2 * cnt l c.1 := by
  unfold qu agr at h
  simp only [Bool.and_eq_true, decide_eq_true_eq] at h
  exact h.2.1
theorem qu_2 {c : Cn} {l : List UInt64} (h : qu c l = true) (h0 : c.2.1 ≠ []) : c.2.1.length < 2 * cnt l c.2.1 := by
  unfold qu agr at h
  simp only [Bool.and_eq_true, Bool.or_eq_true, decide_eq_true_eq] at h
  rcases h.2.2 with h | h
  · exact absurd (List.length_eq_zero_iff.1 h) h0
  · exact h
theorem meet_one {c : Cn} {a b vs : List UInt64} (h1 : vs.length < 2 * cnt a vs) (h2 : vs.length < 2 * cnt b vs) (h : ∀ p ∈ vs, p ∈ mems c) : mtF a b (mems c) = true := by
  obtain ⟨p, hp, ha, hb⟩ := cnt_meet a b vs (by omega)
  exact mtF_of ha hb (h p hp)
theorem meet_self {c : Cn} {a b : List UInt64} (h1 : qu c a = true) (h2 : qu c b = true) : mtF a b (mems c) = true :=
  meet_one (qu_1 h1) (qu_1 h2) (fun p hp => ((mems_is c).2 p).2 (.inl hp))
theorem chk_ne {c : Cn} (h : chk c = true) : c.1 ≠ [] := by
  unfold chk at h
  simp only [Bool.and_eq_true, decide_eq_true_eq] at h
  exact h.2.2.2.1
/-- What Enter makes where it refuses nothing. -/
theorem ent_ok {c : Cn} {qs : List Cg} {res : Cn} (h : EntR c qs res 0) : chk c = true ∧ c.2.1 = [] ∧ chk res = true ∧ ∃ V' L', res = nxt c.1 V' L' := by
  rcases h with ⟨_, _, h⟩ | ⟨_, _, _, h⟩ | ⟨_, _, _, _, h⟩ | ⟨h1, h2, S, V', L', _, _, _, ⟨_, _, h⟩ | ⟨h3, h4, _⟩⟩
  · omega
  · omega
  · omega
  · omega
  · exact ⟨h1, h2, by rw [h4]; exact h3, V', L', h4⟩
theorem nxt_joint {V V' L' : List UInt64} (hV : V ≠ []) : (nxt V V' L').2.1 = V ∧ 0 < (nxt V V' L').2.1.length ∨ ((nxt V V' L').2.1 = [] ∧ V' = V) := by
  unfold nxt
  by_cases h : V' = V
  · exact .inr ⟨by simp [h], h⟩
  · refine .inl ⟨by simp [h], ?_⟩
    simp only [h, if_false]
    exact List.length_pos_iff.2 hV
theorem meet_next {c : Cn} {qs : List Cg} {d : Cn} {a b : List UInt64} (h : EntR c qs d 0) (h1 : qu c a = true) (h2 : qu d b = true) : mtF a b (mems c) = true := by
  obtain ⟨hc, ho, hd, V', L', rfl⟩ := ent_ok h
  have hne := chk_ne hc
  refine meet_one (qu_1 h1) ?_ (fun p hp => ((mems_is c).2 p).2 (.inl hp))
  rcases nxt_joint (V' := V') (L' := L') hne with ⟨e, h0⟩ | ⟨e, rfl⟩
  · have := qu_2 h2 (fun q => by rw [q] at h0; simp at h0)
    rw [e] at this
    exact this
  · have h3 := qu_1 h2
    exact h3
/-- What Leave makes. -/
def lv (d : Cn) : Cn := (d.1, [], d.2.2)
theorem ris_len {a b : List UInt64} (ha : Ris a) (h : ∀ x ∈ a, x ∈ b) : a.length ≤ b.length := by
  have nd : a.Nodup := ha.imp (fun h e => by subst e; omega)
  clear ha
  induction a generalizing b with
  | nil => simp
  | cons x r ih =>
    have hx := h x (List.mem_cons_self ..)
    have hn := List.nodup_cons.1 nd
    have := ih (b := b.erase x) (fun y hy => by
      have hne : y ≠ x := fun e => hn.1 (by rw [← e]; exact hy)
      exact (List.mem_erase_of_ne hne).2 (h y (List.mem_cons_of_mem _ hy))) hn.2
    rw [List.length_erase_of_mem hx] at this
    have hp := List.length_pos_of_mem hx
    simp only [List.length_cons]
    omega
theorem chk_lv {d : Cn} (h : chk d = true) : chk (lv d) = true := by
  have hm : (mems (lv d)).length ≤ (mems d).length := ris_len (mems_is (lv d)).1 (fun x hx => by
    rw [(mems_is d).2]
    rcases ((mems_is (lv d)).2 x).1 hx with h | h | h
    · exact .inl h
    · simp [lv] at h
    · exact .inr (.inr h))
  unfold chk at h ⊢
  simp only [Bool.and_eq_true, decide_eq_true_eq, Bool.not_eq_true'] at h ⊢
  obtain ⟨h1, h2, h3, h4, h5, h6⟩ := h
  refine ⟨h1, by show ok1 [] = true; decide, h3, h4, ?_, by omega⟩
  rw [List.any_eq_false] at h5 ⊢
  intro x hx hv
  refine h5 x hx ?_
  unfold vt at hv ⊢
  have hv2 : (decide (x ∈ d.1) || decide (x ∈ ([] : List UInt64))) = true := hv
  have hx1 : x ∈ d.1 := by
    rcases Bool.or_eq_true_iff.1 hv2 with h | h
    · exact of_decide_eq_true h
    · exact absurd (of_decide_eq_true h) (by simp)
  simp [hx1]
theorem meet_left {d : Cn} {a b : List UInt64} (h1 : qu d a = true) (h2 : qu (lv d) b = true) : mtF a b (mems d) = true :=
  have h3 := qu_1 h2
  meet_one (qu_1 h1) h3 (fun p hp => ((mems_is d).2 p).2 (.inl hp))
end Go.Proofs.Ytedpfmalhapmeaa

/- The document's rises, Members, Check. -/
namespace Go.Proofs.Ytedpfmalhapmeaa
open Go.RowKit Go.Sort
set_option linter.unusedVariables false
set_option maxRecDepth 100000

theorem risF_drop (l : List UInt64) (k : Nat) (h : k < l.length) (n : Nat) : risF n (l.drop k) = (decide (n < (l[k]).toNat) && risF (l[k]).toNat (l.drop (k + 1))) := by
  rw [List.drop_eq_getElem_cons h, risF]

set_option maxHeartbeats 2000000 in
theorem rrises_any {v : Value} {l : List UInt64} {w : World} (hr : Ru w v l) :
    Calls Try.prog 37 #[v] w fun e w' => e = .returned (.bool (risF 0 l)) ∧ Below w.heap.size w w' := by
  have HRW : Hid (∀ W, Below w.heap.size w W → Ru W v l) := fun W hW => hr.below hW (Nat.le_refl _)
  have HBN : Hid (∀ W n, Below w.heap.size w W → Below w.heap.size w (W.drewN n)) := fun W n hW => below_drewN hW n
  obtain ⟨ao, c, rfl⟩ := hr.shape
  have hm := hr.len
  unfold maxLen at hm
  clear hr
  generalize hR : risF 0 l = R
  have HR : Hid _ := hR
  clear hR
  go_enter Try.func37, Try.ntmps37
  go_wp2_with fail
  go_loopw [3] (fun i wr => ∃ (k n : Nat), k ≤ l.length ∧ i = .int .i64 k ∧ (k = 0 → n = 0) ∧ Hid (k ≠ 0 → n = (l.getD (k - 1) 0).toNat) ∧ Hid (risF n (l.drop k) = R) ∧ Below w.heap.size w wr) (fun i _ => l.length - (intOf i).toNat)
  case atStart => exact ⟨0, 0, Nat.zero_le _, rfl, fun _ => rfl, fun h => absurd rfl h, by show risF 0 (l.drop 0) = R; rw [List.drop_zero]; exact HR.out, Below.refl _ _⟩
  case round =>
    obtain ⟨k, n, hk, rfl, hn0, HN, HX, hbw⟩ := hrel
    obtain ⟨a', c', e', h1, h2, h3, h4⟩ := HRW.out wr hbw
    simp only [Value.slice.injEq, true_and] at e'
    obtain ⟨rfl, rfl⟩ := e'
    unfold maxLen at h2
    by_cases hlt : k < l.length
    · obtain ⟨a, rfl, hc⟩ := h4 k hlt
      have HX2 : Hid _ := (risF_drop l k hlt n).symm.trans HX.out
      have HNX : Hid (k + 1 ≠ 0 → (l[k]).toNat = (l.getD (k + 1 - 1) 0).toNat) := fun _ => by rw [Nat.add_sub_cancel, List.getD_eq_getElem?_getD, List.getElem?_eq_getElem hlt]; rfl
      have hki : (k : Int) < (l.length : Int) := by omega
      by_cases hk0 : k = 0
      · subst hk0
        obtain rfl := hn0 rfl
        have hc0 : wr.cell? a = some (.int .u64 ((l[0]).toNat : Int)) := hc
        clear h4 h3 HX HN hn0
        generalize l[0] = y at *
        by_cases hy : y.toNat = 0
        · have hy2 : ((y.toNat : Int) == 0) = true := by simp [hy]
          have hR : R = false := by rw [← HX2.out]; simp [hy]
          subst hR
          clear HX2 HR hy
          go_wp2_with fail
          go_quiet (fail)
          go_wp2_with fail
          go_ret
          exact ⟨rfl, HBN.out _ _ hbw⟩
        · have hy2 : ((y.toNat : Int) == 0) = false := by simp; omega
          have HX3 : Hid (risF y.toNat (l.drop 1) = R) := by
            have h := HX2.out
            rw [decide_eq_true (by omega), Bool.true_and] at h
            exact h
          have hd0 : decide ((0 : Int) < ((0 : Nat) : Int)) = false := by decide
          clear HX2 HR
          go_wp2_with fail
          go_quiet (fail)
          go_wp2_with fail
          exact ⟨⟨1, y.toNat, by omega, by go_num, (fun h => by omega), HNX, HX3, HBN.out _ _ hbw⟩, by simp [intOf]; omega⟩
      · obtain ⟨a2, e2, hc2⟩ := h4 (k - 1) (by omega)
        obtain rfl := Option.some.inj e2
        have hnl : n = (l[k - 1]).toNat := by rw [HN.out hk0, List.getD_eq_getElem?_getD, List.getElem?_eq_getElem (by omega)]; rfl
        rw [← hnl] at hc2
        have hsub : IntKind.i64.wrap ((k : Int) - 1) = ((k - 1 : Nat) : Int) := by rw [IntKind.wrap_i64]; omega
        have hk1i : ((k - 1 : Nat) : Int) < (l.length : Int) := by omega
        have hk2i : (0 : Int) ≤ ((k - 1 : Nat) : Int) := by omega
        have hd0 : decide ((0 : Int) < (k : Int)) = true := by simp; omega
        have hk0i : (0 : Int) < (k : Int) := by omega
        have hd1 : decide (0 < k) = true := by simp; omega
        clear h4 h3 HX HN hn0 hnl
        generalize l[k] = y at *
        have HK1 : Hid (k ≠ 0) := hk0
        by_cases hy : y.toNat = 0
        · have hy2 : ((y.toNat : Int) == 0) = true := by simp [hy]
          have hR : R = false := by rw [← HX2.out]; simp [hy]
          subst hR
          clear HX2 HR hy
          go_wp2_with fail
          go_quiet (fail)
          go_wp2_with fail
          go_ret
          exact ⟨rfl, HBN.out _ _ hbw⟩
        · have hy2 : ((y.toNat : Int) == 0) = false := by simp; omega
          by_cases hny : n < y.toNat
          · have hg : decide ((y.toNat : Int) ≤ (n : Int)) = false := by simp; omega
            have HX3 : Hid (risF y.toNat (l.drop (k + 1)) = R) := by
              have h := HX2.out
              rw [decide_eq_true hny, Bool.true_and] at h
              exact h
            clear HX2 HR
            go_wp2_with fail
            go_quiet (fail)
            go_wp2_with fail
            exact ⟨⟨k + 1, y.toNat, by omega, by go_num, (fun h => by omega), HNX, HX3, HBN.out _ _ hbw⟩, by simp [intOf]; omega⟩
          · have hg : decide ((y.toNat : Int) ≤ (n : Int)) = true := by simp; omega
            have hR : R = false := by rw [← HX2.out, decide_eq_false hny]; rfl
            subst hR
            clear HX2 HR
            go_wp2_with fail
            go_quiet (fail)
            go_wp2_with fail
            go_ret
            exact ⟨rfl, HBN.out _ _ hbw⟩
    · obtain rfl : k = l.length := by omega
      have hR : R = true := by have := HX.out; rw [List.drop_length] at this; exact this.symm
      subst hR
      clear h4 h3 HX HN HR
      go_wp2_with fail
      go_ret
      exact ⟨rfl, hbw⟩

/-- Numbers put in their places one by one. -/
def ptF (l0 vs : List UInt64) : List UInt64 := vs.foldl (fun l v => putF v false l) l0
theorem ptF_snoc (l0 vs : List UInt64) (k : Nat) (h : k < vs.length) : ptF l0 (vs.take (k + 1)) = putF vs[k] false (ptF l0 (vs.take k)) := by
  unfold ptF; rw [List.take_succ_eq_append_getElem h, List.foldl_append]; rfl
theorem ptF_len (l0 : List UInt64) : ∀ vs : List UInt64, (ptF l0 vs).length ≤ l0.length + vs.length := by
  intro vs
  induction vs generalizing l0 with
  | nil => simp [ptF]
  | cons a r ih => have := ih (putF a false l0); have := putF_len a l0; simp only [ptF, List.foldl_cons, List.length_cons] at *; omega
theorem ptF_is : ∀ (vs l0 : List UInt64), Ris l0 → Ris (ptF l0 vs) ∧ ∀ x, x ∈ ptF l0 vs ↔ x ∈ l0 ∨ x ∈ vs := by
  intro vs
  induction vs with
  | nil => intro l0 h; exact ⟨h, fun x => by simp [ptF]⟩
  | cons a r ih =>
    intro l0 h
    obtain ⟨h1, h2⟩ := ih (putF a false l0) (putF_ris a l0 h)
    refine ⟨h1, fun x => ?_⟩
    show x ∈ ptF (putF a false l0) r ↔ _
    rw [h2, putF_mem, List.mem_cons]
    exact ⟨fun h => h.elim (fun q => q.elim (fun q => .inr (.inl q)) .inl) (fun q => .inr (.inr q)), fun h => h.elim (fun q => .inl (.inr q)) (fun q => q.elim (fun q => .inl (.inl q)) .inr)⟩
theorem ptF_mems (c : Cn) : ptF (ptF (ptF [] c.1) c.2.1) c.2.2 = mems c := by
  obtain ⟨a1, a2⟩ := ptF_is c.1 [] List.Pairwise.nil
  obtain ⟨b1, b2⟩ := ptF_is c.2.1 _ a1
  obtain ⟨d1, d2⟩ := ptF_is c.2.2 _ b1
  refine IsMem.eq ⟨d1, fun x => ?_⟩
  rw [d2, b2, a2]
  simp [or_assoc]

set_option maxHeartbeats 4000000 in
theorem rmembers_any {x y z : Value} {c : Cn} {w : World} (hr : Rc w x y z c) (hl : c.1.length + c.2.1.length + c.2.2.length ≤ 1099511627776) :
    Calls Try.prog 19 #[.agg #[x, y, z]] w fun e w' => ∃ am cm, e = .returned (.slice am (mems c).length cm) ∧ Ou w.heap.size w' (.slice am (mems c).length cm) (mems c) ∧ Below w.heap.size w w' := by
  have hB := u_al w (.cells #[x, y, z] 24)
  have HK : Hid (∀ W, Below (w.heap.size + 1) (w.alloc (.cells #[x, y, z] 24)) W → W.cell? ⟨w.heap.size, 0, none⟩ = some x ∧ W.cell? ⟨w.heap.size, 1, none⟩ = some y ∧ W.cell? ⟨w.heap.size, 2, none⟩ = some z) := fun W hW => box3 hW rfl
  have HB : Hid (∀ W, Below (w.heap.size + 1) (w.alloc (.cells #[x, y, z] 24)) W → Below w.heap.size w W) := fun W hW => hB.trans (hW.mono (by omega))
  have HZ : Hid (∀ W, Below (w.heap.size + 1) (w.alloc (.cells #[x, y, z] 24)) W → w.heap.size + 1 ≤ W.heap.size) := fun W hW => by
    have := hW.size; simp only [World.size_alloc] at this; omega
  have HR1 : Hid (∀ W, Below (w.heap.size + 1) (w.alloc (.cells #[x, y, z] 24)) W → Ru W x c.1) := fun W hW => hr.1.below (HB.out W hW) (Nat.le_refl _)
  have HR2 : Hid (∀ W, Below (w.heap.size + 1) (w.alloc (.cells #[x, y, z] 24)) W → Ru W y c.2.1) := fun W hW => hr.2.1.below (HB.out W hW) (Nat.le_refl _)
  have HR3 : Hid (∀ W, Below (w.heap.size + 1) (w.alloc (.cells #[x, y, z] 24)) W → Ru W z c.2.2) := fun W hW => hr.2.2.below (HB.out W hW) (Nat.le_refl _)
  have hS0 : Below (w.heap.size + 1) (w.alloc (.cells #[x, y, z] 24)) (w.alloc (.cells #[x, y, z] 24)) := Below.refl _ _
  have hM := ptF_mems c
  have HM : Hid _ := hM
  have hl1 := ptF_len [] c.1
  have hl2 := ptF_len (ptF [] c.1) c.2.1
  obtain ⟨ax, cx, rfl⟩ := hr.1.shape
  obtain ⟨ay, cy, rfl⟩ := hr.2.1.shape
  obtain ⟨az, cz, rfl⟩ := hr.2.2.shape
  obtain ⟨V, O, L⟩ := c
  simp only [List.length_nil, Nat.zero_add] at *
  have HPUT : Hid (∀ W q l v, Ou (w.heap.size + 1) W q l → l.length ≤ 1099511627776 → w.heap.size + 1 ≤ W.heap.size → Calls Try.prog 40 #[q, .int .u64 ((v : UInt64).toNat : Int)] W fun e w' => ∃ v', e = .returned v' ∧ Ou (w.heap.size + 1) w' v' (putF v false l) ∧ Below (w.heap.size + 1) W w') := fun W q l v ho hl hz => (rput_any ho.ru hl).mono (by
    rintro e w' ⟨v', rfl, h1, h2⟩
    exact ⟨v', rfl, h1.mono hz, h2.mono hz⟩)
  clear hr hM
  generalize mems (V, O, L) = R at *
  go_enter Try.func19, Try.ntmps19
  go_wp2_with fail
  generalize (w.alloc (.cells #[.slice ax V.length cx, .slice ay O.length cy, .slice az L.length cz] 24)) = W0 at *
  go_loopw [3, 4] (fun o i wr => ∃ k : Nat, k ≤ V.length ∧ i = .int .i64 k ∧ Ou (w.heap.size + 1) wr o (ptF [] (V.take k)) ∧ Below (w.heap.size + 1) W0 wr) (fun _ i _ => V.length - (intOf i).toNat)
  case atStart => exact ⟨0, Nat.zero_le _, rfl, Ou.nil _ _, hS0⟩
  case round =>
    obtain ⟨k, hk, rfl, ho, hb⟩ := hrel
    obtain ⟨k0, k1, k2⟩ := HK.out wr hb
    obtain ⟨a', c', e', h1, h2, h3, h4⟩ := HR1.out wr hb
    simp only [Value.slice.injEq, true_and] at e'
    obtain ⟨rfl, rfl⟩ := e'
    unfold maxLen at h2
    by_cases hlt : k < V.length
    · obtain ⟨a, rfl, hc⟩ := h4 k hlt
      have HS : Hid _ := ptF_snoc [] V k hlt
      have hlk := ptF_len [] (V.take k)
      rw [List.length_take, List.length_nil] at hlk
      have hput := HPUT.out wr _ _ V[k] ho (by omega) (HZ.out wr hb)
      generalize V[k] = vk at *
      clear h4 h3 hlk
      obtain ⟨aq, cq, rfl⟩ := ho.shape
      go_wp2_with fail
      refine hput.mono ?_
      rintro e w1 ⟨v1, rfl, ho1, hb1⟩
      rw [← HS.out] at ho1
      obtain ⟨a1, e1, rfl⟩ := ho1.shape
      go_wp2_with fail
      exact ⟨⟨k + 1, by omega, by go_num, ho1, hb.trans hb1⟩, by simp [intOf]; omega⟩
    · obtain rfl : k = V.length := by omega
      rw [List.take_length] at ho
      clear h4 h3 HR1
      generalize ptF [] V = PV at *
      go_wp2_with fail
      clear k0 k1 k2
      generalize hwr : wr = W1 at *
      clear hwr wr
      go_loopw [3, 5] (fun o i wr => ∃ k : Nat, k ≤ O.length ∧ i = .int .i64 k ∧ Ou (w.heap.size + 1) wr o (ptF PV (O.take k)) ∧ Below (w.heap.size + 1) W0 wr) (fun _ i _ => O.length - (intOf i).toNat)
      case atStart => exact ⟨0, Nat.zero_le _, rfl, ho, hb⟩
      case round =>
        obtain ⟨k, hk, rfl, ho, hb⟩ := hrel
        obtain ⟨k0, k1, k2⟩ := HK.out wr hb
        obtain ⟨a', c', e', h1, h2, h3, h4⟩ := HR2.out wr hb
        simp only [Value.slice.injEq, true_and] at e'
        obtain ⟨rfl, rfl⟩ := e'
        unfold maxLen at h2
        by_cases hlt : k < O.length
        · obtain ⟨a, rfl, hc⟩ := h4 k hlt
          have HS : Hid _ := ptF_snoc PV O k hlt
          have hlk := ptF_len PV (O.take k)
          rw [List.length_take] at hlk
          have hput := HPUT.out wr _ _ O[k] ho (by omega) (HZ.out wr hb)
          generalize O[k] = vk at *
          clear h4 h3 hlk
          obtain ⟨aq, cq, rfl⟩ := ho.shape
          go_wp2_with fail
          refine hput.mono ?_
          rintro e w1 ⟨v1, rfl, ho1, hb1⟩
          rw [← HS.out] at ho1
          obtain ⟨a1, e1, rfl⟩ := ho1.shape
          go_wp2_with fail
          exact ⟨⟨k + 1, by omega, by go_num, ho1, hb.trans hb1⟩, by simp [intOf]; omega⟩
        · obtain rfl : k = O.length := by omega
          rw [List.take_length] at ho
          clear h4 h3 HR2
          generalize ptF PV O = PO at *
          go_wp2_with fail
          clear k0 k1 k2
          generalize hwr : wr = W2 at *
          clear hwr wr
          go_loopw [3, 6] (fun o i wr => ∃ k : Nat, k ≤ L.length ∧ i = .int .i64 k ∧ Ou (w.heap.size + 1) wr o (ptF PO (L.take k)) ∧ Below (w.heap.size + 1) W0 wr) (fun _ i _ => L.length - (intOf i).toNat)
          case atStart => exact ⟨0, Nat.zero_le _, rfl, ho, hb⟩
          case round =>
            obtain ⟨k, hk, rfl, ho, hb⟩ := hrel
            obtain ⟨k0, k1, k2⟩ := HK.out wr hb
            obtain ⟨a', c', e', h1, h2, h3, h4⟩ := HR3.out wr hb
            simp only [Value.slice.injEq, true_and] at e'
            obtain ⟨rfl, rfl⟩ := e'
            unfold maxLen at h2
            by_cases hlt : k < L.length
            · obtain ⟨a, rfl, hc⟩ := h4 k hlt
              have HS : Hid _ := ptF_snoc PO L k hlt
              have hlk := ptF_len PO (L.take k)
              rw [List.length_take] at hlk
              have hput := HPUT.out wr _ _ L[k] ho (by omega) (HZ.out wr hb)
              generalize L[k] = vk at *
              clear h4 h3 hlk
              obtain ⟨aq, cq, rfl⟩ := ho.shape
              go_wp2_with fail
              refine hput.mono ?_
              rintro e w1 ⟨v1, rfl, ho1, hb1⟩
              rw [← HS.out] at ho1
              obtain ⟨a1, e1, rfl⟩ := ho1.shape
              go_wp2_with fail
              exact ⟨⟨k + 1, by omega, by go_num, ho1, hb.trans hb1⟩, by simp [intOf]; omega⟩
            · obtain rfl : k = L.length := by omega
              rw [List.take_length, HM.out] at ho
              clear h4 h3 HR3 HM
              obtain ⟨aq, cq, rfl⟩ := ho.shape
              go_wp2_with fail
              go_ret
              exact ⟨aq, cq, rfl, ho.mono (Nat.le_succ _), HB.out _ hb⟩
end Go.Proofs.Ytedpfmalhapmeaa

/- The document's Check. -/
namespace Go.Proofs.Ytedpfmalhapmeaa
open Go.RowKit Go.Sort
set_option linter.unusedVariables false
set_option maxRecDepth 100000

theorem risF_ris : ∀ (l : List UInt64) (n : Nat), risF n l = true → Ris l ∧ ∀ x ∈ l, n < x.toNat := by
  intro l
  induction l with
  | nil => intro n _; exact ⟨List.Pairwise.nil, fun x hx => by cases hx⟩
  | cons a r ih =>
    intro n h
    simp only [risF, Bool.and_eq_true, decide_eq_true_eq] at h
    obtain ⟨h1, h2⟩ := ih _ h.2
    refine ⟨List.pairwise_cons.2 ⟨fun x hx => h2 x hx, h1⟩, fun x hx => ?_⟩
    rcases List.mem_cons.1 hx with rfl | hx
    · exact h.1
    · have := h2 x hx; omega
/-- What the document asks of a configuration is what the program asks of it. -/
theorem chk_ref (c : Cn) : chk c = (decide (c.1 ≠ []) && (risF 0 c.1 && (risF 0 c.2.1 && (risF 0 c.2.2 && (decide ((mems c).length ≤ 9) && !(c.2.2.any (vt c))))))) := by
  have hi := (mems_is c).2
  rw [Bool.eq_iff_iff]
  unfold chk ok1
  simp only [Bool.and_eq_true, decide_eq_true_eq]
  constructor
  · rintro ⟨⟨_, a⟩, ⟨_, b⟩, ⟨_, d⟩, e, f, g⟩
    exact ⟨e, a, b, d, g, f⟩
  · rintro ⟨e, a, b, d, g, f⟩
    have l1 := ris_len (risF_ris _ _ a).1 (fun x hx => (hi x).2 (.inl hx))
    have l2 := ris_len (risF_ris _ _ b).1 (fun x hx => (hi x).2 (.inr (.inl hx)))
    have l3 := ris_len (risF_ris _ _ d).1 (fun x hx => (hi x).2 (.inr (.inr hx)))
    exact ⟨⟨by omega, a⟩, ⟨by omega, b⟩, ⟨by omega, d⟩, e, f, g⟩
theorem any_take (c : Cn) (l : List UInt64) (k : Nat) (h : k < l.length) : (l.take (k + 1)).any (vt c) = ((l.take k).any (vt c) || vt c l[k]) := by
  rw [List.take_succ_eq_append_getElem h, List.any_append]; simp

set_option maxHeartbeats 4000000 in
theorem rcheck_any {x y z : Value} {c : Cn} {w : World} (hr : Rc w x y z c) (hl : c.1.length + c.2.1.length + c.2.2.length ≤ 1099511627776) :
    Calls Try.prog 12 #[.agg #[x, y, z]] w fun e w' => e = .returned (.int .i64 (if chk c = true then 0 else 70)) ∧ Below w.heap.size w w' := by
  have hB := u_al w (.cells #[x, y, z] 24)
  have HK : Hid (∀ W, Below (w.heap.size + 1) (w.alloc (.cells #[x, y, z] 24)) W → W.cell? ⟨w.heap.size, 0, none⟩ = some x ∧ W.cell? ⟨w.heap.size, 1, none⟩ = some y ∧ W.cell? ⟨w.heap.size, 2, none⟩ = some z) := fun W hW => box3 hW rfl
  have HB : Hid (∀ W, Below (w.heap.size + 1) (w.alloc (.cells #[x, y, z] 24)) W → Below w.heap.size w W) := fun W hW => hB.trans (hW.mono (by omega))
  have HZ : Hid (∀ W, Below (w.heap.size + 1) (w.alloc (.cells #[x, y, z] 24)) W → w.heap.size + 1 ≤ W.heap.size) := fun W hW => by
    have := hW.size; simp only [World.size_alloc] at this; omega
  have HRC : Hid (∀ W, Below (w.heap.size + 1) (w.alloc (.cells #[x, y, z] 24)) W → Rc W x y z c) := fun W hW => hr.below (HB.out W hW) (Nat.le_refl _)
  have hS0 : Below (w.heap.size + 1) (w.alloc (.cells #[x, y, z] 24)) (w.alloc (.cells #[x, y, z] 24)) := Below.refl _ _
  have hR0 : (if chk c = true then (0 : Int) else 70) = if (decide (c.1 ≠ []) && (risF 0 c.1 && (risF 0 c.2.1 && (risF 0 c.2.2 && (decide ((mems c).length ≤ 9) && !(c.2.2.any (vt c))))))) = true then 0 else 70 := by rw [← chk_ref]
  obtain ⟨ax, cx, rfl⟩ := hr.1.shape
  obtain ⟨ay, cy, rfl⟩ := hr.2.1.shape
  obtain ⟨az, cz, rfl⟩ := hr.2.2.shape
  rw [hR0]
  clear hR0 hr
  have HRI : Hid (∀ W v l, Below (w.heap.size + 1) (w.alloc (.cells #[.slice ax c.1.length cx, .slice ay c.2.1.length cy, .slice az c.2.2.length cz] 24)) W → Ru W v l → Calls Try.prog 37 #[v] W fun e w' => e = .returned (.bool (risF 0 l)) ∧ Below (w.heap.size + 1) (w.alloc (.cells #[.slice ax c.1.length cx, .slice ay c.2.1.length cy, .slice az c.2.2.length cz] 24)) w') := fun W v l hW hv => (rrises_any hv).mono (by
    rintro e w' ⟨rfl, h⟩
    exact ⟨rfl, hW.trans (h.mono (HZ.out W hW))⟩)
  have HME : Hid (∀ W, Below (w.heap.size + 1) (w.alloc (.cells #[.slice ax c.1.length cx, .slice ay c.2.1.length cy, .slice az c.2.2.length cz] 24)) W → Calls Try.prog 19 #[.agg #[.slice ax c.1.length cx, .slice ay c.2.1.length cy, .slice az c.2.2.length cz]] W fun e w' => ∃ am cm, e = .returned (.slice am (mems c).length cm) ∧ Below (w.heap.size + 1) (w.alloc (.cells #[.slice ax c.1.length cx, .slice ay c.2.1.length cy, .slice az c.2.2.length cz] 24)) w') := fun W hW => (rmembers_any (HRC.out W hW) hl).mono (by
    rintro e w' ⟨am, cm, rfl, _, h⟩
    exact ⟨am, cm, rfl, hW.trans (h.mono (HZ.out W hW))⟩)
  have HVO : Hid (∀ W p, Below (w.heap.size + 1) (w.alloc (.cells #[.slice ax c.1.length cx, .slice ay c.2.1.length cy, .slice az c.2.2.length cz] 24)) W → Calls Try.prog 17 #[.agg #[.slice ax c.1.length cx, .slice ay c.2.1.length cy, .slice az c.2.2.length cz], .int .u64 ((p : UInt64).toNat : Int)] W fun e w' => e = .returned (.bool (vt c p)) ∧ Below (w.heap.size + 1) (w.alloc (.cells #[.slice ax c.1.length cx, .slice ay c.2.1.length cy, .slice az c.2.2.length cz] 24)) w') := fun W p hW => (rvotes_any (HRC.out W hW)).mono (by
    rintro e w' ⟨rfl, h⟩
    exact ⟨rfl, hW.trans (h.mono (HZ.out W hW))⟩)
  have hmx : (mems c).length ≤ 1099511627776 := by have := mems_le c; omega
  have h5 : ∀ k, (h : k < c.2.2.length) → (c.2.2.take (k + 1)).any (vt c) = ((c.2.2.take k).any (vt c) || vt c c.2.2[k]) := fun k h => any_take c c.2.2 k h
  have H5 : Hid _ := h5
  have HV0 : Hid (c.1 = [] ↔ c.1.length = 0) := (List.length_eq_zero_iff).symm
  have HTR : Hid (∀ k, k ≤ c.2.2.length → c.2.2.any (vt c) = false ∨ c.2.2.any (vt c) = true) := fun _ _ => by cases c.2.2.any (vt c) <;> simp
  have HAN : Hid (∀ k, (h : k < c.2.2.length) → vt c c.2.2[k] = true → c.2.2.any (vt c) = true) := fun k h hv => List.any_eq_true.2 ⟨_, List.getElem_mem h, hv⟩
  have HAL : Hid ((c.2.2.take c.2.2.length).any (vt c) = false → c.2.2.any (vt c) = false) := by show _ → _; rw [List.take_length]; exact id
  generalize hG : (if (decide (c.1 ≠ []) && (risF 0 c.1 && (risF 0 c.2.1 && (risF 0 c.2.2 && (decide ((mems c).length ≤ 9) && !(c.2.2.any (vt c))))))) = true then (0 : Int) else 70) = G
  have HG : Hid _ := hG
  clear hG h5
  obtain ⟨k0, k1, k2⟩ := HK.out _ hS0
  by_cases hV : c.1.length = 0
  · obtain rfl : 70 = G := by rw [← HG.out, (HV0.out).2 hV]; rfl
    have hq : ((c.1.length : Int) == 0) = true := by simp [hV]
    clear HG hV
    go_enter Try.func12, Try.ntmps12
    go_wp2_with fail
    go_ret
    exact ⟨rfl, HB.out _ hS0⟩
  · have hq : ((c.1.length : Int) == 0) = false := by simp only [beq_eq_false_iff_ne, ne_eq]; omega
    have hVn : c.1 ≠ [] := fun e => hV (HV0.out.1 e)
    have HG2 : Hid ((if ((risF 0 c.1 && (risF 0 c.2.1 && (risF 0 c.2.2 && (decide ((mems c).length ≤ 9) && !(c.2.2.any (vt c))))))) = true then (0 : Int) else 70) = G) := by
      show _ = _
      rw [← HG.out, decide_eq_true hVn, Bool.true_and]
    clear HG hVn hV
    go_enter Try.func12, Try.ntmps12
    go_wp2_with fail
    generalize (w.alloc (.cells #[.slice ax c.1.length cx, .slice ay c.2.1.length cy, .slice az c.2.2.length cz] 24)) = W0 at *
    refine (HRI.out W0 _ _ hS0 (HRC.out W0 hS0).1).mono ?_
    rintro e w1 ⟨rfl, hS1⟩
    obtain ⟨l0, l1, l2⟩ := HK.out w1 hS1
    clear k0 k1 k2
    cases hr1 : risF 0 c.1 with
    | false =>
      obtain rfl : 70 = G := by rw [← HG2.out, hr1]; rfl
      clear HG2 hr1
      go_wp2_with fail
      go_ret
      exact ⟨rfl, HB.out _ hS1⟩
    | true =>
    have HG3 : Hid ((if ((risF 0 c.2.1 && (risF 0 c.2.2 && (decide ((mems c).length ≤ 9) && !(c.2.2.any (vt c)))))) = true then (0 : Int) else 70) = G) := by
      show _ = _
      rw [← HG2.out, hr1, Bool.true_and]
    clear HG2 hr1
    go_wp2_with fail
    refine (HRI.out w1 _ _ hS1 (HRC.out w1 hS1).2.1).mono ?_
    rintro e w2 ⟨rfl, hS2⟩
    obtain ⟨m0, m1, m2⟩ := HK.out w2 hS2
    clear l0 l1 l2
    cases hr2 : risF 0 c.2.1 with
    | false =>
      obtain rfl : 70 = G := by rw [← HG3.out, hr2]; rfl
      clear HG3 hr2
      go_wp2_with fail
      go_ret
      exact ⟨rfl, HB.out _ hS2⟩
    | true =>
    have HG4 : Hid ((if ((risF 0 c.2.2 && (decide ((mems c).length ≤ 9) && !(c.2.2.any (vt c))))) = true then (0 : Int) else 70) = G) := by
      show _ = _
      rw [← HG3.out, hr2, Bool.true_and]
    clear HG3 hr2
    go_wp2_with fail
    refine (HRI.out w2 _ _ hS2 (HRC.out w2 hS2).2.2).mono ?_
    rintro e w3 ⟨rfl, hS3⟩
    obtain ⟨n0, n1, n2⟩ := HK.out w3 hS3
    clear m0 m1 m2
    cases hr3 : risF 0 c.2.2 with
    | false =>
      obtain rfl : 70 = G := by rw [← HG4.out, hr3]; rfl
      clear HG4 hr3
      go_wp2_with fail
      go_ret
      exact ⟨rfl, HB.out _ hS3⟩
    | true =>
    have HG5 : Hid ((if ((decide ((mems c).length ≤ 9) && !(c.2.2.any (vt c)))) = true then (0 : Int) else 70) = G) := by
      show _ = _
      rw [← HG4.out, hr3, Bool.true_and]
    clear HG4 hr3
    go_wp2_with fail
    refine (HME.out w3 hS3).mono ?_
    rintro e w4 ⟨am, cm, rfl, hS4⟩
    obtain ⟨p0, p1, p2⟩ := HK.out w4 hS4
    clear n0 n1 n2
    generalize (mems c).length = ml at *
    by_cases h9 : 9 < ml
    · obtain rfl : 70 = G := by rw [← HG5.out, decide_eq_false (by omega)]; rfl
      have h9i : (9 : Int) < (ml : Int) := by omega
      clear HG5
      go_wp2_with fail
      go_ret
      exact ⟨rfl, HB.out _ hS4⟩
    · have h9i : ¬ (9 : Int) < (ml : Int) := by omega
      have HG6 : Hid ((if (!(c.2.2.any (vt c))) = true then (0 : Int) else 70) = G) := by
        show _ = _
        rw [← HG5.out, decide_eq_true (by omega), Bool.true_and]
      clear HG5
      go_wp2_with fail
      clear p0 p1 p2
      go_loopw [3] (fun i wr => ∃ k : Nat, k ≤ c.2.2.length ∧ i = .int .i64 k ∧ Hid ((c.2.2.take k).any (vt c) = false) ∧ Below (w.heap.size + 1) W0 wr) (fun i _ => c.2.2.length - (intOf i).toNat)
      case atStart => exact ⟨0, Nat.zero_le _, rfl, by show _ = _; simp, hS4⟩
      case round =>
        obtain ⟨k, hk, rfl, HX, hb⟩ := hrel
        obtain ⟨k0, k1, k2⟩ := HK.out wr hb
        obtain ⟨a', c', e', h1, h2, h3, h4⟩ := (HRC.out wr hb).2.2
        simp only [Value.slice.injEq, true_and] at e'
        obtain ⟨rfl, rfl⟩ := e'
        unfold maxLen at h2
        by_cases hlt : k < c.2.2.length
        · obtain ⟨a, rfl, hc⟩ := h4 k hlt
          have HT : Hid _ := H5.out k hlt
          have HA1 : Hid _ := HAN.out k hlt
          have HVP : Hid (∀ W, Below (w.heap.size + 1) W0 W → Calls Try.prog 17 #[.agg #[.slice ax c.1.length cx, .slice ay c.2.1.length cy, .slice (some a) c.2.2.length cz], .int .u64 (c.2.2[k].toNat : Int)] W fun e w' => e = .returned (.bool (vt c c.2.2[k])) ∧ Below (w.heap.size + 1) W0 w') := fun W hW => HVO.out W _ hW
          have HKZ : Hid (∀ W, Below (w.heap.size + 1) W0 W → W.cell? (a.add k) = some (.int .u64 (c.2.2[k].toNat : Int))) := fun W hW => by
            obtain ⟨a'', c'', e'', _, _, _, h4'⟩ := (HRC.out W hW).2.2
            simp only [Value.slice.injEq, true_and] at e''
            obtain ⟨rfl, rfl⟩ := e''
            obtain ⟨a3, e3, hc3⟩ := h4' k hlt
            obtain rfl := Option.some.inj e3
            exact hc3
          clear h4 h3 H5 HAN
          generalize c.2.2[k] = vk at *
          have hbd : Below (w.heap.size + 1) W0 wr.drew := below_drewN hb 1
          go_wp2_with fail
          go_region_held3 (fun w' => w'.cell? ⟨w.heap.size, 0, none⟩ = some (.slice ax c.1.length cx) ∧ w'.cell? ⟨w.heap.size, 1, none⟩ = some (.slice ay c.2.1.length cy) ∧ w'.cell? ⟨w.heap.size, 2, none⟩ = some (.slice (some a) c.2.2.length cz) ∧ w'.cell? (a.add k) = some (.int .u64 (vk.toNat : Int))) (go_keep) (first
            | (go_at_call 17; refine (HVP.out _ hbd).mono ?_; rintro e w5 ⟨rfl, hb5⟩; obtain ⟨r0, r1, r2⟩ := HK.out w5 hb5; have r3 := HKZ.out w5 hb5)
            | fail)
          cases hv : vt c vk with
          | true =>
            obtain rfl : 70 = G := by rw [← HG6.out, HA1.out hv]; rfl
            clear HG6 HT HA1 HAL
            go_wp2_with fail
            go_ret
            exact ⟨rfl, HB.out _ hb5⟩
          | false =>
            have HX2 : Hid ((c.2.2.take (k + 1)).any (vt c) = false) := by show _ = _; rw [HT.out, HX.out, hv]; rfl
            clear HT HA1 hv
            go_wp2_with fail
            exact ⟨⟨k + 1, by omega, by go_num, HX2, hb5⟩, by simp [intOf]; omega⟩
        · obtain rfl : k = c.2.2.length := by omega
          obtain rfl : 0 = G := by rw [← HG6.out, HAL.out HX.out]; rfl
          clear h4 h3 HX HG6 H5 HAN HAL
          go_wp2_with fail
          go_ret
          exact ⟨rfl, HB.out _ hb⟩
end Go.Proofs.Ytedpfmalhapmeaa
