/- The seats: a map from peers to what they are. -/
import Derived.Test.YtedpfmalhapmeaaG3
import Derived.Maps.OwnSet
import Derived.Maps.Keyed
import Derived.Maps.OwnOps
import Derived.Maps.RangeWalk
import Derived.Maps.Views
import Derived.Test.YtedpfmalhapmeaaG2
import Derived.Test.YtedpfmalhapmeaaG1
import Derived.Deep.RegionHeld3
namespace Go.Proofs.Ytedpfmalhapmeaa
open Go.RowKit Go.Maps
set_option linter.unusedVariables false
set_option maxRecDepth 100000

theorem Try.lawU : Keyed Try.prog 25 := int_keyed Try.underlying25
theorem Try.zeroI (w : World) : (zeroValue 3).run Try.prog w = .ok (.int .i64 0) w := by kernel_rfl
def kU (x : UInt64) : Lit := .int .u64 (x.toNat : Int)
def dI (n : Nat) : DataW Unit := .lit (.int .i64 (n : Int))
theorem kU_wf (x : UInt64) : (kU x).wf = true := by
  have := x.toNat_lt
  simp [kU, Lit.wf, IntKind.min, IntKind.max, IntKind.signed, IntKind.bits]
  omega
theorem kU_inj {x y : UInt64} (h : kU x = kU y) : x = y := by
  simp only [kU, Lit.int.injEq, true_and] at h
  exact UInt64.toNat_inj.1 (by omega)
theorem keyU (x : UInt64) : keyOf Try.prog 25 (.int .u64 (x.toNat : Int)) = some (kU x) := keyOf_int_mk Try.underlying25 (kU_wf x)

/-- The map in block m reads as S: what each peer is (0: nothing); at most n entries. -/
structure St (m n : Nat) (S : UInt64 → Nat) (w : World) : Prop where
  own : ∃ D : DataW Unit, w.ownsMap Try.prog 25 (plainElem Try.prog 3) m n D ∧ (∀ x, D.atKey (kU x) (dI 0) = dI (S x)) ∧ ∀ x, Maps.has D (kU x) = decide (S x ≠ 0)

def upd (S : UInt64 → Nat) (p : UInt64) (s : Nat) : UInt64 → Nat := fun x => if x = p then s else S x
theorem kU_ne {x p : UInt64} (h : x ≠ p) : kU x ≠ kU p := fun e => h (kU_inj e)
theorem put_at {D : DataW Unit} {S : UInt64 → Nat} (hD : IsMap D) (h1 : ∀ x, D.atKey (kU x) (dI 0) = dI (S x)) (h2 : ∀ x, Maps.has D (kU x) = decide (S x ≠ 0)) (p : UInt64) (s : Nat) (hs : s ≠ 0) : (∀ x, (D.put (kU p) (dI s)).atKey (kU x) (dI 0) = dI (upd S p s x)) ∧ ∀ x, Maps.has (D.put (kU p) (dI s)) (kU x) = decide (upd S p s x ≠ 0) := by
  refine ⟨fun x => ?_, fun x => ?_⟩
  · by_cases hx : x = p
    · subst hx; rw [atKey_put_same hD (show WideAt.IsKeyLit (kU x) from trivial), upd, if_pos rfl]
    · rw [atKey_put_other (kU_ne hx), h1, upd, if_neg hx]
  · by_cases hx : x = p
    · subst hx; rw [has_put_same hD (show WideAt.IsKeyLit (kU x) from trivial), upd, if_pos rfl]; simp [hs]
    · rw [has_put_other (kU_ne hx), h2, upd, if_neg hx]
theorem del_at {D : DataW Unit} {S : UInt64 → Nat} (h1 : ∀ x, D.atKey (kU x) (dI 0) = dI (S x)) (h2 : ∀ x, Maps.has D (kU x) = decide (S x ≠ 0)) (p : UInt64) : (∀ x, (D.del (kU p)).atKey (kU x) (dI 0) = dI (upd S p 0 x)) ∧ ∀ x, Maps.has (D.del (kU p)) (kU x) = decide (upd S p 0 x ≠ 0) := by
  refine ⟨fun x => ?_, fun x => ?_⟩
  · by_cases hx : x = p
    · subst hx; rw [atKey_del_same, upd, if_pos rfl]
    · rw [atKey_del_other (kU_ne hx), h1, upd, if_neg hx]
  · by_cases hx : x = p
    · subst hx; rw [has_del_same, upd, if_pos rfl]; simp
    · rw [has_del_other (kU_ne hx), h2, upd, if_neg hx]
theorem St.below {m n B : Nat} {S : UInt64 → Nat} {w w' : World} (h : St m n S w) (hb : Below B w w') (hB : w.heap.size ≤ B) : St m n S w' := by
  obtain ⟨D, ⟨es, clock, hbk, r⟩, h2⟩ := h.own
  exact ⟨⟨D, ⟨es, clock, by rw [hb.block m (by have := (Array.getElem?_eq_some_iff.1 hbk).1; omega)]; exact hbk, r⟩, h2⟩⟩
theorem St.mono {m n n' : Nat} {S : UInt64 → Nat} {w : World} (h : St m n S w) (hn : n ≤ n') : St m n' S w := by
  obtain ⟨D, ho, h2⟩ := h.own
  exact ⟨⟨D, ho.mono hn, h2⟩⟩
theorem St.cong {m n : Nat} {S S' : UInt64 → Nat} {w : World} (h : St m n S w) (e : S = S') : St m n S' w := e ▸ h
theorem wfI (s : Nat) (h : s ≤ 1000) : (Lit.int .i64 (s : Int)).wf = true := by
  simp [Lit.wf, IntKind.min, IntKind.max, IntKind.signed, IntKind.bits]; omega

/-- What c is told as: its voters, its learners. -/
def seatF (V L : List UInt64) : UInt64 → Nat := fun x => if x ∈ L then 2 else if x ∈ V then 1 else 0
theorem mem_snoc (V : List UInt64) (k : Nat) (h : k < V.length) (x : UInt64) : x ∈ V.take (k + 1) ↔ x ∈ V.take k ∨ x = V[k] := by
  rw [List.take_succ_eq_append_getElem h, List.mem_append, List.mem_singleton]
theorem seatF_v (V : List UInt64) (k : Nat) (h : k < V.length) : upd (seatF (V.take k) []) V[k] 1 = seatF (V.take (k + 1)) [] := by
  funext x
  have hm := mem_snoc V k h x
  unfold upd seatF
  by_cases hx : x = V[k]
  · rw [if_pos hx, if_neg List.not_mem_nil, if_pos (hm.2 (.inr hx))]
  · simp only [if_neg hx, if_neg (List.not_mem_nil (a := x))]
    by_cases h2 : x ∈ V.take k
    · rw [if_pos h2, if_pos (hm.2 (.inl h2))]
    · rw [if_neg h2, if_neg (fun q => (hm.1 q).elim h2 hx)]
theorem seatF_l (V L : List UInt64) (k : Nat) (h : k < L.length) : upd (seatF V (L.take k)) L[k] 2 = seatF V (L.take (k + 1)) := by
  funext x
  have hm := mem_snoc L k h x
  unfold upd seatF
  by_cases hx : x = L[k]
  · rw [if_pos hx, if_pos (hm.2 (.inr hx))]
  · rw [if_neg hx]
    by_cases h2 : x ∈ L.take k
    · rw [if_pos h2, if_pos (hm.2 (.inl h2))]
    · rw [if_neg h2, if_neg (fun q => (hm.1 q).elim h2 hx)]

set_option maxHeartbeats 2000000 in
theorem seats_any {x y z : Value} {c : Cn} {w : World} (hr : Rc w x y z c) (hl : c.1.length + c.2.2.length ≤ 1099511627776) :
    Calls Try.prog 41 #[.agg #[x, y, z]] w fun e w' => ∃ m, e = .returned (.map (some m)) ∧ w.heap.size ≤ m ∧ St m (c.1.length + c.2.2.length) (seatF c.1 c.2.2) w' ∧ Below w.heap.size w w' := by
  obtain ⟨V, O, L⟩ := c
  obtain ⟨h1, h2, h3⟩ := hr
  simp only [] at h1 h2 h3 hl
  obtain ⟨av, cv, rfl, v1, v2, _, v4⟩ := h1
  obtain ⟨ay, cy, rfl⟩ := h2.shape
  obtain ⟨az, cz, rfl, z1, z2, _, z4⟩ := h3
  unfold maxLen at v2 z2
  have hB1 : Below w.heap.size w (w.alloc (.cells #[.slice av V.length cv, .slice ay O.length cy, .slice az L.length cz] 24)) := u_al w _
  have hB2 : Below w.heap.size w ((w.alloc (.cells #[.slice av V.length cv, .slice ay O.length cy, .slice az L.length cz] 24)).alloc (.map #[] 0)) := hB1.alloc (by simp) _
  have hBx : Below (w.heap.size + 1) (w.alloc (.cells #[.slice av V.length cv, .slice ay O.length cy, .slice az L.length cz] 24)) ((w.alloc (.cells #[.slice av V.length cv, .slice ay O.length cy, .slice az L.length cz] 24)).alloc (.map #[] 0)) := (Below.refl _ _).alloc (by simp) _
  have hS0 : St (w.heap.size + 1) 0 (seatF [] []) ((w.alloc (.cells #[.slice av V.length cv, .slice ay O.length cy, .slice az L.length cz] 24)).alloc (.map #[] 0)) := by
    have h := World.ownsMap_made (H := Unit) (w.alloc (.cells #[.slice av V.length cv, .slice ay O.length cy, .slice az L.length cz] 24)) Try.prog 25 (plainElem Try.prog 3)
    rw [World.size_alloc] at h
    exact ⟨⟨_, h, fun x => by simp [seatF, DataW.atKey], fun x => by simp [seatF, Maps.has]⟩⟩
  have hmm := @run_makeMap Try.prog
  have HKC : Hid (∀ W, Below (w.heap.size + 1) (w.alloc (.cells #[.slice av V.length cv, .slice ay O.length cy, .slice az L.length cz] 24)) W → W.cell? ⟨w.heap.size, 2, none⟩ = some (.slice az L.length cz)) := fun W hW => (box3 hW rfl).2.2
  go_enter Try.func41, Try.ntmps41
  go_wp2_with fail
  generalize ((w.alloc (.cells #[.slice av V.length cv, .slice ay O.length cy, .slice az L.length cz] 24)).alloc (.map #[] 0)) = W0 at *
  clear hmm
  go_loopw [5, 12] (fun _ i wr => ∃ k : Nat, k ≤ V.length ∧ i = .int .i64 k ∧ St (w.heap.size + 1) k (seatF (V.take k) []) wr ∧ Below w.heap.size w wr ∧ Below (w.heap.size + 1) (w.alloc (.cells #[.slice av V.length cv, .slice ay O.length cy, .slice az L.length cz] 24)) wr) (fun _ i _ => V.length - (intOf i).toNat)
  case atStart => exact ⟨0, Nat.zero_le _, rfl, by simpa using hS0, hB2, hBx⟩
  case round =>
    obtain ⟨k, hk, rfl, hSt, hb, hbx⟩ := hrel
    clear hS0 hB2 hBx
    by_cases hlt : k < V.length
    · obtain ⟨a, rfl, hc⟩ := v4 k hlt
      have hcx : wr.cell? (a.add k) = some (.int .u64 (V[k].toNat : Int)) := by rw [hb.cell (World.block_lt_of_cell? w _ hc)]; exact hc
      have HE : Hid _ := seatF_v V k hlt
      obtain ⟨D, hown, d1, d2⟩ := hSt.own
      have hD := (hown.tidy Try.lawU).isMap
      have HP : Hid _ := put_at hD d1 d2 V[k] 1 (by decide)
      generalize V[k] = p at *
      clear v4 z4 hSt hc d1 d2
      go_wp2_with (first
        | (at_mapUpdate; refine wpList_mapUpdate_own _ rfl _ _ _ 61 rfl 25 3 Try.lawU Try.underlying61 _ (w.heap.size + 1) k D rfl hown (by unfold maxLen; omega) _ _ _ rfl rfl (keyU p) (dI 1) [] (plainElem_int Try.underlying3 (wfI 1 (by omega))) ?_; intro w1 hown1 hg1; go_frame)
        | fail)
      have hg1b : Below (w.heap.size + 1) wr w1 := (Below.refl _ wr).grown hg1 (by have := hown.lt; omega) (fun j e => by cases e; exact Nat.le_refl _)
      go_roundw
      case rel => exact ⟨k + 1, by omega, by go_num, St.cong ⟨⟨_, hown1, HP.out⟩⟩ HE.out, hb.trans (hg1b.mono (Nat.le_succ _)), hbx.trans hg1b⟩
      case measure => simp [intOf]; omega
    · obtain rfl : k = V.length := by omega
      rw [List.take_length] at hSt
      have hc2 := HKC.out wr hbx
      clear v4
      go_wp2_with fail
      generalize hwr : wr = W1 at *
      clear hwr wr
      go_loopw [7, 22] (fun _ i wr => ∃ k : Nat, k ≤ L.length ∧ i = .int .i64 k ∧ St (w.heap.size + 1) (V.length + k) (seatF V (L.take k)) wr ∧ Below w.heap.size w wr) (fun _ i _ => L.length - (intOf i).toNat)
      case atStart => exact ⟨0, Nat.zero_le _, rfl, by simpa using hSt, hb⟩
      case round =>
        obtain ⟨k, hk, rfl, hSt, hb⟩ := hrel
        by_cases hlt : k < L.length
        · obtain ⟨a, rfl, hc⟩ := z4 k hlt
          have hcx : wr.cell? (a.add k) = some (.int .u64 (L[k].toNat : Int)) := by rw [hb.cell (World.block_lt_of_cell? w _ hc)]; exact hc
          have HE : Hid _ := seatF_l V L k hlt
          obtain ⟨D, hown, d1, d2⟩ := hSt.own
          have hD := (hown.tidy Try.lawU).isMap
          have HP : Hid _ := put_at hD d1 d2 L[k] 2 (by decide)
          generalize L[k] = p at *
          clear z4 hSt hc d1 d2
          go_wp2_with (first
            | (at_mapUpdate; refine wpList_mapUpdate_own _ rfl _ _ _ 61 rfl 25 3 Try.lawU Try.underlying61 _ (w.heap.size + 1) (V.length + k) D rfl hown (by unfold maxLen; omega) _ _ _ rfl rfl (keyU p) (dI 2) [] (plainElem_int Try.underlying3 (wfI 2 (by omega))) ?_; intro w1 hown1 hg1; go_frame)
            | fail)
          have hg1b : Below w.heap.size wr w1 := (Below.refl _ wr).grown hg1 (by have := hown.lt; omega) (fun j e => by cases e; exact Nat.le_succ _)
          go_roundw
          case rel => exact ⟨k + 1, by omega, by go_num, St.cong ⟨⟨_, hown1, HP.out⟩⟩ HE.out, hb.trans hg1b⟩
          case measure => simp [intOf]; omega
        · obtain rfl : k = L.length := by omega
          rw [List.take_length] at hSt
          clear z4
          go_wp2_with fail
          go_ret
          exact ⟨_, rfl, Nat.le_succ _, hSt, hb⟩

/-- What a change makes of the seats. -/
def chg1 (S : UInt64 → Nat) (k : Int) (p : UInt64) : Option (UInt64 → Nat) :=
  if p = 0 then none else if k = 1 then some (upd S p 1) else if k = 2 then (if S p = 1 then none else some (upd S p 2)) else if k = 3 then some (upd S p 0) else none

set_option maxHeartbeats 2000000 in
theorem change_any {m n : Nat} {S : UInt64 → Nat} {w : World} (h : St m n S w) (hm : m < w.heap.size) (k : Int) (p : UInt64) (hn : n ≤ 1099511627776) (hs : ∀ x, S x ≤ 2) (hk : -9223372036854775808 ≤ k ∧ k ≤ 9223372036854775807) :
    Calls Try.prog 42 #[.map (some m), .agg #[.int .i64 k, .int .u64 (p.toNat : Int)]] w fun e w' => e = .returned (.int .i64 (if (chg1 S k p).isSome then 0 else 70)) ∧ St m (n + 1) ((chg1 S k p).getD S) w' ∧ Chg (fun b => b = m) w w' := by
  have hSt := h.below (u_al w (.cells #[.int .i64 k, .int .u64 (p.toNat : Int)] 50)) (Nat.le_refl _)
  have hcA : Chg (fun b => b = m) w (w.alloc (.cells #[.int .i64 k, .int .u64 (p.toNat : Int)] 50)) := (Chg.refl _ w).alloc _
  have c0 : (w.alloc (.cells #[.int .i64 k, .int .u64 (p.toNat : Int)] 50)).cell? ⟨w.heap.size, 0, none⟩ = some (.int .i64 k) := by rw [World.cell?_alloc_at _ _ _ _ rfl]; rfl
  have c1 : (w.alloc (.cells #[.int .i64 k, .int .u64 (p.toNat : Int)] 50)).cell? ⟨w.heap.size, 1, none⟩ = some (.int .u64 (p.toNat : Int)) := by rw [World.cell?_alloc_at _ _ _ _ rfl]; rfl
  have hsz : (w.alloc (.cells #[.int .i64 k, .int .u64 (p.toNat : Int)] 50)).heap.size = w.heap.size + 1 := by simp
  obtain ⟨D, hown, d1, d2⟩ := hSt.own
  have hD := (hown.tidy Try.lawU).isMap
  have HP1 : Hid _ := put_at hD d1 d2 p 1 (by decide)
  have HP2 : Hid _ := put_at hD d1 d2 p 2 (by decide)
  have HP3 : Hid _ := del_at d1 d2 p
  have HD : Hid (∀ x, D.atKey (kU x) (dI 0) = dI (S x)) := d1
  have HS0 : Hid _ := hSt.mono (Nat.le_succ n)
  clear h hSt d1 d2 hD
  by_cases hp0 : p = 0
  · subst hp0
    have e : chg1 S k 0 = none := by unfold chg1; rw [if_pos rfl]
    rw [e]
    go_enter Try.func42, Try.ntmps42
    go_wp2_with fail
    go_ret
    exact ⟨rfl, HS0.out, hcA⟩
  · have hpn : ((p.toNat : Int) == 0) = false := by
      simp only [beq_eq_false_iff_ne, ne_eq]
      intro q
      exact hp0 (UInt64.toNat_inj.1 (by simpa using q))
    by_cases h1 : k = 1
    · subst h1
      have e : chg1 S 1 p = some (upd S p 1) := by unfold chg1; rw [if_neg hp0, if_pos rfl]
      rw [e]
      clear e
      go_enter Try.func42, Try.ntmps42
      go_wp2_with (first
        | (at_mapUpdate; refine wpList_mapUpdate_own _ rfl _ _ _ 61 rfl 25 3 Try.lawU Try.underlying61 _ m n D rfl hown (by unfold maxLen; omega) _ _ _ rfl rfl (keyU p) (dI 1) [] (plainElem_int Try.underlying3 (wfI 1 (by omega))) ?_; intro w1 hown1 hg1)
        | fail)
      go_ret
      exact ⟨rfl, ⟨⟨_, hown1, HP1.out⟩⟩, hcA.trans ((Chg.of_grown hg1 (fun b e _ => Option.some.inj e.symm ▸ rfl)).mono (fun b _ q => .inl q))⟩
    · by_cases h2 : k = 2
      · subst h2
        by_cases hS1 : S p = 1
        · have e : chg1 S 2 p = none := by unfold chg1; rw [if_neg hp0, if_neg (by decide), if_pos rfl, if_pos hS1]
          rw [e]
          clear e
          go_enter Try.func42, Try.ntmps42
          go_wp2_with (first
            | (at_lookup; refine wpList_lookup_own_int _ rfl _ _ 61 rfl 25 3 .i64 Try.lawU Try.underlying61 Try.underlying3 (Try.zeroI _) m n D rfl hown _ _ rfl (keyU p) ?_; intro c hat hwc; obtain rfl : c = 1 := by (have h0 := HD.out p; rw [hS1] at h0; rw [show (DataW.lit (.int .i64 0) : DataW Unit) = dI 0 from rfl, h0] at hat; simpa [dI] using hat.symm))
            | fail)
          go_ret
          exact ⟨rfl, HS0.out, hcA⟩
        · have e : chg1 S 2 p = some (upd S p 2) := by unfold chg1; rw [if_neg hp0, if_neg (by decide), if_pos rfl, if_neg hS1]
          rw [e]
          clear e
          have hsi : ((S p : Int) == 1) = false := by
            simp only [beq_eq_false_iff_ne, ne_eq]; omega
          go_enter Try.func42, Try.ntmps42
          go_wp2_with (first
            | (at_lookup; refine wpList_lookup_own_int _ rfl _ _ 61 rfl 25 3 .i64 Try.lawU Try.underlying61 Try.underlying3 (Try.zeroI _) m n D rfl hown _ _ rfl (keyU p) ?_; intro c hat hwc; obtain rfl : c = (S p : Int) := by (have h0 := HD.out p; rw [show (DataW.lit (.int .i64 0) : DataW Unit) = dI 0 from rfl, h0] at hat; simpa [dI] using hat.symm))
            | (at_mapUpdate; refine wpList_mapUpdate_own _ rfl _ _ _ 61 rfl 25 3 Try.lawU Try.underlying61 _ m n D rfl hown (by unfold maxLen; omega) _ _ _ rfl rfl (keyU p) (dI 2) [] (plainElem_int Try.underlying3 (wfI 2 (by omega))) ?_; intro w1 hown1 hg1)
            | fail)
          go_ret
          exact ⟨rfl, ⟨⟨_, hown1, HP2.out⟩⟩, hcA.trans ((Chg.of_grown hg1 (fun b e _ => Option.some.inj e.symm ▸ rfl)).mono (fun b _ q => .inl q))⟩
      · by_cases h3 : k = 3
        · subst h3
          have e : chg1 S 3 p = some (upd S p 0) := by unfold chg1; rw [if_neg hp0, if_neg (by decide), if_neg (by decide), if_pos rfl]
          rw [e]
          clear e
          go_enter Try.func42, Try.ntmps42
          go_wp2_with (first
            | (at_delete; refine wpList_delete_own _ rfl _ _ 61 25 rfl 3 Try.lawU Try.underlying61 _ m n D rfl hown _ _ rfl (keyU p) ?_; intro w1 hown1 hturn1)
            | fail)
          go_ret
          exact ⟨rfl, ⟨⟨_, hown1.mono (Nat.le_succ n), HP3.out⟩⟩, hcA.trans ((Chg.of_grown hturn1.grown (fun b e _ => Option.some.inj e.symm ▸ rfl)).mono (fun b _ q => .inl q))⟩
        · have e : chg1 S k p = none := by unfold chg1; rw [if_neg hp0, if_neg h1, if_neg h2, if_neg h3]
          rw [e]
          have k1 : (k == 1) = false := by simpa using h1
          have k2 : (k == 2) = false := by simpa using h2
          have k3 : (k == 3) = false := by simpa using h3
          clear e h1 h2 h3
          go_enter Try.func42, Try.ntmps42
          go_wp2_with fail
          go_ret
          exact ⟨rfl, HS0.out, hcA⟩
end Go.Proofs.Ytedpfmalhapmeaa

/- What of answers: all peers with a seat, rising. -/
namespace Go.Proofs.Ytedpfmalhapmeaa
open Go.RowKit Go.Maps
set_option linter.unusedVariables false
set_option maxRecDepth 100000

theorem same_kU (x y : UInt64) : (kU x).sameKey (kU y) = decide (x = y) := by
  by_cases h : x = y
  · subst h
    rw [WideAt.sameKey_self (show WideAt.IsKeyLit (kU x) from trivial)]; simp
  · have : (kU x).sameKey (kU y) = false := by
      have hne : ¬ (x.toNat : Int) = (y.toNat : Int) := fun e => h (UInt64.toNat_inj.1 (by omega))
      simp [kU, Lit.sameKey, hne]
    rw [this]; simp [h]
theorem pairwise_ris {l l' : List UInt64} (hn : l.Nodup) (hp : l'.Perm l) (hs : l'.Pairwise (fun x y => x.toNat ≤ y.toNat)) : Ris l' := by
  have hn' : l'.Nodup := hp.nodup_iff.2 hn
  refine List.Pairwise.imp₂ (R := fun x y : UInt64 => x.toNat ≤ y.toNat) (S := fun x y => x ≠ y) ?_ hs hn'
  intro a b h1 h2
  have : a.toNat ≠ b.toNat := fun e => h2 (UInt64.toNat_inj.1 e)
  omega

set_option maxHeartbeats 2000000 in
theorem of_any {N : Nat} (hSo : SortsTo N) {m n : Nat} {S : UInt64 → Nat} {w : World} (h : St m n S w) (hm : m < w.heap.size) (s : Nat) (hs0 : s ≠ 0) (hs2 : s ≤ 1000) (hn : n ≤ N) (hN : N ≤ 1099511627776) :
    Calls Try.prog 43 #[.map (some m), .int .i64 s] w fun e w' => ∃ v l, e = .returned v ∧ Ou w.heap.size w' v l ∧ Ris l ∧ (∀ x, x ∈ l ↔ S x = s) ∧ l.length ≤ n ∧ Below w.heap.size w w' := by
  obtain ⟨D, hown, d1, d2⟩ := h.own
  have hsl := hown.size_le
  have HD1 : Hid _ := d1
  have HD2 : Hid _ := d2
  clear d1 d2 h
  go_enter Try.func43, Try.ntmps43
  go_wp2_with (first
    | (at_range; refine wpList_range_own _ rfl _ 61 rfl 25 3 Try.lawU Try.underlying61 _ m n D rfl hown ?_; intro w0 hrg0 hg0 hs0')
    | fail)
  go_frame
  have hb0 : Below w.heap.size w w0 := (Below.refl _ w).grown hg0 (Nat.le_refl _) (fun j e => by cases e)
  go_loopw [5, 6, 7] (fun lv _ _ wr => ∃ (left : Lit → Bool) (cnt : Nat) (l : List UInt64), wr.ranges Try.prog 25 (plainElem Try.prog 3) m w.heap.size n D left cnt ∧ Ou (w.heap.size + 1) wr lv l ∧ l.Nodup ∧ Hid (∀ x, x ∈ l ↔ S x = s ∧ left (kU x) = false) ∧ l.length + cnt ≤ n ∧ Below w.heap.size w wr) (fun _ _ _ wr => wr.rangeLeft m w.heap.size)
  case atStart => exact ⟨_, _, [], hrg0, Ou.nil _ _, List.nodup_nil, fun x => by rw [HD2.out x]; simp; intro e; omega, by simp; exact hsl, hb0⟩
  case round =>
    obtain ⟨left, cnt, l, hrg, ho, hnd, HM, hlc, hb⟩ := hrel
    clear hrg0 hg0 hown hb0
    have hB := hb.size
    have hrl := hrg.lt
    go_wp2_with (first
      | (at_next; refine wpList_next_ranges_ii _ rfl _ rfl 25 3 .u64 .i64 Try.lawU Try.underlying25 Try.underlying3 m w.heap.size n _ _ _ rfl hrg ?_ ?_)
      | fail)
    · intro _ hl0
      have HM2 : Hid (∀ x, x ∈ l ↔ S x = s) := fun x => by rw [HM.out x]; simp [hl0]
      clear HM
      go_wp2_with fail
      refine (hSo (w.heap.size + 1) wr _ l ho (by omega)).mono ?_
      rintro e w2 ⟨rfl, ⟨l', ho2, hp, hso⟩, hc2⟩
      go_wp2_with fail
      go_ret
      refine ⟨_, l', rfl, ho2.mono (Nat.le_succ _), pairwise_ris hnd hp hso, fun x => by rw [hp.mem_iff]; exact HM2.out x, by rw [hp.length_eq]; omega, hb.trans (hc2.below (fun b e => by have := (ho.lt b e).1; omega) hB)⟩
    · intro x c w1 cnt1 hwx hwc hlx hat hrg1 hlt hg1 hs1 hen
      obtain ⟨p, rfl⟩ : ∃ p : UInt64, x = (p.toNat : Int) := by
        have hx : 0 ≤ x ∧ x ≤ 18446744073709551615 := by simpa [Lit.wf, IntKind.min, IntKind.max, IntKind.signed, IntKind.bits] using hwx
        refine ⟨UInt64.ofNat x.toNat, ?_⟩
        rw [UInt64.toNat_ofNat']
        omega
      obtain rfl : c = (S p : Int) := by
        have h1 := hat (dI 0)
        rw [show (Lit.int .u64 (p.toNat : Int)) = kU p from rfl, HD1.out p] at h1
        simpa [dI] using h1.symm
      have hgb : Below w.heap.size wr w1 := (Below.refl _ wr).grown hg1 hB (fun j e => by cases e; exact Nat.le_refl _)
      have ho1 : Ou (w.heap.size + 1) w1 _ l := ho.kept hg1 (fun b e q => by have := (ho.lt b e).1; cases q; omega)
      have hlp : left (kU p) = true := hlx
      have hnp : p ∉ l := fun q => by have := ((HM.out p).1 q).2; rw [hlp] at this; cases this
      have HL : Hid (∀ y, (left (kU y) && !(kU y).sameKey (Lit.int .u64 (p.toNat : Int))) = (left (kU y) && !decide (y = p))) := fun y => by
        rw [show (Lit.int .u64 (p.toNat : Int)) = kU p from rfl, same_kU]
      have hlt1 : l.length + cnt1 + 1 ≤ n := by omega
      have hcl : w1.rangeLeft m w.heap.size < wr.rangeLeft m w.heap.size := by rw [hrg1.left_eq, hrg.left_eq]; exact hlt
      have hml : m < w1.heap.size := hrg1.owns.lt
      have hr1 := hrg1.lt
      have hmr := hrg1.ne
      have hBw1 : w.heap.size ≤ w1.heap.size := by omega
      clear hat hwx hwc hlx hrg hlp hs1
      by_cases hc : S p = s
      · have hci : ((S p : Int) == (s : Int)) = true := by simp [hc]
        have HM2 : Hid (∀ y, y ∈ l ++ [p] ↔ S y = s ∧ (left (kU y) && !(kU y).sameKey (Lit.int .u64 (p.toNat : Int))) = false) := fun y => by
          rw [HL.out y, List.mem_append, List.mem_singleton, HM.out y]
          by_cases hy : y = p
          · subst hy; simp [hc]
          · simp [hy]
        have hnd2 : (l ++ [p]).Nodup := by
          rw [List.nodup_append]
          exact ⟨hnd, by simp, fun a ha b hb e => by rw [List.mem_singleton] at hb; subst hb; subst e; exact hnp ha⟩
        clear HM hnd
        go_wp2_with (first | (at_builtin; refine wpList_appU rfl _ _ rfl (w.heap.size + 1) _ l rfl (ho1.alloc _) _ [p] rfl (ru_one _ _ _ ?e1 _ _ rfl) ?e2 ?e3 ?_; rotate_right; intro v4 w4 ho4 hg4 hw4) | fail)
        case e1 => rfl
        case e2 => simp; omega
        case e3 => simp; omega
        have hrg4 := (hrg1.alloc (.cells #[.int .u64 (p.toNat : Int)] 25)).kept hg4 (fun e => by have := (ho1.lt m e.symm).1; omega) (fun e => by have := (ho1.lt _ e.symm).1; omega)
        have hb4 : Below w.heap.size w w4 := (hb.trans hgb).trans (((Below.refl w.heap.size w1).alloc (by omega) _).trans ((Below.refl w.heap.size _).grown hg4 (by simp; omega) (fun k e => by have := (ho1.lt k e).1; omega)))
        have hcl4 : w4.rangeLeft m w.heap.size < wr.rangeLeft m w.heap.size := by rw [hrg4.left_eq, ← hrg1.left_eq]; exact hcl
        refine ⟨⟨_, cnt1, l ++ [p], hrg4, ho4, hnd2, HM2, by simp; omega, hb4⟩, hcl4⟩
      · have hci : ((S p : Int) == (s : Int)) = false := by simp; omega
        have HM2 : Hid (∀ y, y ∈ l ↔ S y = s ∧ (left (kU y) && !(kU y).sameKey (Lit.int .u64 (p.toNat : Int))) = false) := fun y => by
          rw [HL.out y, HM.out y]
          by_cases hy : y = p
          · subst hy; simp [hc]
          · simp [hy]
        clear HM
        go_wp2_with fail
        exact ⟨⟨_, cnt1, l, hrg1, ho1, hnd, HM2, by omega, hb.trans hgb⟩, hcl⟩
end Go.Proofs.Ytedpfmalhapmeaa

/- What Enter answers of any configuration and any changes. -/
namespace Go.Proofs.Ytedpfmalhapmeaa
open Go.RowKit Go.Maps
set_option linter.unusedVariables false
set_option maxRecDepth 100000

/-- A change: its kind, its peer. -/
abbrev Cg := Int × UInt64
structure CgAt (w : World) (a : Addr) (q : Cg) : Prop where
  c0 : w.cell? a = some (.int .i64 q.1)
  c1 : w.cell? ⟨a.block, a.off + 1, none⟩ = some (.int .u64 (q.2.toNat : Int))
/-- The slice value v reads as these changes. -/
def RdX (w : World) (v : Value) (qs : List Cg) : Prop :=
  ∃ ao c, v = .slice ao qs.length c ∧ qs.length ≤ c ∧ c ≤ maxLen ∧ (∀ q ∈ qs, -9223372036854775808 ≤ q.1 ∧ q.1 ≤ 9223372036854775807) ∧ ∀ (i : Nat) q, qs[i]? = some q → ∃ a, ao = some a ∧ CgAt w (a.add (i * 2)) q
theorem RdX.below {B : Nat} {w w' : World} {v : Value} {qs : List Cg} (h : RdX w v qs) (hb : Below B w w') (hB : w.heap.size ≤ B) : RdX w' v qs := by
  obtain ⟨ao, c, h0, h1, h2, h3, h4⟩ := h
  refine ⟨ao, c, h0, h1, h2, h3, fun i q hq => ?_⟩
  obtain ⟨a, e, hc⟩ := h4 i q hq
  have l0 := World.block_lt_of_cell? w _ hc.c0
  have l1 := World.block_lt_of_cell? w _ hc.c1
  exact ⟨a, e, by rw [hb.cell (by omega)]; exact hc.c0, by rw [hb.cell (by omega)]; exact hc.c1⟩

/-- The changes one after the other. -/
def foldS (S : UInt64 → Nat) : List Cg → Option (UInt64 → Nat)
  | [] => some S
  | q :: r => (chg1 S q.1 q.2).bind fun S' => foldS S' r
theorem chg1_le {S S' : UInt64 → Nat} {k : Int} {p : UInt64} (h : chg1 S k p = some S') (hs : ∀ x, S x ≤ 2) : ∀ x, S' x ≤ 2 := by
  intro x
  unfold chg1 at h
  have hu : ∀ s, s ≤ 2 → upd S p s x ≤ 2 := fun s hs2 => by unfold upd; split; exact hs2; exact hs x
  split at h
  · cases h
  · split at h
    · cases h; exact hu 1 (by omega)
    · split at h
      · split at h
        · cases h
        · cases h; exact hu 2 (by omega)
      · split at h
        · cases h; exact hu 0 (by omega)
        · cases h
/-- The rising list of all that have such a seat. -/
def IsL (S : UInt64 → Nat) (s : Nat) (l : List UInt64) : Prop := Ris l ∧ ∀ x, x ∈ l ↔ S x = s
def none3 : Cn := ([], [], [])
def nxt (V V' L' : List UInt64) : Cn := (V', if V' = V then [] else V, L')
/-- What Enter comes to. -/
def EntR (c : Cn) (qs : List Cg) (res : Cn) (er : Nat) : Prop :=
  (chk c = false ∧ res = none3 ∧ er = 70) ∨ (chk c = true ∧ 0 < c.2.1.length ∧ res = none3 ∧ er = 71) ∨
  (chk c = true ∧ c.2.1 = [] ∧ foldS (seatF c.1 c.2.2) qs = none ∧ res = none3 ∧ er = 70) ∨
  (chk c = true ∧ c.2.1 = [] ∧ ∃ S V' L', foldS (seatF c.1 c.2.2) qs = some S ∧ IsL S 1 V' ∧ IsL S 2 L' ∧ ((chk (nxt c.1 V' L') = false ∧ res = none3 ∧ er = 70) ∨ (chk (nxt c.1 V' L') = true ∧ res = nxt c.1 V' L' ∧ er = 0)))
def Oc (B : Nat) (w : World) (x y z : Value) (c : Cn) : Prop := Ou B w x c.1 ∧ Ou B w y c.2.1 ∧ Ou B w z c.2.2
theorem Oc.rc {B : Nat} {w : World} {x y z : Value} {c : Cn} (h : Oc B w x y z c) : Rc w x y z c := ⟨h.1.ru, h.2.1.ru, h.2.2.ru⟩
theorem Oc.nil (B : Nat) (w : World) : Oc B w (.slice none 0 0) (.slice none 0 0) (.slice none 0 0) none3 := ⟨Ou.nil _ _, Ou.nil _ _, Ou.nil _ _⟩
theorem Ou.keptC {B : Nat} {T : Nat → Prop} {w w' : World} {v : Value} {l : List UInt64} (h : Ou B w v l) (hc : Chg T w w') (hT : ∀ b, v.ownBlock = some b → ¬ T b) : Ou B w' v l := ownsRow_keptC h hc hT
theorem Oc.keptC {B : Nat} {T : Nat → Prop} {w w' : World} {x y z : Value} {c : Cn} (h : Oc B w x y z c) (hc : Chg T w w') (hT : ∀ b, B ≤ b → ¬ T b) : Oc B w' x y z c :=
  ⟨h.1.keptC hc (fun b e => hT b (h.1.lt b e).1), h.2.1.keptC hc (fun b e => hT b (h.2.1.lt b e).1), h.2.2.keptC hc (fun b e => hT b (h.2.2.lt b e).1)⟩
theorem Oc.mono {B B' : Nat} {w : World} {x y z : Value} {c : Cn} (h : Oc B w x y z c) (hB : B' ≤ B) : Oc B' w x y z c := ⟨h.1.mono hB, h.2.1.mono hB, h.2.2.mono hB⟩

/-- The result is written into its block. -/
theorem outO {w w1 : World} {g s0 : Nat} {u v0 t0 x y z : Value} {t : TypeId} {c : Cn} (hg : w1.heap[g]? = some (.cells #[u, v0, t0] t (0, 0))) (hw : w.heap.size ≤ g) (hgs : g < s0) (hb : Below w.heap.size w w1) (hr : Oc s0 w1 x y z c) (W : World) (hW : W = ((w1.setCell ⟨g, 0, none⟩ x).setCell ⟨g, 1, none⟩ y).setCell ⟨g, 2, none⟩ z) :
    (W.cell? ⟨g, 0, none⟩ = some x ∧ W.cell? ⟨g, 1, none⟩ = some y ∧ W.cell? ⟨g, 2, none⟩ = some z) ∧ Oc w.heap.size W x y z c ∧ Below w.heap.size w W := by
  subst hW
  obtain ⟨k0, k1, k2, _⟩ := at3 (put3 hg x y z)
  have hch := put3_chg w1 g x y z
  exact ⟨⟨k0, k1, k2⟩, (hr.keptC hch (fun b h q => by omega)).mono (by omega), hb.trans (hch.below (fun b q => by omega) hb.size)⟩

theorem foldS_snoc (S S' : UInt64 → Nat) (qs : List Cg) (k : Nat) (q : Cg) (hq : qs[k]? = some q) (h : foldS S (qs.take k) = some S') : foldS S (qs.take (k + 1)) = chg1 S' q.1 q.2 := by
  have e : qs.take (k + 1) = qs.take k ++ [q] := by
    obtain ⟨hk, e⟩ := List.getElem?_eq_some_iff.1 hq
    rw [List.take_succ_eq_append_getElem hk, e]
  have app : ∀ (a b : List Cg) (T : UInt64 → Nat), foldS T (a ++ b) = (foldS T a).bind fun T' => foldS T' b := by
    intro a b
    induction a with
    | nil => intro T; rfl
    | cons x r ih =>
      intro T
      simp only [List.cons_append, foldS]
      cases chg1 T x.1 x.2 with
      | none => rfl
      | some T' => exact ih T'
  rw [e, app, h]
  show ((chg1 S' q.1 q.2).bind fun T => foldS T []) = _
  cases chg1 S' q.1 q.2 <;> rfl
theorem foldS_none (S S' : UInt64 → Nat) (qs : List Cg) (k : Nat) (q : Cg) (hq : qs[k]? = some q) (h : foldS S (qs.take k) = some S') (hn : chg1 S' q.1 q.2 = none) : foldS S qs = none := by
  have app : ∀ (a b : List Cg) (T : UInt64 → Nat), foldS T (a ++ b) = (foldS T a).bind fun T' => foldS T' b := by
    intro a b
    induction a with
    | nil => intro T; rfl
    | cons x r ih =>
      intro T
      simp only [List.cons_append, foldS]
      cases chg1 T x.1 x.2 with
      | none => rfl
      | some T' => exact ih T'
  have h1 := foldS_snoc S S' qs k q hq h
  rw [hn] at h1
  rw [← List.take_append_drop (k + 1) qs, app, h1]
  rfl
theorem seatF_le (V L : List UInt64) : ∀ x, seatF V L x ≤ 2 := fun x => by unfold seatF; split; omega; split <;> omega
end Go.Proofs.Ytedpfmalhapmeaa

/- How a configuration, a list of numbers, a list of changes that came in is read. -/
namespace Go.Proofs.Ytedpfmalhapmeaa
open Go.ChangeShapes Go.WideShapes Go.ChangeAt Go.RowKit
set_option linter.unusedVariables false
set_option maxRecDepth 100000

theorem u64_ofNat (z : Int) (h : 0 ≤ z ∧ z ≤ 18446744073709551615) : ((UInt64.ofNat z.toNat).toNat : Int) = z := by
  rw [UInt64.toNat_ofNat']; omega
/-- One list of numbers among the cells that came in. -/
theorem open_nums_cs {H : Type} {enc : TypeId × Value → H} {W : World} {fuel : Nat} {cs : List Value} {x : DataW H × List MemPlace} (hf : DataW.trod enc Try.prog W 0 (fun _ => true) true fuel 22 cs = some x) :
    ∃ u l, cs = [u] ∧ Ru W u l ∧ l.length + 1 ≤ Rows.uptoBulk x.1 := by
  rcases open_ints Try.underlying22 Try.underlying25 (by kernel_rfl) hf with ⟨hcs, hx⟩ | ⟨a, len, cap, zs, hcs, _, hl, hm, hz, hd, hcell, hwz⟩
  · subst hx
    exact ⟨_, [], hcs, Ru.nil _, by simp [Rows.uptoBulk]⟩
  · have hz' : zs.length = cap := by simpa using hz
    have hlen : ((zs.take len).map (fun z => UInt64.ofNat z.toNat)).length = len := by simp; omega
    refine ⟨_, (zs.take len).map (fun z => UInt64.ofNat z.toNat), hcs, Ru.mk hlen.symm (by omega) hm (fun i hi => ?_), ?_⟩
    · have hi' : i < zs.length := by omega
      rw [hcell i hi']
      have hw := hwz (zs[i]) (List.getElem_mem hi')
      have hx : 0 ≤ zs[i] ∧ zs[i] ≤ 18446744073709551615 := by simpa [Lit.wf, IntKind.min, IntKind.max, IntKind.signed, IntKind.bits] using hw
      have e : zs.getD i 0 = zs[i] := by simp [hi']
      rw [e]
      simp only [List.getElem_map, List.getElem_take]
      rw [u64_ofNat _ hx]
    · rw [hlen, hd]
      have := bulk_ge (H := H) (lits .u64 (zs.take len))
      simp only [Rows.uptoBulk]
      simp only [lits, List.length_map, List.length_take] at this
      simp only [lits]
      omega
/-- A list of numbers that came in. -/
theorem open_nums {H : Type} {enc : TypeId × Value → H} {W : World} {a0 : Option Addr} {len cap : Nat} {d : DataW H} {p : List MemPlace} (h : DataW.Trod enc Try.prog W 0 (fun _ => true) true 22 (.slice a0 len cap) d p) :
    ∃ l : List UInt64, Ru W (.slice a0 len cap) l ∧ l.length + 1 ≤ Rows.uptoBulk d := by
  obtain ⟨fuel, hf⟩ := h
  obtain ⟨u, l, e, hq, hb⟩ := open_nums_cs hf
  simp [Value.cells] at e
  subst e
  exact ⟨l, hq, hb⟩
/-- A configuration that came in. -/
theorem open_conf {H : Type} {enc : TypeId × Value → H} {W : World} {xs : Array Value} {d : DataW H} {p : List MemPlace} (h : DataW.Trod enc Try.prog W 0 (fun _ => true) true 24 (.agg xs) d p) :
    ∃ (x y z : Value) (c : Cn), xs = #[x, y, z] ∧ Rc W x y z c ∧ c.1.length + c.2.1.length + c.2.2.length + 3 ≤ Rows.uptoBulk d := by
  obtain ⟨fuel, ht⟩ := h
  obtain ⟨ys, n, _, hx, hl, hxl, hfs⟩ := DataW.trod_struct Try.underlying24 ht
  have k22 : Try.prog.cellsOf 22 = 1 := by kernel_rfl
  have hcz : Try.prog.cellsOf 24 = 3 := by kernel_rfl
  rw [hcz] at hl
  have hd : d = .agg (ys.map (·.1)) := congrArg Prod.fst hx
  clear hx
  obtain ⟨xs⟩ := xs
  have hc : (Value.agg ⟨xs⟩).cells.toList = xs := rfl
  rw [hc] at hl hfs
  obtain ⟨v0, v1, v2, rfl⟩ : ∃ a b c, xs = [a, b, c] := by
    match xs, hl with
    | [a, b, c], _ => exact ⟨a, b, c, rfl⟩
  obtain ⟨y0, y1, y2, rfl⟩ : ∃ a b c, ys = [a, b, c] := by
    have hxl' : ys.length = 3 := hxl
    match ys, hxl' with
    | [a, b, c], _ => exact ⟨a, b, c, rfl⟩
  have f0 : DataW.trod enc Try.prog W 0 (fun _ => true) true n 22 (List.take (Try.prog.cellsOf 22) (List.drop 0 [v0, v1, v2])) = some y0 := hfs 0 _ rfl
  have f1 : DataW.trod enc Try.prog W 0 (fun _ => true) true n 22 (List.take (Try.prog.cellsOf 22) (List.drop 1 [v0, v1, v2])) = some y1 := hfs 1 _ rfl
  have f2 : DataW.trod enc Try.prog W 0 (fun _ => true) true n 22 (List.take (Try.prog.cellsOf 22) (List.drop 2 [v0, v1, v2])) = some y2 := hfs 2 _ rfl
  rw [k22] at f0 f1 f2
  obtain ⟨u0, l0, e0, r0, b0⟩ := open_nums_cs f0
  obtain ⟨u1, l1, e1, r1, b1⟩ := open_nums_cs f1
  obtain ⟨u2, l2, e2, r2, b2⟩ := open_nums_cs f2
  have q0 : v0 = u0 := by simpa using e0
  have q1 : v1 = u1 := by simpa using e1
  have q2 : v2 = u2 := by simpa using e2
  subst q0; subst q1; subst q2
  refine ⟨v0, v1, v2, (l0, l1, l2), rfl, ⟨r0, r1, r2⟩, ?_⟩
  rw [hd]
  simp only [List.map_cons, List.map_nil, Rows.uptoBulk, Rows.uptoBulkAll]
  omega
end Go.Proofs.Ytedpfmalhapmeaa

/- How a list of changes that came in is read: as 'RdX', with a bound on its length by the input's bulk. -/
namespace Go.Proofs.Ytedpfmalhapmeaa
open Go.ChangeShapes Go.WideShapes Go.ChangeAt Go.RowKit
set_option linter.unusedVariables false
set_option maxRecDepth 100000

theorem open_change {H : Type} {enc : TypeId × Value → H} {W : World} {fuel : Nat} {a : Addr} {x : DataW H × List MemPlace}
    (hf : (W.cells? 0 a 2).bind (DataW.trod enc Try.prog W 0 (fun _ => true) true fuel 50) = some x) : ∃ q : Cg, CgAt W a q ∧ -9223372036854775808 ≤ q.1 ∧ q.1 ≤ 9223372036854775807 := by
  rw [Option.bind_eq_some_iff] at hf
  obtain ⟨cs, hcs, ht⟩ := hf
  obtain ⟨_, hlen, hcell⟩ := World.cells?_some hcs
  obtain ⟨xs, n, _, rfl, hl, hxl, hfs⟩ := DataW.trod_struct Try.underlying50 ht
  have k3 : Try.prog.cellsOf 3 = 1 := by kernel_rfl
  have k31 : Try.prog.cellsOf 25 = 1 := by kernel_rfl
  match cs, hlen with
  | [v0, v1], _ =>
    match xs, hxl with
    | [y0, y1], _ =>
      have f0 : DataW.trod enc Try.prog W 0 (fun _ => true) true n 3 (List.take (Try.prog.cellsOf 3) (List.drop 0 [v0, v1])) = some y0 := hfs 0 _ rfl
      have f1 : DataW.trod enc Try.prog W 0 (fun _ => true) true n 25 (List.take (Try.prog.cellsOf 25) (List.drop 1 [v0, v1])) = some y1 := hfs 1 _ rfl
      rw [k3] at f0
      rw [k31] at f1
      replace f0 : DataW.trod enc Try.prog W 0 (fun _ => true) true n 3 [v0] = some y0 := f0
      replace f1 : DataW.trod enc Try.prog W 0 (fun _ => true) true n 25 [v1] = some y1 := f1
      obtain ⟨z0, e0, _, w0⟩ := DataW.trod_int Try.underlying3 f0
      obtain ⟨z1, e1, _, w1⟩ := DataW.trod_int Try.underlying25 f1
      simp only [List.cons.injEq, and_true] at e0 e1
      have b0 : -9223372036854775808 ≤ z0 ∧ z0 ≤ 9223372036854775807 := by simpa [Lit.wf, IntKind.min, IntKind.max, IntKind.signed, IntKind.bits] using w0
      have b1 : 0 ≤ z1 ∧ z1 ≤ 18446744073709551615 := by simpa [Lit.wf, IntKind.min, IntKind.max, IntKind.signed, IntKind.bits] using w1
      have q0 := hcell 0 (by omega)
      have q1 := hcell 1 (by omega)
      simp only [List.getElem?_cons_zero, List.getElem?_cons_succ] at q0 q1
      refine ⟨(z0, UInt64.ofNat z1.toNat), ⟨?_, ?_⟩, b0⟩
      · simp only []
        rw [← e0]; exact q0
      · simp only []
        rw [u64_ofNat _ b1, ← e1]; exact q1

/-- A list of changes that came in. -/
theorem open_changes {H : Type} {enc : TypeId × Value → H} {W : World} {a0 : Option Addr} {len cap : Nat} {d : DataW H} {p : List MemPlace} (h : DataW.Trod enc Try.prog W 0 (fun _ => true) true 37 (.slice a0 len cap) d p) :
    ∃ qs : List Cg, RdX W (.slice a0 len cap) qs ∧ qs.length + 1 ≤ Rows.uptoBulk d := by
  obtain ⟨fuel, hf⟩ := h
  have hc2 : Try.prog.cellsOf 50 = 2 := by kernel_rfl
  rcases DataW.trod_slice Try.underlying37 hf with ⟨hcs, hx⟩ | ⟨a, len', cap', elems, rest, n, _, hcs, hx, _, hl, hm, hlen, hel, _, _⟩
  · simp [Value.cells] at hcs
    obtain ⟨rfl, rfl, rfl⟩ := hcs
    have hd : d = .nil := congrArg Prod.fst hx
    subst hd
    exact ⟨[], ⟨none, 0, rfl, by simp, by simp [maxLen], by simp, by simp⟩, by simp [Rows.uptoBulk]⟩
  · simp [Value.cells] at hcs
    obtain ⟨rfl, rfl, rfl⟩ := hcs
    have hd : d = .slice (elems.map (·.1)) (rest.map (·.1)) := congrArg Prod.fst hx
    have each : ∀ i, i < len → ∃ q : Cg, CgAt W (a.add (i * 2)) q ∧ -9223372036854775808 ≤ q.1 ∧ q.1 ≤ 9223372036854775807 := by
      intro i hi
      have h1 := hel i hi
      rw [hc2, List.getElem?_eq_getElem (by omega)] at h1
      exact open_change h1
    obtain ⟨g, hg⟩ : ∃ g : Nat → Cg, ∀ i, i < len → CgAt W (a.add (i * 2)) (g i) ∧ -9223372036854775808 ≤ (g i).1 ∧ (g i).1 ≤ 9223372036854775807 := by
      refine ⟨fun i => if h : i < len then Classical.choose (each i h) else (0, 0), fun i hi => ?_⟩
      simp only [dif_pos hi]
      exact Classical.choose_spec (each i hi)
    have hgl : ((List.range len).map g).length = len := by simp
    refine ⟨(List.range len).map g, ⟨some a, cap, by rw [hgl], by omega, hm, fun q hq => ?_, fun i q hq => ?_⟩, ?_⟩
    · obtain ⟨i, hi, rfl⟩ := List.mem_map.1 hq
      exact (hg i (List.mem_range.1 hi)).2
    · have hi : i < len := by have := (List.getElem?_eq_some_iff.1 hq).1; omega
      have e3 : ((List.range len).map g)[i]? = some (g i) := by simp [hi]
      rw [e3] at hq
      obtain rfl := Option.some.inj hq
      exact ⟨a, rfl, (hg i hi).1⟩
    · have := bulk_ge (H := H) (elems.map (·.1))
      rw [hgl, hd]
      simp only [Rows.uptoBulk]
      simp only [List.length_map] at this
      omega
/-- A list of changes that came in and is nil has no room. -/
theorem open_changes_nil {H : Type} {enc : TypeId × Value → H} {W : World} {a0 : Option Addr} {len cap : Nat} {d : DataW H} {p : List MemPlace} (h : DataW.Trod enc Try.prog W 0 (fun _ => true) true 37 (.slice a0 len cap) d p) : a0 = none → cap = 0 := by
  obtain ⟨fuel, hf⟩ := h
  rcases DataW.trod_slice Try.underlying37 hf with ⟨hcs, hx⟩ | ⟨a, len', cap', elems, rest, n, _, hcs, hx, _⟩
  · simp [Value.cells] at hcs
    exact fun _ => hcs.2.2
  · simp [Value.cells] at hcs
    intro e
    rw [e] at hcs
    cases hcs.1
end Go.Proofs.Ytedpfmalhapmeaa

/- A list of changes is copied: append(nil, l...). -/
namespace Go.Proofs.Ytedpfmalhapmeaa
open Go.RowKit
set_option linter.unusedVariables false
set_option maxRecDepth 100000

def celX (qs : List Cg) : List Value := qs.flatMap (fun q => [Value.int .i64 q.1, .int .u64 (q.2.toNat : Int)])
theorem celX_len (qs : List Cg) : (celX qs).length = qs.length * 2 := by
  induction qs with
  | nil => rfl
  | cons q r ih => simp only [celX, List.flatMap_cons, List.length_append, List.length_cons, List.length_nil] at *; omega
theorem celX_get : ∀ (qs : List Cg) (i : Nat) (q : Cg), qs[i]? = some q → (celX qs)[i * 2]? = some (.int .i64 q.1) ∧ (celX qs)[i * 2 + 1]? = some (.int .u64 (q.2.toNat : Int)) := by
  intro qs
  induction qs with
  | nil => intro i q h; simp at h
  | cons a r ih =>
    intro i q h
    cases i with
    | zero => simp at h; subst h; simp [celX]
    | succ i =>
      have := ih i q (by simpa using h)
      have e1 : (i + 1) * 2 = i * 2 + 1 + 1 := by omega
      rw [e1]
      simpa [celX] using this
theorem celX_inv (qs : List Cg) (j : Nat) (u : Value) (h : (celX qs)[j]? = some u) : ∃ i q, qs[i]? = some q ∧ ((j = i * 2 ∧ u = .int .i64 q.1) ∨ (j = i * 2 + 1 ∧ u = .int .u64 (q.2.toNat : Int))) := by
  have hj := (List.getElem?_eq_some_iff.1 h).1
  rw [celX_len] at hj
  have hi : j / 2 < qs.length := by omega
  have hq := celX_get qs (j / 2) qs[j / 2] (List.getElem?_eq_getElem hi)
  refine ⟨j / 2, qs[j / 2], List.getElem?_eq_getElem hi, ?_⟩
  rcases Nat.mod_two_eq_zero_or_one j with e | e
  · left
    have e2 : j = j / 2 * 2 := by omega
    rw [e2, hq.1] at h
    exact ⟨e2, (Option.some.inj h).symm⟩
  · right
    have e2 : j = j / 2 * 2 + 1 := by omega
    rw [e2, hq.2] at h
    exact ⟨e2, (Option.some.inj h).symm⟩
theorem celX_one (qs : List Cg) : ∀ u ∈ celX qs, u.oneCell' = true := by
  intro u hu
  obtain ⟨q, _, h⟩ := List.mem_flatMap.1 hu
  simp only [List.mem_cons, List.not_mem_nil, or_false] at h
  rcases h with rfl | rfl <;> rfl
theorem Try.infoX : (Try.prog.info? 50).map (fun i => (i.zero, i.size, i.bytes)) = some (some (.agg #[.int .i64 0, .int .u64 0]), 2, 16) := by kernel_rfl

theorem add_next (a : Addr) (n : Nat) : (⟨(a.add n).block, (a.add n).off + 1, none⟩ : Addr) = a.add (n + 1) := by
  unfold Addr.add
  by_cases h : n = 0
  · subst h; simp
  · simp [h]; omega
/-- 'append(nil, x...)' of changes: what the operation does. -/
theorem run_appX (w : World) (ty : TypeId) (vx : Value) (m : List Cg) (hm : RdX w vx m) (hnil : ∀ n c, vx = .slice none n c → c = 0) (hlen : m.length ≤ 1099511627776) :
    ∃ v' w', (Builtin.append_ #[37, 37] ty #[.slice none 0 0, vx]).run Try.prog w = .ok v' w' ∧ RdX w' v' m ∧ Below w.heap.size w w' := by
  obtain ⟨i, hi, hz0, hz1, hz2⟩ := info_parts Try.infoX
  have hown : w.ownsRow w.heap.size 50 2 (.slice none 0 0) 0 [] := World.ownsRow_nil _ _ _ _
  obtain ⟨ao, c, rfl, h1, h2, h3, h4⟩ := hm
  cases ao with
  | none =>
    have hl : m = [] := by
      cases m with
      | nil => rfl
      | cons q r => obtain ⟨a, e, _⟩ := h4 0 q rfl; cases e
    subst hl
    obtain rfl := hnil _ _ rfl
    exact ⟨_, w, run_append_owned_none (P := Try.prog) (w := w) w.heap.size 37 ty 50 i 2 Try.underlying37 hi _ 0 [] hown, ⟨none, 0, rfl, by simp, by simp [maxLen], h3, by simp⟩, Below.refl _ _⟩
  | some ad =>
    obtain ⟨v', w', hr, q2, q3, q4⟩ := run_appW (P := Try.prog) w w.heap.size 37 ty 50 _ 2 16 Try.underlying37 Try.infoX rfl (by decide) (.slice none 0 0) 0 [] hown ad m.length c (celX m) (celX_len m) (by
      intro j u hu
      obtain ⟨i, q, hq, h⟩ := celX_inv m j u hu
      obtain ⟨a', e, hc⟩ := h4 i q hq
      obtain rfl := Option.some.inj e
      rcases h with ⟨rfl, rfl⟩ | ⟨rfl, rfl⟩
      · exact hc.c0
      · have := hc.c1; rw [add_next] at this; exact this) (celX_one m) (by unfold maxLen; omega) (by omega) (Nat.le_refl _)
    refine ⟨v', w', hr, ?_, (Below.refl _ _).grown q3 (Nat.le_refl _) (fun j e => by cases e)⟩
    rw [List.nil_append, Nat.zero_add] at q2
    rcases q2.2 with ⟨rfl, h0⟩ | ⟨g, cap, cur, rfl, hg, hh, hn, hcap, hsz, htake⟩
    · have hl : m = [] := List.length_eq_zero_iff.1 h0
      subst hl
      exact ⟨none, 0, rfl, by simp, by simp [maxLen], h3, by simp⟩
    · refine ⟨some ⟨g, 0, none⟩, cap, rfl, hn, hcap, h3, fun i q hq => ⟨_, rfl, ?_, ?_⟩⟩
      · exact q2.cells (g := g) rfl (i * 2) _ (celX_get m i q hq).1
      · have := q2.cells (g := g) rfl (i * 2 + 1) _ (celX_get m i q hq).2
        rw [add_next]; exact this
theorem step_appX0 {ops : Array Oper} {o : Oper} {a : Act} {w : World} {K : Act → World → Prop} {Q : Exit → Act → World → Prop} {E : Prop} (hgd : o.guard = none) (s x : Operand)
    (ho : o.op = .call { callee := .builtin .append, args := #[s, x], argTypes := #[37, 37] })
    (hs : a.eval s = .slice none 0 0) (vx : Value) (m : List Cg) (hx : a.eval x = vx) (hm : RdX w vx m) (hnil : ∀ n c, vx = .slice none n c → c = 0)
    (hlen : m.length ≤ 1099511627776)
    (hK : ∀ v' w', RdX w' v' m → Below w.heap.size w w' → K (a.put o.dst v') w') : if Region.wanted o (yielded ops a.tmps) = true then Oper.wp Try.prog o a w K Q else E := by
  have hw : Region.wanted o (yielded ops a.tmps) = true := by simp [Region.wanted, hgd]
  rw [if_pos hw]
  obtain ⟨v', w', hr, q2, q3⟩ := run_appX w o.type vx m hm hnil hlen
  unfold Oper.wp execOp
  simp only [ho, resolve, invoke, builtin, Sem.run_bind, Sem.run_pure, Result.andThen_ok, List.map_toArray, List.map_cons, List.map_nil, hs, hx, hr]
  exact hK v' w' q2 q3
end Go.Proofs.Ytedpfmalhapmeaa

/- A block that holds a configuration. -/
namespace Go.Proofs.Ytedpfmalhapmeaa
open Go.RowKit
set_option linter.unusedVariables false
set_option maxRecDepth 100000

/-- The block B holds a configuration. -/
def Box (B : Nat) (w : World) (x y z : Value) (c : Cn) : Prop := w.heap[B]? = some (.cells #[x, y, z] 24 (0, 0)) ∧ Rc w x y z c ∧ ∀ v ∈ [x, y, z], ∀ b, v.ownBlock = some b → b ≠ B ∧ b < w.heap.size
theorem Box.below {B C : Nat} {w w' : World} {x y z : Value} {c : Cn} (h : Box B w x y z c) (hB : B < w.heap.size) (hb : Below C w w') (hC : w.heap.size ≤ C) : Box B w' x y z c :=
  ⟨(hb.block _ (by omega)).trans h.1, h.2.1.below hb hC, fun v hv b e => ⟨(h.2.2 v hv b e).1, by have := (h.2.2 v hv b e).2; have := hb.size; omega⟩⟩
/-- A configuration is written over the block. -/
theorem Box.put {B : Nat} {w : World} {x y z x' y' z' : Value} {c c' : Cn} (h : Box B w x y z c) (hr : Rc w x' y' z' c') (hne : ∀ v ∈ [x', y', z'], ∀ b, v.ownBlock = some b → b ≠ B ∧ b < w.heap.size) : Box B (((w.setCell ⟨B, 0, none⟩ x').setCell ⟨B, 1, none⟩ y').setCell ⟨B, 2, none⟩ z') x' y' z' c' := by
  have hch := put3_chg w B x' y' z'
  exact ⟨put3 h.1 x' y' z', ⟨hr.1.keptC hch (fun b e q => (hne x' (by simp) b e).1 q), hr.2.1.keptC hch (fun b e q => (hne y' (by simp) b e).1 q), hr.2.2.keptC hch (fun b e q => (hne z' (by simp) b e).1 q)⟩, fun v hv b e => ⟨(hne v hv b e).1, by have := (hne v hv b e).2; simp only [World.size_setCell]; exact this⟩⟩

theorem Oc.blk {G : Nat} {w : World} {x y z : Value} {c : Cn} (h : Oc G w x y z c) : ∀ v ∈ [x, y, z], ∀ b, v.ownBlock = some b → G ≤ b ∧ b < w.heap.size := by
  intro v hv b e
  simp only [List.mem_cons, List.not_mem_nil, or_false] at hv
  rcases hv with rfl | rfl | rfl
  · exact h.1.lt b e
  · exact h.2.1.lt b e
  · exact h.2.2.lt b e
theorem Ru.put1 {w : World} {v : Value} {l : List UInt64} (h : Ru w v l) (g i : Nat) (u : Value) (hne : ∀ b, v.ownBlock = some b → b ≠ g) : Ru (w.setCell ⟨g, i, none⟩ u) v l := h.keptC ((Chg.refl (fun b => b = g) w).put g i u rfl) (fun b e q => hne b e q)
/-- One of its lists is written anew. -/
theorem Box.set0 {g : Nat} {w : World} {x y z v : Value} {c : Cn} {l : List UInt64} (h : Box g w x y z c) (hv : Ru w v l) (hb : ∀ b, v.ownBlock = some b → b ≠ g ∧ b < w.heap.size) : Box g (w.setCell ⟨g, 0, none⟩ v) v y z (l, c.2.1, c.2.2) := by
  have hn := h.2.2
  refine ⟨by rw [heap_setCell_same _ _ 0 _ _ _ h.1]; rfl, ⟨hv.put1 _ _ _ (fun b e => (hb b e).1), h.2.1.2.1.put1 _ _ _ (fun b e => (hn y (by simp) b e).1), h.2.1.2.2.put1 _ _ _ (fun b e => (hn z (by simp) b e).1)⟩, fun u hu b e => ?_⟩
  simp only [World.size_setCell]
  simp only [List.mem_cons, List.not_mem_nil, or_false] at hu
  rcases hu with rfl | rfl | rfl
  · exact hb b e
  · exact hn _ (by simp) b e
  · exact hn _ (by simp) b e
theorem Box.set1 {g : Nat} {w : World} {x y z v : Value} {c : Cn} {l : List UInt64} (h : Box g w x y z c) (hv : Ru w v l) (hb : ∀ b, v.ownBlock = some b → b ≠ g ∧ b < w.heap.size) : Box g (w.setCell ⟨g, 1, none⟩ v) x v z (c.1, l, c.2.2) := by
  have hn := h.2.2
  refine ⟨by rw [heap_setCell_same _ _ 1 _ _ _ h.1]; rfl, ⟨h.2.1.1.put1 _ _ _ (fun b e => (hn x (by simp) b e).1), hv.put1 _ _ _ (fun b e => (hb b e).1), h.2.1.2.2.put1 _ _ _ (fun b e => (hn z (by simp) b e).1)⟩, fun u hu b e => ?_⟩
  simp only [World.size_setCell]
  simp only [List.mem_cons, List.not_mem_nil, or_false] at hu
  rcases hu with rfl | rfl | rfl
  · exact hn _ (by simp) b e
  · exact hb b e
  · exact hn _ (by simp) b e
theorem Box.set2 {g : Nat} {w : World} {x y z v : Value} {c : Cn} {l : List UInt64} (h : Box g w x y z c) (hv : Ru w v l) (hb : ∀ b, v.ownBlock = some b → b ≠ g ∧ b < w.heap.size) : Box g (w.setCell ⟨g, 2, none⟩ v) x y v (c.1, c.2.1, l) := by
  have hn := h.2.2
  refine ⟨by rw [heap_setCell_same _ _ 2 _ _ _ h.1]; rfl, ⟨h.2.1.1.put1 _ _ _ (fun b e => (hn x (by simp) b e).1), h.2.1.2.1.put1 _ _ _ (fun b e => (hn y (by simp) b e).1), hv.put1 _ _ _ (fun b e => (hb b e).1)⟩, fun u hu b e => ?_⟩
  simp only [World.size_setCell]
  simp only [List.mem_cons, List.not_mem_nil, or_false] at hu
  rcases hu with rfl | rfl | rfl
  · exact hn _ (by simp) b e
  · exact hn _ (by simp) b e
  · exact hb b e
end Go.Proofs.Ytedpfmalhapmeaa

/- What the law's CopyConf answers: a configuration in new memory. -/
namespace Go.Proofs.Ytedpfmalhapmeaa
open Go.RowKit
set_option linter.unusedVariables false
set_option maxRecDepth 100000

/-- 'append(out, x...)' of numbers: what the operation does. -/
theorem run_appU (w : World) (ty : TypeId) (B : Nat) (v : Value) (l : List UInt64) (hown : Ou B w v l) (vx : Value) (m : List UInt64) (hm : Ru w vx m) (hB : B ≤ w.heap.size) (hlen : l.length + m.length ≤ 10995116277760) :
    ∃ v' w', (Builtin.append_ #[22, 22] ty #[v, vx]).run Try.prog w = .ok v' w' ∧ Ou B w' v' (l ++ m) ∧ w.grownBy w' v.ownBlock ∧ (v'.ownBlock = v.ownBlock ∨ v'.ownBlock = some w.heap.size) := by
  obtain ⟨i, hi, hz0, hz1, hz2⟩ := info_parts Try.infoU
  rcases hm.two with ⟨rfl, rfl⟩ | ⟨ad, c, rfl, h1, h2, h3⟩
  · exact ⟨v, w, run_append_owned_none (P := Try.prog) (w := w) B 22 ty 25 i 1 Try.underlying22 hi v l.length (celU l) hown, by simpa using hown, World.grownBy.refl _ _, .inl rfl⟩
  · obtain ⟨v', w', hr, q2, q3, q4⟩ := run_appN (P := Try.prog) w B 22 ty 25 (.int .u64 0) 8 Try.underlying22 Try.infoU rfl v l.length (celU l) hown ad m.length c (celU m) (by simp [celU_length]) (by
      intro j u hu
      have hj : j < m.length := by have := (List.getElem?_eq_some_iff.1 hu).1; simpa [celU_length] using this
      rw [h3 j hj]; rw [celU_get m j hj] at hu; exact hu) (celU_one m) (by unfold maxLen; omega) (by omega) hB
    exact ⟨v', w', hr, by unfold Ou; rw [celU_append, List.length_append]; exact q2, q3, q4⟩
/-- 'append(nil, x...)' of numbers, as a step of a drawn region. -/
theorem step_appU0 {ops : Array Oper} {o : Oper} {a : Act} {w : World} {K : Act → World → Prop} {Q : Exit → Act → World → Prop} {E : Prop} (hgd : o.guard = none) (s x : Operand)
    (ho : o.op = .call { callee := .builtin .append, args := #[s, x], argTypes := #[22, 22] })
    (B : Nat) (hs : a.eval s = .slice none 0 0) (vx : Value) (m : List UInt64) (hx : a.eval x = vx) (hm : Ru w vx m)
    (hB : B ≤ w.heap.size) (hlen : m.length ≤ 1099511627776)
    (hK : ∀ v' w', Ou B w' v' m → Below w.heap.size w w' → K (a.put o.dst v') w') : if Region.wanted o (yielded ops a.tmps) = true then Oper.wp Try.prog o a w K Q else E := by
  have hw : Region.wanted o (yielded ops a.tmps) = true := by simp [Region.wanted, hgd]
  rw [if_pos hw]
  obtain ⟨v', w', hr, q2, q3, q4⟩ := run_appU w o.type B _ [] (Ou.nil _ _) vx m hm hB (by simp; omega)
  unfold Oper.wp execOp
  simp only [ho, resolve, invoke, builtin, Sem.run_bind, Sem.run_pure, Result.andThen_ok, List.map_toArray, List.map_cons, List.map_nil, hs, hx, hr]
  exact hK v' w' q2 ((Below.refl w.heap.size w).grown q3 (Nat.le_refl _) (fun j e => by cases e))

set_option maxHeartbeats 4000000 in
theorem lcopyc_any {x y z : Value} {c : Cn} {w : World} (hr : Rc w x y z c) (hl : c.1.length + c.2.1.length + c.2.2.length ≤ 1099511627776) :
    Calls Try.prog 8 #[.agg #[x, y, z]] w fun e w' => ∃ (x' y' z' : Value), e = .returned (.agg #[x', y', z']) ∧ Oc w.heap.size w' x' y' z' c ∧ Below w.heap.size w w' := by
  obtain ⟨V, O, L⟩ := c
  simp only [] at hl
  obtain ⟨ax, cx, rfl⟩ := hr.1.shape
  obtain ⟨ay, cy, rfl⟩ := hr.2.1.shape
  obtain ⟨az, cz, rfl⟩ := hr.2.2.shape
  simp only [] at hr ⊢
  have hB0 : Below w.heap.size w ((w.alloc (.cells #[.slice ax V.length cx, .slice ay O.length cy, .slice az L.length cz] 24)).alloc (.cells #[.slice none 0 0, .slice none 0 0, .slice none 0 0] 24)) := (u_al w _).alloc (by simp) _
  have hz0 : ((w.alloc (.cells #[.slice ax V.length cx, .slice ay O.length cy, .slice az L.length cz] 24)).alloc (.cells #[.slice none 0 0, .slice none 0 0, .slice none 0 0] 24)).heap.size = w.heap.size + 2 := by simp
  have hbx : ((w.alloc (.cells #[.slice ax V.length cx, .slice ay O.length cy, .slice az L.length cz] 24)).alloc (.cells #[.slice none 0 0, .slice none 0 0, .slice none 0 0] 24)).heap[w.heap.size]? = some (.cells #[.slice ax V.length cx, .slice ay O.length cy, .slice az L.length cz] 24 (0, 0)) := by
    rw [Below.heap_alloc _ _ _ (by simp)]; exact heap_alloc_new w _
  have hrs : ((w.alloc (.cells #[.slice ax V.length cx, .slice ay O.length cy, .slice az L.length cz] 24)).alloc (.cells #[.slice none 0 0, .slice none 0 0, .slice none 0 0] 24)).heap[w.heap.size + 1]? = some (.cells #[.slice none 0 0, .slice none 0 0, .slice none 0 0] 24 (0, 0)) := by
    have := heap_alloc_new (w.alloc (.cells #[.slice ax V.length cx, .slice ay O.length cy, .slice az L.length cz] 24)) (.cells #[.slice none 0 0, .slice none 0 0, .slice none 0 0] 24)
    rw [World.size_alloc] at this
    exact this
  go_enter Try.func8, Try.ntmps8
  go_wp2_with fail
  generalize ((w.alloc (.cells #[.slice ax V.length cx, .slice ay O.length cy, .slice az L.length cz] 24)).alloc (.cells #[.slice none 0 0, .slice none 0 0, .slice none 0 0] 24)) = W0 at *
  have HKB : Hid (∀ W, Below W0.heap.size W0 W → Below w.heap.size w W) := fun W hW => hB0.trans (hW.mono hB0.size)
  have HKC : Hid (∀ W, Below W0.heap.size W0 W → W.cell? ⟨w.heap.size, 0, none⟩ = some (.slice ax V.length cx) ∧ W.cell? ⟨w.heap.size, 1, none⟩ = some (.slice ay O.length cy) ∧ W.cell? ⟨w.heap.size, 2, none⟩ = some (.slice az L.length cz)) := fun W hW => by
    obtain ⟨q0, q1, q2, _⟩ := at3 ((hW.block _ (by omega)).trans hbx)
    exact ⟨q0, q1, q2⟩
  have HKR : Hid (∀ W, Below W0.heap.size W0 W → W.heap[w.heap.size + 1]? = some (.cells #[.slice none 0 0, .slice none 0 0, .slice none 0 0] 24 (0, 0))) := fun W hW => (hW.block _ (by omega)).trans hrs
  have HR1 : Hid (∀ W, Below W0.heap.size W0 W → Ru W (.slice ax V.length cx) V) := fun W hW => hr.1.below (HKB.out W hW) (Nat.le_refl _)
  have HR2 : Hid (∀ W, Below W0.heap.size W0 W → Ru W (.slice ay O.length cy) O) := fun W hW => hr.2.1.below (HKB.out W hW) (Nat.le_refl _)
  have HR3 : Hid (∀ W, Below W0.heap.size W0 W → Ru W (.slice az L.length cz) L) := fun W hW => hr.2.2.below (HKB.out W hW) (Nat.le_refl _)
  have HOUT : Hid (∀ (W : World) (x' y' z' : Value), Below W0.heap.size W0 W → Oc W0.heap.size W x' y' z' (V, O, L) → ∀ W', W' = ((W.setCell ⟨w.heap.size + 1, 0, none⟩ x').setCell ⟨w.heap.size + 1, 1, none⟩ y').setCell ⟨w.heap.size + 1, 2, none⟩ z' → (W'.cell? ⟨w.heap.size + 1, 0, none⟩ = some x' ∧ W'.cell? ⟨w.heap.size + 1, 1, none⟩ = some y' ∧ W'.cell? ⟨w.heap.size + 1, 2, none⟩ = some z') ∧ Oc w.heap.size W' x' y' z' (V, O, L) ∧ Below w.heap.size w W') := fun W x' y' z' hW ho => outO (HKR.out W hW) (Nat.le_succ _) (by omega) (HKB.out W hW) ho
  clear hbx hrs hr hB0
  obtain ⟨c0, c1, c2⟩ := HKC.out W0 (Below.refl _ _)
  have hb0 : Below W0.heap.size W0 (W0.drewN 1) := Below.drN (Below.refl _ _) 1
  go_region_held3 (fun w' => w'.cell? ⟨w.heap.size, 0, none⟩ = some (.slice ax V.length cx) ∧ w'.cell? ⟨w.heap.size, 1, none⟩ = some (.slice ay O.length cy) ∧ w'.cell? ⟨w.heap.size, 2, none⟩ = some (.slice az L.length cz)) (go_keep) (first
    | (refine step_appU0 rfl _ _ rfl W0.heap.size rfl _ _ rfl (by first | exact HR1.out w2 hb2 | exact HR2.out w2 hb2 | exact HR3.out w2 hb2) hb2.size (by omega) ?_; intro v3 w3 ho3 hb3'; have hb3 := hb2.trans (hb3'.mono hb2.size); have ho1b := ho1a.below hb3' (Nat.le_refl _); have ho2b := ho2.below hb3' (Nat.le_refl _); obtain ⟨a3, e3, rfl⟩ := ho3.shape; obtain ⟨r0, r1, r2⟩ := HKC.out w3 hb3; obtain ⟨t0, t1, t2, tz⟩ := at3 (HKR.out w3 hb3); have tz0 := tz 0; have tz1 := tz 1; have tz2 := tz 2; clear tz)
    | (refine step_appU0 rfl _ _ rfl W0.heap.size rfl _ _ rfl (by first | exact HR1.out w1 hb1 | exact HR2.out w1 hb1 | exact HR3.out w1 hb1) hb1.size (by omega) ?_; intro v2 w2 ho2 hb2'; have hb2 := hb1.trans (hb2'.mono hb1.size); have ho1a := ho1.below hb2' (Nat.le_refl _); obtain ⟨a2, e2, rfl⟩ := ho2.shape; obtain ⟨q0, q1, q2⟩ := HKC.out w2 hb2)
    | (refine step_appU0 rfl _ _ rfl W0.heap.size rfl _ _ rfl (by first | exact HR1.out _ hb0 | exact HR2.out _ hb0 | exact HR3.out _ hb0) hb0.size (by omega) ?_; intro v1 w1 ho1 hb1'; have hb1 := hb0.trans (hb1'.mono hb0.size); obtain ⟨a1, e1, rfl⟩ := ho1.shape; obtain ⟨p0, p1, p2⟩ := HKC.out w1 hb1)
    | fail)
  go_wp2_with fail
  obtain ⟨⟨k0, k1, k2⟩, hoc, hbz⟩ := HOUT.out w3 (.slice a1 V.length e1) (.slice a2 O.length e2) (.slice a3 L.length e3) hb3 ⟨ho1b, ho2b, ho3⟩ _ rfl
  generalize (((w3.setCell ⟨w.heap.size + 1, 0, none⟩ (.slice a1 V.length e1)).setCell ⟨w.heap.size + 1, 1, none⟩ (.slice a2 O.length e2)).setCell ⟨w.heap.size + 1, 2, none⟩ (.slice a3 L.length e3)) = wz at *
  refine bodyPost_ret (v := .agg #[.slice a1 V.length e1, .slice a2 O.length e2, .slice a3 L.length e3]) (by simp [results, Try.results8, go_sem, k0, k1, k2]; try rfl) rfl ?_
  exact ⟨_, _, _, rfl, hoc, hbz⟩
end Go.Proofs.Ytedpfmalhapmeaa

/- The walk of Enter. -/
namespace Go.Proofs.Ytedpfmalhapmeaa
open Go.RowKit Go.Maps
set_option linter.unusedVariables false
set_option maxRecDepth 100000

theorem St.chg {m n : Nat} {S : UInt64 → Nat} {w w' : World} {T : Nat → Prop} (h : St m n S w) (hc : Chg T w w') (hT : ¬ T m) : St m n S w' := by
  obtain ⟨D, ⟨es, clock, hbk, r⟩, h2⟩ := h.own
  exact ⟨⟨D, ⟨es, clock, by rw [hc.block m (Array.getElem?_eq_some_iff.1 hbk).1 hT]; exact hbk, r⟩, h2⟩⟩
theorem St.lt {m n : Nat} {S : UInt64 → Nat} {w : World} (h : St m n S w) : m < w.heap.size := by
  obtain ⟨D, hown, _⟩ := h.own; exact hown.lt

set_option maxHeartbeats 8000000 in
theorem enter_any {N : Nat} (hSo : SortsTo N) {x y z v : Value} {c : Cn} {qs : List Cg} {w : World} (hr : Rc w x y z c) (hx : RdX w v qs) (hl : c.1.length + c.2.1.length + c.2.2.length ≤ N ∨ 27 ≤ N) (hn : c.1.length + c.2.2.length + qs.length ≤ N) (hN : N ≤ 1099511627776)
    (hq : 27 ≤ N ∨ ∀ S V' L', foldS (seatF c.1 c.2.2) qs = some S → IsL S 1 V' → IsL S 2 L' → V'.length + c.1.length + L'.length ≤ N) :
    Calls Try.prog 21 #[.agg #[x, y, z], v] w fun e w' => ∃ (x' y' z' : Value) (res : Cn) (er : Nat), e = .returned (.tuple #[.agg #[x', y', z'], .int .i64 er]) ∧ Oc w.heap.size w' x' y' z' res ∧ EntR c qs res er ∧ Below w.heap.size w w' := by
  obtain ⟨V, O, L⟩ := c
  obtain ⟨ax, cx, rfl⟩ := hr.1.shape
  obtain ⟨ay, cy, rfl⟩ := hr.2.1.shape
  obtain ⟨az, cz, rfl⟩ := hr.2.2.shape
  simp only [] at hl hn hq
  have hB0 : Below w.heap.size w ((w.alloc (.cells #[.slice ax V.length cx, .slice ay O.length cy, .slice az L.length cz] 24)).alloc (.cells #[.slice none 0 0, .slice none 0 0, .slice none 0 0] 24)) := (u_al w _).alloc (by simp) _
  have hz0 : ((w.alloc (.cells #[.slice ax V.length cx, .slice ay O.length cy, .slice az L.length cz] 24)).alloc (.cells #[.slice none 0 0, .slice none 0 0, .slice none 0 0] 24)).heap.size = w.heap.size + 2 := by simp
  have hbx : ((w.alloc (.cells #[.slice ax V.length cx, .slice ay O.length cy, .slice az L.length cz] 24)).alloc (.cells #[.slice none 0 0, .slice none 0 0, .slice none 0 0] 24)).heap[w.heap.size]? = some (.cells #[.slice ax V.length cx, .slice ay O.length cy, .slice az L.length cz] 24 (0, 0)) := by
    rw [Below.heap_alloc _ _ _ (by simp)]; exact heap_alloc_new w _
  have hrs : ((w.alloc (.cells #[.slice ax V.length cx, .slice ay O.length cy, .slice az L.length cz] 24)).alloc (.cells #[.slice none 0 0, .slice none 0 0, .slice none 0 0] 24)).heap[w.heap.size + 1]? = some (.cells #[.slice none 0 0, .slice none 0 0, .slice none 0 0] 24 (0, 0)) := by
    have := heap_alloc_new (w.alloc (.cells #[.slice ax V.length cx, .slice ay O.length cy, .slice az L.length cz] 24)) (.cells #[.slice none 0 0, .slice none 0 0, .slice none 0 0] 24)
    rw [World.size_alloc] at this
    exact this
  go_enter Try.func21, Try.ntmps21
  go_wp2_with fail
  generalize ((w.alloc (.cells #[.slice ax V.length cx, .slice ay O.length cy, .slice az L.length cz] 24)).alloc (.cells #[.slice none 0 0, .slice none 0 0, .slice none 0 0] 24)) = W0 at *
  have HKB : Hid (∀ W, Below W0.heap.size W0 W → Below w.heap.size w W) := fun W hW => hB0.trans (hW.mono hB0.size)
  have HKC : Hid (∀ W, Below W0.heap.size W0 W → W.cell? ⟨w.heap.size, 0, none⟩ = some (.slice ax V.length cx) ∧ W.cell? ⟨w.heap.size, 1, none⟩ = some (.slice ay O.length cy) ∧ W.cell? ⟨w.heap.size, 2, none⟩ = some (.slice az L.length cz)) := fun W hW => by
    obtain ⟨q0, q1, q2, _⟩ := at3 ((hW.block _ (by omega)).trans hbx)
    exact ⟨q0, q1, q2⟩
  have HKR : Hid (∀ W, Below W0.heap.size W0 W → W.heap[w.heap.size + 1]? = some (.cells #[.slice none 0 0, .slice none 0 0, .slice none 0 0] 24 (0, 0))) := fun W hW => (hW.block _ (by omega)).trans hrs
  have HRC : Hid (∀ W, Below W0.heap.size W0 W → Rc W (.slice ax V.length cx) (.slice ay O.length cy) (.slice az L.length cz) (V, O, L)) := fun W hW => hr.below (HKB.out W hW) (Nat.le_refl _)
  have HRX : Hid (∀ W, Below W0.heap.size W0 W → RdX W v qs) := fun W hW => hx.below (HKB.out W hW) (Nat.le_refl _)
  have HOUT : Hid (∀ (W : World) (x' y' z' : Value) (res : Cn), Below W0.heap.size W0 W → Oc W0.heap.size W x' y' z' res → ∀ W', W' = ((W.setCell ⟨w.heap.size + 1, 0, none⟩ x').setCell ⟨w.heap.size + 1, 1, none⟩ y').setCell ⟨w.heap.size + 1, 2, none⟩ z' → (W'.cell? ⟨w.heap.size + 1, 0, none⟩ = some x' ∧ W'.cell? ⟨w.heap.size + 1, 1, none⟩ = some y' ∧ W'.cell? ⟨w.heap.size + 1, 2, none⟩ = some z') ∧ Oc w.heap.size W' x' y' z' res ∧ Below w.heap.size w W') := fun W x' y' z' res hW ho => outO (HKR.out W hW) (Nat.le_succ _) (by omega) (HKB.out W hW) ho
  clear hbx hrs hr hx hB0
  obtain ⟨c0, c1, c2⟩ := HKC.out W0 (Below.refl _ _)
  have hck := check_any hSo (HRC.out W0 (Below.refl _ _)) hl hN
  cases hchk : chk (V, O, L) with
  | false =>
    rw [hchk] at hck
    have HE : Hid (EntR (V, O, L) qs none3 70) := .inl ⟨hchk, rfl, rfl⟩
    go_wp2_with fail
    refine hck.mono ?_
    rintro e w1 ⟨rfl, hb1⟩
    obtain ⟨t0, t1, t2, tz⟩ := at3 (HKR.out w1 hb1)
    have tz0 := tz 0
    have tz1 := tz 1
    have tz2 := tz 2
    clear tz
    go_wp2_with fail
    obtain ⟨⟨k0, k1, k2⟩, hoc, hbz⟩ := HOUT.out w1 _ _ _ none3 hb1 (Oc.nil _ _) _ rfl
    generalize (((w1.setCell ⟨w.heap.size + 1, 0, none⟩ (.slice none 0 0)).setCell ⟨w.heap.size + 1, 1, none⟩ (.slice none 0 0)).setCell ⟨w.heap.size + 1, 2, none⟩ (.slice none 0 0)) = wz at *
    refine bodyPost_ret (v := .tuple #[.agg #[.slice none 0 0, .slice none 0 0, .slice none 0 0], .int .i64 70]) (by simp [results, Try.results21, go_sem, k0, k1, k2]; try rfl) rfl ?_
    exact ⟨_, _, _, none3, 70, rfl, hoc, HE.out, hbz⟩
  | true =>
    rw [hchk] at hck
    go_wp2_with fail
    refine hck.mono ?_
    rintro e w1 ⟨rfl, hb1⟩
    clear hck
    obtain ⟨d0, d1, d2⟩ := HKC.out w1 hb1
    have hjo := ujoint_any (HRC.out w1 hb1)
    simp only [] at hjo
    by_cases hO : 0 < O.length
    · rw [decide_eq_true hO] at hjo
      have HE : Hid (EntR (V, O, L) qs none3 71) := .inr (.inl ⟨hchk, hO, rfl, rfl⟩)
      go_wp2_with fail
      refine hjo.mono ?_
      rintro e w2 ⟨rfl, hb2'⟩
      have hb2 : Below W0.heap.size W0 w2 := hb1.trans (hb2'.mono hb1.size)
      obtain ⟨t0, t1, t2, tz⟩ := at3 (HKR.out w2 hb2)
      have tz0 := tz 0
      have tz1 := tz 1
      have tz2 := tz 2
      clear tz
      go_wp2_with fail
      obtain ⟨⟨k0, k1, k2⟩, hoc, hbz⟩ := HOUT.out w2 _ _ _ none3 hb2 (Oc.nil _ _) _ rfl
      generalize (((w2.setCell ⟨w.heap.size + 1, 0, none⟩ (.slice none 0 0)).setCell ⟨w.heap.size + 1, 1, none⟩ (.slice none 0 0)).setCell ⟨w.heap.size + 1, 2, none⟩ (.slice none 0 0)) = wz at *
      refine bodyPost_ret (v := .tuple #[.agg #[.slice none 0 0, .slice none 0 0, .slice none 0 0], .int .i64 71]) (by simp [results, Try.results21, go_sem, k0, k1, k2]; try rfl) rfl ?_
      exact ⟨_, _, _, none3, 71, rfl, hoc, HE.out, hbz⟩
    · rw [decide_eq_false hO] at hjo
      have HO : Hid (O = []) := List.length_eq_zero_iff.1 (by omega)
      have HCK : Hid _ := hchk
      clear hchk hO
      go_wp2_with fail
      refine hjo.mono ?_
      rintro e w2 ⟨rfl, hb2'⟩
      have hb2 : Below W0.heap.size W0 w2 := hb1.trans (hb2'.mono hb1.size)
      clear hjo d0 d1 d2 hb2' hb1
      obtain ⟨d0, d1, d2⟩ := HKC.out w2 hb2
      have hse := seats_any (HRC.out w2 hb2) (by simp only []; omega)
      simp only [] at hse
      go_wp2_with fail
      refine hse.mono ?_
      rintro e w3 ⟨m, rfl, hm, hSt, hb3'⟩
      have hb3 : Below W0.heap.size W0 w3 := hb2.trans (hb3'.mono hb2.size)
      have hms : W0.heap.size ≤ m := Nat.le_trans hb2.size hm
      clear hse d0 d1 d2 hb3' hb2 hm
      obtain ⟨aq, cq, rfl, q1, q2, q3, _⟩ := HRX.out w3 hb3
      unfold maxLen at q2
      go_wp2_with fail
      go_loopw [8, 9, 22] (fun _ _ i wr => ∃ (k : Nat) (S : UInt64 → Nat), k ≤ qs.length ∧ i = .int .i64 k ∧ Hid (foldS (seatF V L) (qs.take k) = some S) ∧ Hid (∀ x, S x ≤ 2) ∧ St m (V.length + L.length + k) S wr ∧ Below W0.heap.size W0 wr) (fun _ _ i _ => qs.length - (intOf i).toNat)
      case atStart => exact ⟨0, _, Nat.zero_le _, rfl, by show _ = _; rw [List.take_zero]; rfl, seatF_le V L, hSt, hb3⟩
      case round =>
        obtain ⟨k, S, hk, rfl, HF, HS2, hSt, hb⟩ := hrel
        clear hb3
        have hbs := hb.size
        by_cases hlt : k < qs.length
        · obtain ⟨⟨kd, p⟩, hqk⟩ : ∃ q, qs[k]? = some q := ⟨_, List.getElem?_eq_getElem hlt⟩
          have hkd := q3 _ (List.mem_of_getElem? hqk)
          obtain ⟨ao', c', e0, _, _, _, h4⟩ := HRX.out wr hb
          obtain ⟨a, ea, hcg⟩ := h4 k _ hqk
          simp only [Value.slice.injEq] at e0
          obtain ⟨rfl, -, rfl⟩ := e0
          subst ea
          have g0 := hcg.c0
          have g1 := hcg.c1
          simp only [] at g0 g1 hkd
          clear h4 hcg q3
          have hcga : ∀ W, Chg (fun b => b = m) W W → True := fun _ _ => trivial
          clear hcga
          have HN : Hid (∀ S', chg1 S kd p = some S' → foldS (seatF V L) (qs.take (k + 1)) = some S') := fun S' e => by rw [foldS_snoc _ S qs k _ hqk HF.out]; exact e
          have HNN : Hid (chg1 S kd p = none → foldS (seatF V L) qs = none) := fun e => foldS_none _ S qs k _ hqk HF.out e
          have hmw := hSt.lt
          have hcall := fun (W : World) (hW : Below wr.heap.size wr W) => change_any (hSt.below hW (Nat.le_refl _)) (Nat.lt_of_lt_of_le hmw hW.size) kd p (by omega) HS2.out hkd
          have HSt : Hid _ := hSt
          clear hqk HF hSt
          have hca := hcall _ (u_al wr (.cells #[.int .i64 kd, .int .u64 (p.toNat : Int)] 50))
          have hbA : Below W0.heap.size W0 (wr.alloc (.cells #[.int .i64 kd, .int .u64 (p.toNat : Int)] 50)) := hb.alloc hbs _
          clear hcall
          cases hch : chg1 S kd p with
          | none =>
            have HE : Hid (EntR (V, O, L) qs none3 70) := .inr (.inr (.inl ⟨HCK.out, HO.out, HNN.out hch, rfl, rfl⟩))
            rw [hch] at hca
            clear hch HN HNN
            go_wp2_with fail
            refine hca.mono ?_
            rintro e w4 ⟨rfl, _, hc4⟩
            have hb4 : Below W0.heap.size W0 w4 := hbA.trans (hc4.below (fun b q => by omega) hbA.size)
            obtain ⟨t0, t1, t2, tz⟩ := at3 (HKR.out w4 hb4)
            have tz0 := tz 0
            have tz1 := tz 1
            have tz2 := tz 2
            clear tz
            go_wp2_with fail
            obtain ⟨⟨k0, k1, k2⟩, hoc, hbz⟩ := HOUT.out w4 _ _ _ none3 hb4 (Oc.nil _ _) _ rfl
            generalize (((w4.setCell ⟨w.heap.size + 1, 0, none⟩ (.slice none 0 0)).setCell ⟨w.heap.size + 1, 1, none⟩ (.slice none 0 0)).setCell ⟨w.heap.size + 1, 2, none⟩ (.slice none 0 0)) = wz at *
            (try simp only [Exit.inBlock, Exit.then])
            refine bodyPost_ret (v := .tuple #[.agg #[.slice none 0 0, .slice none 0 0, .slice none 0 0], .int .i64 70]) (by simp [results, Try.results21, go_sem, k0, k1, k2]; try rfl) rfl ?_
            exact ⟨_, _, _, none3, 70, rfl, hoc, HE.out, hbz⟩
          | some S' =>
            have HF2 : Hid _ := HN.out S' hch
            have HS3 : Hid _ := chg1_le hch HS2.out
            rw [hch] at hca
            clear hch HN HNN
            go_wp2_with fail
            refine hca.mono ?_
            rintro e w4 ⟨rfl, hSt4, hc4⟩
            have hb4 : Below W0.heap.size W0 w4 := hbA.trans (hc4.below (fun b q => by omega) hbA.size)
            go_wp2_with fail
            exact ⟨⟨k + 1, S', by omega, by go_num, HF2, HS3, hSt4, hb4⟩, by simp [intOf]; omega⟩
        · obtain rfl : k = qs.length := by omega
          have HF2 : Hid (foldS (seatF V L) qs = some S) := by have := HF.out; rw [List.take_length] at this; exact this
          clear HF q3
          have hmw := hSt.lt
          have hof1 := of_any hSo hSt hmw 1 (by omega) (by omega) hn hN
          go_wp2_with fail
          refine hof1.mono ?_
          rintro e w4 ⟨v4, V', rfl, ho4, hr4, hm4, hl4, hb4'⟩
          have hb4 : Below W0.heap.size W0 w4 := hb.trans (hb4'.mono hbs)
          have hSt4 := hSt.below hb4' (Nat.le_refl _)
          have hof2 := of_any hSo hSt4 hSt4.lt 2 (by omega) (by omega) hn hN
          clear hof1
          go_wp2_with fail
          refine hof2.mono ?_
          rintro e w5 ⟨v5, L', rfl, ho5, hr5, hm5, hl5, hb5'⟩
          have hb5 : Below W0.heap.size W0 w5 := hb4.trans (hb5'.mono hb4.size)
          have ho4b := (ho4.below hb5' (Nat.le_refl _)).mono hbs
          have ho5b := ho5.mono hb4.size
          have HIL : Hid (IsL S 1 V' ∧ IsL S 2 L') := ⟨⟨hr4, hm4⟩, ⟨hr5, hm5⟩⟩
          have hq2 : V'.length + V.length + L'.length ≤ N ∨ 27 ≤ N := by
            rcases hq with hq | hq
            · exact .inr hq
            · exact .inl (hq S V' L' HF2.out HIL.out.1 HIL.out.2)
          clear hof2 hr4 hm4 hr5 hm5 hSt hSt4 ho4 ho5 hb4' hb5' hq
          obtain ⟨a4, c4, rfl⟩ := ho4b.shape
          obtain ⟨a5, c5, rfl⟩ := ho5b.shape
          have hb6 : Below W0.heap.size W0 (w5.alloc (.cells #[.slice a4 V'.length c4, .slice none 0 0, .slice a5 L'.length c5] 24)) := hb5.alloc hb5.size _
          have hnb := heap_alloc_new w5 (.cells #[.slice a4 V'.length c4, .slice none 0 0, .slice a5 L'.length c5] 24)
          have hz6 : (w5.alloc (.cells #[.slice a4 V'.length c4, .slice none 0 0, .slice a5 L'.length c5] 24)).heap.size = w5.heap.size + 1 := by simp
          have hoc6 : Ou W0.heap.size (w5.alloc (.cells #[.slice a4 V'.length c4, .slice none 0 0, .slice a5 L'.length c5] 24)) (.slice a4 V'.length c4) V' ∧ Ou W0.heap.size (w5.alloc (.cells #[.slice a4 V'.length c4, .slice none 0 0, .slice a5 L'.length c5] 24)) (.slice a5 L'.length c5) L' := ⟨ho4b.alloc _, ho5b.alloc _⟩
          have HNB : Hid (∀ b, (Value.slice a4 V'.length c4).ownBlock = some b ∨ (Value.slice a5 L'.length c5).ownBlock = some b → b < w5.heap.size) := fun b e => by
            rcases e with e | e
            · exact (ho4b.lt b e).2
            · exact (ho5b.lt b e).2
          obtain ⟨d0, d1, d2⟩ := HKC.out _ hb6
          go_wp2_with fail
          generalize (w5.alloc (.cells #[.slice a4 V'.length c4, .slice none 0 0, .slice a5 L'.length c5] 24)) = w6 at *
          have heq := uequal_any hoc6.1.ru (HRC.out w6 hb6).1
          refine heq.mono ?_
          rintro e w7 ⟨rfl, n7, rfl⟩
          have hb7 : Below W0.heap.size W0 (w6.drewN n7) := Below.drN hb6 n7
          have hnb7 : (w6.drewN n7).heap[w5.heap.size]? = some (.cells #[.slice a4 V'.length c4, .slice none 0 0, .slice a5 L'.length c5] 24 (0, 0)) := hnb
          have hoc7 : Ou W0.heap.size (w6.drewN n7) (.slice a4 V'.length c4) V' ∧ Ou W0.heap.size (w6.drewN n7) (.slice a5 L'.length c5) L' := ⟨hoc6.1.below (Below.dN w6 n7) (Nat.le_refl _), hoc6.2.below (Below.dN w6 n7) (Nat.le_refl _)⟩
          have hz7 : (w6.drewN n7).heap.size = w5.heap.size + 1 := hz6
          clear heq hb6 hnb hoc6 d0 d1 d2 hz6
          -- the last of it: next is laid; Check(next)
          have tail : ∀ (W : World) (y' : Value) (Y : List UInt64), Below W0.heap.size W0 W → W.heap[w5.heap.size]? = some (.cells #[.slice a4 V'.length c4, y', .slice a5 L'.length c5] 24 (0, 0)) → Oc W0.heap.size W (.slice a4 V'.length c4) y' (.slice a5 L'.length c5) (V', Y, L') → Y = (if V' = V then [] else V) → Y.length ≤ V.length →
              (Calls Try.prog 11 #[.agg #[.slice a4 V'.length c4, y', .slice a5 L'.length c5]] W fun e w' => e = .returned (.int .i64 (if chk (nxt V V' L') then 0 else 70)) ∧ Below W0.heap.size W0 w' ∧ w'.heap[w5.heap.size]? = some (.cells #[.slice a4 V'.length c4, y', .slice a5 L'.length c5] 24 (0, 0)) ∧ Oc W0.heap.size w' (.slice a4 V'.length c4) y' (.slice a5 L'.length c5) (nxt V V' L')) := fun W y' Y hW hnb hoc hY hYl => by
            have e : (V', Y, L') = nxt V V' L' := by unfold nxt; rw [hY]
            refine (check_any hSo hoc.rc (by simp only []; omega) hN).mono ?_
            rintro e' w' ⟨rfl, hb'⟩
            rw [e]
            refine ⟨rfl, hW.trans (hb'.mono hW.size), by rw [hb'.block _ (Array.getElem?_eq_some_iff.1 hnb).1]; exact hnb, ?_⟩
            rw [← e]
            exact ⟨hoc.1.below hb' (Nat.le_refl _), hoc.2.1.below hb' (Nat.le_refl _), hoc.2.2.below hb' (Nat.le_refl _)⟩
          have HTAIL : Hid _ := tail
          clear tail
          have HENT : Hid (∀ (res : Cn) (er : Nat), ((chk (nxt V V' L') = false ∧ res = none3 ∧ er = 70) ∨ (chk (nxt V V' L') = true ∧ res = nxt V V' L' ∧ er = 0)) → EntR (V, O, L) qs res er) := fun res er h => .inr (.inr (.inr ⟨HCK.out, HO.out, S, V', L', HF2.out, HIL.out.1, HIL.out.2, h⟩))
          generalize w6.drewN n7 = w7 at *
          by_cases hVV : V' = V
          · have hd : decide (V' = V) = true := decide_eq_true hVV
            rw [hd]
            have hck := HTAIL.out w7 (.slice none 0 0) [] hb7 hnb7 ⟨hoc7.1, Ou.nil _ _, hoc7.2⟩ (by rw [if_pos hVV]) (by simp)
            obtain ⟨n0, n1, n2, _⟩ := at3 hnb7
            have HVV : Hid _ := hVV
            clear hVV hd
            go_wp2_with fail
            refine hck.mono ?_
            rintro e wA ⟨rfl, hbA, hnA, hoA⟩
            obtain ⟨p0, p1, p2, _⟩ := at3 hnA
            obtain ⟨t0, t1, t2, tz⟩ := at3 (HKR.out wA hbA)
            have tz0 := tz 0
            have tz1 := tz 1
            have tz2 := tz 2
            clear tz
            cases hcn : chk (nxt V V' L') with
            | false =>
              have HE : Hid (EntR (V, O, L) qs none3 70) := HENT.out none3 70 (.inl ⟨hcn, rfl, rfl⟩)
              clear hcn
              go_wp2_with fail
              obtain ⟨⟨k0, k1, k2⟩, hoc, hbz⟩ := HOUT.out wA _ _ _ none3 hbA (Oc.nil _ _) _ rfl
              generalize (((wA.setCell ⟨w.heap.size + 1, 0, none⟩ (.slice none 0 0)).setCell ⟨w.heap.size + 1, 1, none⟩ (.slice none 0 0)).setCell ⟨w.heap.size + 1, 2, none⟩ (.slice none 0 0)) = wz at *
              (try simp only [Exit.inBlock, Exit.then])
              refine bodyPost_ret (v := .tuple #[.agg #[.slice none 0 0, .slice none 0 0, .slice none 0 0], .int .i64 70]) (by simp [results, Try.results21, go_sem, k0, k1, k2]; try rfl) rfl ?_
              exact ⟨_, _, _, none3, 70, rfl, hoc, HE.out, hbz⟩
            | true =>
              have HE : Hid (EntR (V, O, L) qs (nxt V V' L') 0) := HENT.out (nxt V V' L') 0 (.inr ⟨hcn, rfl, rfl⟩)
              clear hcn
              go_wp2_with fail
              obtain ⟨⟨k0, k1, k2⟩, hoc, hbz⟩ := HOUT.out wA _ _ _ (nxt V V' L') hbA hoA _ rfl
              generalize (((wA.setCell ⟨w.heap.size + 1, 0, none⟩ (.slice a4 V'.length c4)).setCell ⟨w.heap.size + 1, 1, none⟩ (.slice none 0 0)).setCell ⟨w.heap.size + 1, 2, none⟩ (.slice a5 L'.length c5)) = wz at *
              (try simp only [Exit.inBlock, Exit.then])
              refine bodyPost_ret (v := .tuple #[.agg #[.slice a4 V'.length c4, .slice none 0 0, .slice a5 L'.length c5], .int .i64 0]) (by simp [results, Try.results21, go_sem, k0, k1, k2]; try rfl) rfl ?_
              exact ⟨_, _, _, nxt V V' L', 0, rfl, hoc, HE.out, hbz⟩
          · have hd : decide (V' = V) = false := decide_eq_false hVV
            rw [hd]
            obtain ⟨d0, d1, d2⟩ := HKC.out w7 hb7
            have hcn := uclone_any (HRC.out w7 hb7).1 (by simp only []; omega)
            simp only [] at hcn
            obtain ⟨n0, n1, n2, nz⟩ := at3 hnb7
            have HVV : Hid _ := hVV
            clear hVV hd
            go_wp2_with fail
            refine hcn.mono ?_
            rintro e w8 ⟨v8, rfl, ho8, hb8⟩
            obtain ⟨a8, c8, rfl⟩ := ho8.shape
            have hnb8 : w8.heap[w5.heap.size]? = some (.cells #[.slice a4 V'.length c4, .slice none 0 0, .slice a5 L'.length c5] 24 (0, 0)) := by rw [hb8.block _ (by omega)]; exact hnb7
            have hnb9 : (w8.setCell ⟨w5.heap.size, 1, none⟩ (.slice a8 V.length c8)).heap[w5.heap.size]? = some (.cells #[.slice a4 V'.length c4, .slice a8 V.length c8, .slice a5 L'.length c5] 24 (0, 0)) := by
              have := heap_setCell_same w8 w5.heap.size 1 _ _ (.slice a8 V.length c8) hnb8
              rw [this]; rfl
            have hch9 : Chg (fun b => b = w5.heap.size) w8 (w8.setCell ⟨w5.heap.size, 1, none⟩ (.slice a8 V.length c8)) := (Chg.refl _ w8).put _ 1 _ rfl
            have hs7 := hb7.size
            have hs8 := hb8.size
            have hb9 : Below W0.heap.size W0 (w8.setCell ⟨w5.heap.size, 1, none⟩ (.slice a8 V.length c8)) := (hb7.trans (hb8.mono hs7)).trans (hch9.below (fun b q => by subst q; exact hb5.size) (by omega))
            have hoc9 : Oc W0.heap.size (w8.setCell ⟨w5.heap.size, 1, none⟩ (.slice a8 V.length c8)) (.slice a4 V'.length c4) (.slice a8 V.length c8) (.slice a5 L'.length c5) (V', V, L') := ⟨(hoc7.1.below hb8 (Nat.le_refl _)).keptC hch9 (fun b e q => by have := HNB.out b (.inl e); omega), (ho8.keptC hch9 (fun b e q => by have := (ho8.lt b e).1; omega)).mono hs7, (hoc7.2.below hb8 (Nat.le_refl _)).keptC hch9 (fun b e q => by have := HNB.out b (.inr e); omega)⟩
            obtain ⟨m0, m1, m2, mz⟩ := at3 hnb8
            have mz1 := mz 1
            have hck := HTAIL.out _ (.slice a8 V.length c8) V hb9 hnb9 hoc9 (by rw [if_neg HVV.out]) (Nat.le_refl _)
            obtain ⟨n0, n1, n2, _⟩ := at3 hnb9
            have HB9 : Hid _ := hb9
            clear hb9 hoc9 hnb9 mz nz hch9 d0 d1 d2
            go_wp2_with fail
            refine hck.mono ?_
            rintro e wA ⟨rfl, hbA, hnA, hoA⟩
            obtain ⟨p0, p1, p2, _⟩ := at3 hnA
            obtain ⟨t0, t1, t2, tz⟩ := at3 (HKR.out wA hbA)
            have tz0 := tz 0
            have tz1 := tz 1
            have tz2 := tz 2
            clear tz
            cases hcn : chk (nxt V V' L') with
            | false =>
              have HE : Hid (EntR (V, O, L) qs none3 70) := HENT.out none3 70 (.inl ⟨hcn, rfl, rfl⟩)
              clear hcn
              go_wp2_with fail
              obtain ⟨⟨k0, k1, k2⟩, hoc, hbz⟩ := HOUT.out wA _ _ _ none3 hbA (Oc.nil _ _) _ rfl
              generalize (((wA.setCell ⟨w.heap.size + 1, 0, none⟩ (.slice none 0 0)).setCell ⟨w.heap.size + 1, 1, none⟩ (.slice none 0 0)).setCell ⟨w.heap.size + 1, 2, none⟩ (.slice none 0 0)) = wz at *
              (try simp only [Exit.inBlock, Exit.then])
              refine bodyPost_ret (v := .tuple #[.agg #[.slice none 0 0, .slice none 0 0, .slice none 0 0], .int .i64 70]) (by simp [results, Try.results21, go_sem, k0, k1, k2]; try rfl) rfl ?_
              exact ⟨_, _, _, none3, 70, rfl, hoc, HE.out, hbz⟩
            | true =>
              have HE : Hid (EntR (V, O, L) qs (nxt V V' L') 0) := HENT.out (nxt V V' L') 0 (.inr ⟨hcn, rfl, rfl⟩)
              clear hcn
              go_wp2_with fail
              obtain ⟨⟨k0, k1, k2⟩, hoc, hbz⟩ := HOUT.out wA _ _ _ (nxt V V' L') hbA hoA _ rfl
              generalize (((wA.setCell ⟨w.heap.size + 1, 0, none⟩ (.slice a4 V'.length c4)).setCell ⟨w.heap.size + 1, 1, none⟩ (.slice a8 V.length c8)).setCell ⟨w.heap.size + 1, 2, none⟩ (.slice a5 L'.length c5)) = wz at *
              (try simp only [Exit.inBlock, Exit.then])
              refine bodyPost_ret (v := .tuple #[.agg #[.slice a4 V'.length c4, .slice a8 V.length c8, .slice a5 L'.length c5], .int .i64 0]) (by simp [results, Try.results21, go_sem, k0, k1, k2]; try rfl) rfl ?_
              exact ⟨_, _, _, nxt V V' L', 0, rfl, hoc, HE.out, hbz⟩
end Go.Proofs.Ytedpfmalhapmeaa

/- What awake answers: true. -/
namespace Go.Proofs.Ytedpfmalhapmeaa
open Go.RowKit Go.Maps
set_option linter.unusedVariables false
set_option maxRecDepth 100000

theorem isL_eq {S : UInt64 → Nat} {s : Nat} {a b : List UInt64} (ha : IsL S s a) (hb : IsL S s b) : a = b := ha.1.ext hb.1 (fun x => by rw [ha.2, hb.2])

def aw0 : Cn := ([1, 2, 3], [], [])
def awq : List Cg := [(1, 4), (3, 1)]
theorem aw_fold : foldS (seatF [1, 2, 3] []) awq = some (upd (upd (seatF [1, 2, 3] []) 4 1) 1 0) := by
  simp [foldS, awq, chg1]
theorem aw_V : IsL (upd (upd (seatF [1, 2, 3] []) 4 1) 1 0) 1 [2, 3, 4] := by
  refine ⟨by simp [Ris], fun x => ?_⟩
  unfold upd seatF
  by_cases h1 : x = 1
  · subst h1; simp
  · by_cases h4 : x = 4
    · subst h4; simp
    · simp only [h1, h4, if_false, List.not_mem_nil, List.mem_cons, or_false, false_or]
      by_cases h2 : x = 2
      · simp [h2]
      · by_cases h3 : x = 3
        · simp [h3]
        · simp [h2, h3]
theorem aw_L : IsL (upd (upd (seatF [1, 2, 3] []) 4 1) 1 0) 2 [] := by
  refine ⟨by simp [Ris], fun x => ?_⟩
  unfold upd seatF
  simp only [List.not_mem_nil, if_false, false_iff]
  split
  · omega
  · split
    · omega
    · split <;> omega
theorem mems_le (c : Cn) : (mems c).length ≤ c.1.length + (c.2.1.length + c.2.2.length) := by
  have h := cmK_len (srtd (c.1 ++ (c.2.1 ++ c.2.2))) (srtd (c.1 ++ (c.2.1 ++ c.2.2))).length
  have e : (srtd (c.1 ++ (c.2.1 ++ c.2.2))).length = c.1.length + (c.2.1.length + c.2.2.length) := by simp [srtd]
  unfold mems
  omega
theorem chk_of (c : Cn) (h1 : ok1 c.1 = true) (h2 : ok1 c.2.1 = true) (h3 : ok1 c.2.2 = true) (h4 : c.1 ≠ []) (h5 : c.2.2.any (vt c) = false) (h6 : c.1.length + (c.2.1.length + c.2.2.length) ≤ 9) : chk c = true := by
  have := mems_le c
  unfold chk
  simp only [h1, h2, h3, h5, Bool.true_and, Bool.not_false]
  simp [h4]
  omega
theorem aw_chk0 : chk aw0 = true := chk_of _ (by decide) (by decide) (by decide) (by simp [aw0]) (by decide) (by decide)
theorem aw_chk1 : chk (nxt [1, 2, 3] [2, 3, 4] []) = true := chk_of _ (by decide) (by decide) (by decide) (by simp [nxt]) (by decide) (by decide)
theorem aw_ent {res : Cn} {er : Nat} (h : EntR aw0 awq res er) : res = ([2, 3, 4], [1, 2, 3], []) ∧ er = 0 := by
  rcases h with ⟨h, _⟩ | ⟨_, h, _⟩ | ⟨_, _, h, _⟩ | ⟨_, _, S, V', L', hf, hV, hL, h⟩
  · rw [aw_chk0] at h; cases h
  · simp [aw0] at h
  · have := aw_fold; simp only [aw0] at h; rw [h] at this; cases this
  · have e := aw_fold
    simp only [aw0] at hf
    rw [hf] at e
    obtain rfl := Option.some.inj e
    obtain rfl := isL_eq hV aw_V
    obtain rfl := isL_eq hL aw_L
    have hc : chk (nxt aw0.1 [2, 3, 4] []) = true := aw_chk1
    rcases h with ⟨h, _⟩ | ⟨_, rfl, rfl⟩
    · rw [hc] at h; cases h
    · exact ⟨by simp [nxt, aw0], rfl⟩

theorem ru_lit3 (w : World) (p q r : UInt64) (x y z : Int) (hx : x = (p.toNat : Int)) (hy : y = (q.toNat : Int)) (hz : z = (r.toNat : Int)) (g : Nat) (hg : g = w.heap.size) : Ru (w.alloc (.cells #[.int .u64 x, .int .u64 y, .int .u64 z] 25)) (.slice (some ⟨g, 0, none⟩) 3 3) [p, q, r] := by
  subst hx; subst hy; subst hz
  exact (Ou.made 0 w [p, q, r] 3 rfl (Nat.zero_le _) (by simp [maxLen]) #[.int .u64 (p.toNat : Int), .int .u64 (q.toNat : Int), .int .u64 (r.toNat : Int)] rfl g hg).ru
theorem rdx_lit2 (w : World) (p q : Cg) (hp : -9223372036854775808 ≤ p.1 ∧ p.1 ≤ 9223372036854775807) (hq : -9223372036854775808 ≤ q.1 ∧ q.1 ≤ 9223372036854775807) (t : TypeId) (g : Nat) (hg : g = w.heap.size) : RdX (w.alloc (.cells #[.int .i64 p.1, .int .u64 (p.2.toNat : Int), .int .i64 q.1, .int .u64 (q.2.toNat : Int)] t)) (.slice (some ⟨g, 0, none⟩) 2 2) [p, q] := by
  subst hg
  have hc : ∀ j u, #[Value.int .i64 p.1, .int .u64 (p.2.toNat : Int), .int .i64 q.1, .int .u64 (q.2.toNat : Int)][j]? = some u → (w.alloc (.cells #[.int .i64 p.1, .int .u64 (p.2.toNat : Int), .int .i64 q.1, .int .u64 (q.2.toNat : Int)] t)).cell? ⟨w.heap.size, j, none⟩ = some u := fun j u e => by
    rw [World.cell?_alloc_at _ _ _ _ rfl]; exact e
  refine ⟨some ⟨w.heap.size, 0, none⟩, 2, rfl, by simp, by simp [maxLen], fun r hr => ?_, fun i r hi => ?_⟩
  · simp only [List.mem_cons, List.not_mem_nil, or_false] at hr
    rcases hr with rfl | rfl
    · exact hp
    · exact hq
  · match i with
    | 0 => simp at hi; subst hi; exact ⟨_, rfl, hc 0 _ rfl, hc 1 _ rfl⟩
    | 1 => simp at hi; subst hi; exact ⟨_, rfl, hc 2 _ rfl, hc 3 _ rfl⟩
    | i + 2 => simp at hi

set_option maxHeartbeats 2000000 in
theorem awake_any (w : World) : Calls Try.prog 7 #[] w fun e w' => e = .returned (.bool true) ∧ Below w.heap.size w w' := by
  have h1 := ru_lit3 w 1 2 3 1 2 3 rfl rfl rfl w.heap.size rfl
  have h2 := rdx_lit2 (w.alloc (.cells #[.int .u64 1, .int .u64 2, .int .u64 3] 25)) (1, 4) (3, 1) (by decide) (by decide) 50 (w.heap.size + 1) (by simp)
  have hb0 : Below w.heap.size w ((w.alloc (.cells #[.int .u64 1, .int .u64 2, .int .u64 3] 25)).alloc (.cells #[.int .i64 1, .int .u64 4, .int .i64 3, .int .u64 1] 50)) := (u_al w _).alloc (by simp) _
  have hen := enter_any (N := 12) (usort_small len_ok) (c := aw0) (qs := awq) ⟨h1.alloc (.cells #[.int .i64 1, .int .u64 4, .int .i64 3, .int .u64 1] 50), Ru.nil _, Ru.nil _⟩ h2 (by decide) (by decide) (by decide) (.inr fun S V' L' hf hV hL => by
    have e := aw_fold
    simp only [aw0] at hf
    rw [hf] at e
    obtain rfl := Option.some.inj e
    obtain rfl := isL_eq hV aw_V
    obtain rfl := isL_eq hL aw_L
    decide)
  go_enter Try.func7, Try.ntmps7
  go_wp2_with fail
  refine hen.mono ?_
  rintro e w1 ⟨x', y', z', res, er, rfl, hoc, hent, hb1'⟩
  obtain ⟨rfl, rfl⟩ := aw_ent hent
  have hb1 : Below w.heap.size w w1 := hb0.trans (hb1'.mono hb0.size)
  obtain ⟨k1, k2, k3⟩ := hoc.rc
  simp only [] at k1 k2 k3
  obtain ⟨ax, cx, rfl⟩ := k1.shape
  obtain ⟨ay, cy, rfl⟩ := k2.shape
  obtain ⟨az, cz, rfl⟩ := k3.shape
  clear hen hent hoc hb1' h1 h2 hb0
  simp only [List.length_cons, List.length_nil, Nat.zero_add, Nat.reduceAdd] at k1 k2 k3 ⊢
  have hA := u_al w1 (.cells #[.slice ax 3 cx, .slice ay 3 cy, .slice az 0 cz] 24)
  have hKC : ∀ W, Below (w1.heap.size + 1) (w1.alloc (.cells #[.slice ax 3 cx, .slice ay 3 cy, .slice az 0 cz] 24)) W → W.cell? ⟨w1.heap.size, 0, none⟩ = some (.slice ax 3 cx) ∧ W.cell? ⟨w1.heap.size, 1, none⟩ = some (.slice ay 3 cy) ∧ W.cell? ⟨w1.heap.size, 2, none⟩ = some (.slice az 0 cz) := fun W hW => box3 hW rfl
  have HKC : Hid _ := hKC
  clear hKC
  have hz : (w1.alloc (.cells #[.slice ax 3 cx, .slice ay 3 cy, .slice az 0 cz] 24)).heap.size = w1.heap.size + 1 := by simp
  go_wp2_with fail
  generalize (w1.alloc (.cells #[.slice ax 3 cx, .slice ay 3 cy, .slice az 0 cz] 24)) = W0 at *
  have hW0 : Below w.heap.size w W0 := hb1.trans (hA.mono hb1.size)
  have hs1 := hA.size
  have l1 := ru_lit3 W0 2 3 4 2 3 4 rfl rfl rfl (w1.heap.size + 1) hz.symm
  have q1 := sameU_any ((k1.below hA (Nat.le_refl _)).alloc (.cells #[.int .u64 2, .int .u64 3, .int .u64 4] 25)) l1
  rw [show decide (([2, 3, 4] : List UInt64) = [2, 3, 4]) = true from decide_eq_true rfl] at q1
  refine q1.mono ?_
  rintro e w2 ⟨rfl, n2, rfl⟩
  have hb2 : Below (w1.heap.size + 1) W0 ((W0.alloc (.cells #[.int .u64 2, .int .u64 3, .int .u64 4] 25)).drewN n2) := Below.drN ((Below.refl _ _).alloc (by omega) _) n2
  have hz2 : ((W0.alloc (.cells #[.int .u64 2, .int .u64 3, .int .u64 4] 25)).drewN n2).heap.size = w1.heap.size + 2 := by
    show (W0.alloc (.cells #[.int .u64 2, .int .u64 3, .int .u64 4] 25)).heap.size = _
    rw [World.size_alloc, hz]
  obtain ⟨d0, d1, d2⟩ := HKC.out _ hb2
  clear q1 l1
  go_wp2_with fail
  generalize hW2 : (W0.alloc (.cells #[.int .u64 2, .int .u64 3, .int .u64 4] 25)).drewN n2 = W2 at *
  have hA2 : Below w1.heap.size w1 W2 := hA.trans (hb2.mono (Nat.le_succ _))
  have l2 := ru_lit3 W2 1 2 3 1 2 3 rfl rfl rfl (w1.heap.size + 1 + 1) (by omega)
  have q2 := sameU_any ((k2.below hA2 (Nat.le_refl _)).alloc (.cells #[.int .u64 1, .int .u64 2, .int .u64 3] 25)) l2
  rw [show decide (([1, 2, 3] : List UInt64) = [1, 2, 3]) = true from decide_eq_true rfl] at q2
  refine q2.mono ?_
  rintro e w3 ⟨rfl, n3, rfl⟩
  have hb3 : Below (w1.heap.size + 1) W0 ((W2.alloc (.cells #[.int .u64 1, .int .u64 2, .int .u64 3] 25)).drewN n3) := Below.drN (hb2.alloc (by omega) _) n3
  obtain ⟨e0, e1, e2⟩ := HKC.out _ hb3
  clear q2 l2 d0 d1 d2
  have hA3 : Below w1.heap.size w1 ((W2.alloc (.cells #[.int .u64 1, .int .u64 2, .int .u64 3] 25)).drewN n3) := hA.trans (hb3.mono (Nat.le_succ _))
  have hj := ujoint_any (c := ([2, 3, 4], [1, 2, 3], [])) ⟨k1.below hA3 (Nat.le_refl _), k2.below hA3 (Nat.le_refl _), k3.below hA3 (Nat.le_refl _)⟩
  have hB3 : Below w.heap.size w ((W2.alloc (.cells #[.int .u64 1, .int .u64 2, .int .u64 3] 25)).drewN n3) := hb1.trans (hA3.mono hb1.size)
  go_wp2_with fail
  refine hj.mono ?_
  rintro e w4 ⟨rfl, hb4⟩
  go_wp2_with fail
  go_ret
  exact ⟨rfl, hB3.trans (hb4.mono hB3.size)⟩
end Go.Proofs.Ytedpfmalhapmeaa

/- Quorums meet: the mathematics of ConfMeets. -/
namespace Go.Proofs.Ytedpfmalhapmeaa
open Go.RowKit Go.Sort
set_option linter.unusedVariables false
set_option linter.unusedSimpArgs false
set_option maxRecDepth 100000

/-- Have two lists a number in common that is in a third one? -/
def mtF (a b m : List UInt64) : Bool := a.any (fun p => decide (p ∈ b) && decide (p ∈ m))
theorem mtF_of {a b m : List UInt64} {p : UInt64} (h1 : p ∈ a) (h2 : p ∈ b) (h3 : p ∈ m) : mtF a b m = true := by
  unfold mtF
  rw [List.any_eq_true]
  exact ⟨p, h1, by simp [h2, h3]⟩
theorem cnt_meet (a b vs : List UInt64) (h : vs.length < cnt a vs + cnt b vs) : ∃ p ∈ vs, p ∈ a ∧ p ∈ b := by
  unfold cnt at h
  induction vs with
  | nil => simp at h
  | cons p r ih =>
    by_cases ha : p ∈ a
    · by_cases hb : p ∈ b
      · exact ⟨p, List.mem_cons_self .., ha, hb⟩
      · simp only [List.filter_cons, ha, hb, decide_true, decide_false, if_true, Bool.false_eq_true, if_false, List.length_cons] at h
        obtain ⟨q, hq, h1⟩ := ih (by omega)
        exact ⟨q, List.mem_cons_of_mem _ hq, h1⟩
    · by_cases hb : p ∈ b
      · simp only [List.filter_cons, ha, hb, decide_true, decide_false, if_true, Bool.false_eq_true, if_false, List.length_cons] at h
        obtain ⟨q, hq, h1⟩ := ih (by omega)
        exact ⟨q, List.mem_cons_of_mem _ hq, h1⟩
      · simp only [List.filter_cons, ha, hb, decide_true, decide_false, if_true, Bool.false_eq_true, if_false, List.length_cons] at h
        obtain ⟨q, hq, h1⟩ := ih (by omega)
        exact ⟨q, List.mem_cons_of_mem _ hq, h1⟩
/-- A quorum. -/
def qu (c : Cn) (l : List UInt64) : Bool := chk c && agr (cnt l) c
theorem qu_1 {c : Cn} {l : List UInt64} (h : qu c l = true) : c.1.length < 2 * cnt l c.1 := by
  unfold qu agr at h
  simp only [Bool.and_eq_true, decide_eq_true_eq] at h
  exact h.2.1
theorem qu_2 {c : Cn} {l : List UInt64} (h : qu c l = true) (h0 : c.2.1 ≠ []) : c.2.1.length < 2 * cnt l c.2.1 := by
  unfold qu agr at h
  simp only [Bool.and_eq_true, Bool.or_eq_true, decide_eq_true_eq] at h
  rcases h.2.2 with h | h
  · exact absurd (List.length_eq_zero_iff.1 h) h0
  · exact h
theorem meet_one {c : Cn} {a b vs : List UInt64} (h1 : vs.length < 2 * cnt a vs) (h2 : vs.length < 2 * cnt b vs) (h : ∀ p ∈ vs, p ∈ mems c) : mtF a b (mems c) = true := by
  obtain ⟨p, hp, ha, hb⟩ := cnt_meet a b vs (by omega)
  exact mtF_of ha hb (h p hp)
theorem meet_self {c : Cn} {a b : List UInt64} (h1 : qu c a = true) (h2 : qu c b = true) : mtF a b (mems c) = true :=
  meet_one (qu_1 h1) (qu_1 h2) (fun p hp => ((mems_is c).2 p).2 (.inl hp))
theorem chk_ne {c : Cn} (h : chk c = true) : c.1 ≠ [] := by
  unfold chk at h
  simp only [Bool.and_eq_true, decide_eq_true_eq] at h
  exact h.2.2.2.1
/-- What Enter makes where it refuses nothing. -/
theorem ent_ok {c : Cn} {qs : List Cg} {res : Cn} (h : EntR c qs res 0) : chk c = true ∧ c.2.1 = [] ∧ chk res = true ∧ ∃ V' L', res = nxt c.1 V' L' := by
  rcases h with ⟨_, _, h⟩ | ⟨_, _, _, h⟩ | ⟨_, _, _, _, h⟩ | ⟨h1, h2, S, V', L', _, _, _, ⟨_, _, h⟩ | ⟨h3, h4, _⟩⟩
  · omega
  · omega
  · omega
  · omega
  · exact ⟨h1, h2, by rw [h4]; exact h3, V', L', h4⟩
theorem nxt_joint {V V' L' : List UInt64} (hV : V ≠ []) : (nxt V V' L').2.1 = V ∧ 0 < (nxt V V' L').2.1.length ∨ ((nxt V V' L').2.1 = [] ∧ V' = V) := by
  unfold nxt
  by_cases h : V' = V
  · exact .inr ⟨by simp [h], h⟩
  · refine .inl ⟨by simp [h], ?_⟩
    simp only [h, if_false]
    exact List.length_pos_iff.2 hV
theorem meet_next {c : Cn} {qs : List Cg} {d : Cn} {a b : List UInt64} (h : EntR c qs d 0) (h1 : qu c a = true) (h2 : qu d b = true) : mtF a b (mems c) = true := by
  obtain ⟨hc, ho, hd, V', L', rfl⟩ := ent_ok h
  have hne := chk_ne hc
  refine meet_one (qu_1 h1) ?_ (fun p hp => ((mems_is c).2 p).2 (.inl hp))
  rcases nxt_joint (V' := V') (L' := L') hne with ⟨e, h0⟩ | ⟨e, rfl⟩
  · have := qu_2 h2 (fun q => by rw [q] at h0; simp at h0)
    rw [e] at this
    exact this
  · have h3 := qu_1 h2
    exact h3
/-- What Leave makes. -/
def lv (d : Cn) : Cn := (d.1, [], d.2.2)
theorem ris_len {a b : List UInt64} (ha : Ris a) (h : ∀ x ∈ a, x ∈ b) : a.length ≤ b.length := by
  have nd : a.Nodup := ha.imp (fun h e => by subst e; omega)
  clear ha
  induction a generalizing b with
  | nil => simp
  | cons x r ih =>
    have hx := h x (List.mem_cons_self ..)
    have hn := List.nodup_cons.1 nd
    have := ih (b := b.erase x) (fun y hy => by
      have hne : y ≠ x := fun e => hn.1 (by rw [← e]; exact hy)
      exact (List.mem_erase_of_ne hne).2 (h y (List.mem_cons_of_mem _ hy))) hn.2
    rw [List.length_erase_of_mem hx] at this
    have hp := List.length_pos_of_mem hx
    simp only [List.length_cons]
    omega
theorem chk_lv {d : Cn} (h : chk d = true) : chk (lv d) = true := by
  have hm : (mems (lv d)).length ≤ (mems d).length := ris_len (mems_is (lv d)).1 (fun x hx => by
    rw [(mems_is d).2]
    rcases ((mems_is (lv d)).2 x).1 hx with h | h | h
    · exact .inl h
    · simp [lv] at h
    · exact .inr (.inr h))
  unfold chk at h ⊢
  simp only [Bool.and_eq_true, decide_eq_true_eq, Bool.not_eq_true'] at h ⊢
  obtain ⟨h1, h2, h3, h4, h5, h6⟩ := h
  refine ⟨h1, by show ok1 [] = true; decide, h3, h4, ?_, by omega⟩
  rw [List.any_eq_false] at h5 ⊢
  intro x hx hv
  refine h5 x hx ?_
  unfold vt at hv ⊢
  have hv2 : (decide (x ∈ d.1) || decide (x ∈ ([] : List UInt64))) = true := hv
  have hx1 : x ∈ d.1 := by
    rcases Bool.or_eq_true_iff.1 hv2 with h | h
    · exact of_decide_eq_true h
    · exact absurd (of_decide_eq_true h) (by simp)
  simp [hx1]
theorem meet_left {d : Cn} {a b : List UInt64} (h1 : qu d a = true) (h2 : qu (lv d) b = true) : mtF a b (mems d) = true :=
  have h3 := qu_1 h2
  meet_one (qu_1 h1) h3 (fun p hp => ((mems_is d).2 p).2 (.inl hp))
end Go.Proofs.Ytedpfmalhapmeaa

/- What the program's Leave answers. -/
namespace Go.Proofs.Ytedpfmalhapmeaa
open Go.RowKit Go.Maps
set_option linter.unusedVariables false
set_option maxRecDepth 100000

def leF (c : Cn) : Cn × Nat := if chk c = true then (if c.2.1.length = 0 then (none3, 71) else (lv c, 0)) else (none3, 70)

set_option maxHeartbeats 2000000 in
theorem leave_any {N : Nat} (hSo : SortsTo N) {x y z : Value} {c : Cn} {w : World} (hr : Rc w x y z c) (h27 : 27 ≤ N) (hN : N ≤ 1099511627776) :
    Calls Try.prog 23 #[.agg #[x, y, z]] w fun e w' => ∃ (x' y' z' : Value), e = .returned (.tuple #[.agg #[x', y', z'], .int .i64 ((leF c).2 : Nat)]) ∧ Oc w.heap.size w' x' y' z' (leF c).1 ∧ Below w.heap.size w w' := by
  obtain ⟨V, O, L⟩ := c
  obtain ⟨ax, cx, rfl⟩ := hr.1.shape
  obtain ⟨ay, cy, rfl⟩ := hr.2.1.shape
  obtain ⟨az, cz, rfl⟩ := hr.2.2.shape
  generalize hF : leF (V, O, L) = F
  unfold leF at hF
  simp only [] at hF
  have HF : Hid _ := hF
  clear hF
  have hB0 : Below w.heap.size w ((w.alloc (.cells #[.slice ax V.length cx, .slice ay O.length cy, .slice az L.length cz] 24)).alloc (.cells #[.slice none 0 0, .slice none 0 0, .slice none 0 0] 24)) := (u_al w _).alloc (by simp) _
  have hz0 : ((w.alloc (.cells #[.slice ax V.length cx, .slice ay O.length cy, .slice az L.length cz] 24)).alloc (.cells #[.slice none 0 0, .slice none 0 0, .slice none 0 0] 24)).heap.size = w.heap.size + 2 := by simp
  have hbx : ((w.alloc (.cells #[.slice ax V.length cx, .slice ay O.length cy, .slice az L.length cz] 24)).alloc (.cells #[.slice none 0 0, .slice none 0 0, .slice none 0 0] 24)).heap[w.heap.size]? = some (.cells #[.slice ax V.length cx, .slice ay O.length cy, .slice az L.length cz] 24 (0, 0)) := by
    rw [Below.heap_alloc _ _ _ (by simp)]; exact heap_alloc_new w _
  have hrs : ((w.alloc (.cells #[.slice ax V.length cx, .slice ay O.length cy, .slice az L.length cz] 24)).alloc (.cells #[.slice none 0 0, .slice none 0 0, .slice none 0 0] 24)).heap[w.heap.size + 1]? = some (.cells #[.slice none 0 0, .slice none 0 0, .slice none 0 0] 24 (0, 0)) := by
    have := heap_alloc_new (w.alloc (.cells #[.slice ax V.length cx, .slice ay O.length cy, .slice az L.length cz] 24)) (.cells #[.slice none 0 0, .slice none 0 0, .slice none 0 0] 24)
    rw [World.size_alloc] at this
    exact this
  go_enter Try.func23, Try.ntmps23
  go_wp2_with fail
  generalize ((w.alloc (.cells #[.slice ax V.length cx, .slice ay O.length cy, .slice az L.length cz] 24)).alloc (.cells #[.slice none 0 0, .slice none 0 0, .slice none 0 0] 24)) = W0 at *
  have HKB : Hid (∀ W, Below W0.heap.size W0 W → Below w.heap.size w W) := fun W hW => hB0.trans (hW.mono hB0.size)
  have HKC : Hid (∀ W, Below W0.heap.size W0 W → W.cell? ⟨w.heap.size, 0, none⟩ = some (.slice ax V.length cx) ∧ W.cell? ⟨w.heap.size, 1, none⟩ = some (.slice ay O.length cy) ∧ W.cell? ⟨w.heap.size, 2, none⟩ = some (.slice az L.length cz)) := fun W hW => by
    obtain ⟨q0, q1, q2, _⟩ := at3 ((hW.block _ (by omega)).trans hbx)
    exact ⟨q0, q1, q2⟩
  have HKR : Hid (∀ W, Below W0.heap.size W0 W → W.heap[w.heap.size + 1]? = some (.cells #[.slice none 0 0, .slice none 0 0, .slice none 0 0] 24 (0, 0))) := fun W hW => (hW.block _ (by omega)).trans hrs
  have HRC : Hid (∀ W, Below W0.heap.size W0 W → Rc W (.slice ax V.length cx) (.slice ay O.length cy) (.slice az L.length cz) (V, O, L)) := fun W hW => hr.below (HKB.out W hW) (Nat.le_refl _)
  have HOUT : Hid (∀ (W : World) (x' y' z' : Value) (res : Cn), Below W0.heap.size W0 W → Oc W0.heap.size W x' y' z' res → ∀ W', W' = ((W.setCell ⟨w.heap.size + 1, 0, none⟩ x').setCell ⟨w.heap.size + 1, 1, none⟩ y').setCell ⟨w.heap.size + 1, 2, none⟩ z' → (W'.cell? ⟨w.heap.size + 1, 0, none⟩ = some x' ∧ W'.cell? ⟨w.heap.size + 1, 1, none⟩ = some y' ∧ W'.cell? ⟨w.heap.size + 1, 2, none⟩ = some z') ∧ Oc w.heap.size W' x' y' z' res ∧ Below w.heap.size w W') := fun W x' y' z' res hW ho => outO (HKR.out W hW) (Nat.le_succ _) (by omega) (HKB.out W hW) ho
  clear hbx hrs hr hB0
  obtain ⟨c0, c1, c2⟩ := HKC.out W0 (Below.refl _ _)
  have hck := check_any hSo (HRC.out W0 (Below.refl _ _)) (.inr h27) hN
  cases hchk : chk (V, O, L) with
  | false =>
    rw [hchk] at hck
    obtain rfl : (none3, 70) = F := by rw [← HF.out, hchk]; rfl
    clear HF
    go_wp2_with fail
    refine hck.mono ?_
    rintro e w1 ⟨rfl, hb1⟩
    obtain ⟨t0, t1, t2, tz⟩ := at3 (HKR.out w1 hb1)
    have tz0 := tz 0
    have tz1 := tz 1
    have tz2 := tz 2
    clear tz
    go_wp2_with fail
    obtain ⟨⟨k0, k1, k2⟩, hoc, hbz⟩ := HOUT.out w1 _ _ _ none3 hb1 (Oc.nil _ _) _ rfl
    generalize (((w1.setCell ⟨w.heap.size + 1, 0, none⟩ (.slice none 0 0)).setCell ⟨w.heap.size + 1, 1, none⟩ (.slice none 0 0)).setCell ⟨w.heap.size + 1, 2, none⟩ (.slice none 0 0)) = wz at *
    refine bodyPost_ret (v := .tuple #[.agg #[.slice none 0 0, .slice none 0 0, .slice none 0 0], .int .i64 70]) (by simp [results, Try.results23, go_sem, k0, k1, k2]; try rfl) rfl ?_
    exact ⟨_, _, _, rfl, hoc, hbz⟩
  | true =>
    rw [hchk] at hck
    go_wp2_with fail
    refine hck.mono ?_
    rintro e w1 ⟨rfl, hb1⟩
    clear hck
    obtain ⟨d0, d1, d2⟩ := HKC.out w1 hb1
    have hjo := ujoint_any (HRC.out w1 hb1)
    simp only [] at hjo
    by_cases hO : 0 < O.length
    · rw [decide_eq_true hO] at hjo
      obtain rfl : (lv (V, O, L), 0) = F := by rw [← HF.out, hchk]; simp only [if_true]; rw [if_neg (by omega)]
      have hg9 : V.length ≤ 9 ∧ L.length ≤ 9 := by
        have h := hchk
        unfold chk ok1 at h
        simp only [Bool.and_eq_true, decide_eq_true_eq] at h
        exact ⟨h.1.1, h.2.2.1.1⟩
      clear HF hchk
      go_wp2_with fail
      refine hjo.mono ?_
      rintro e w2 ⟨rfl, hb2'⟩
      have hb2 : Below W0.heap.size W0 w2 := hb1.trans (hb2'.mono hb1.size)
      obtain ⟨s0, s1, s2⟩ := HKC.out w2 hb2
      clear d0 d1 d2 c0 c1 c2 hjo
      have hv40 : (V, O, L).1.length ≤ 1099511627776 := by show V.length ≤ _; omega
      have hl40 : (V, O, L).2.2.length ≤ 1099511627776 := by show L.length ≤ _; omega
      have HC1 : Hid (∀ W, Below W0.heap.size W0 W → Calls Try.prog 45 #[.slice ax V.length cx] W fun e w' => ∃ v', e = .returned v' ∧ Ou W0.heap.size w' v' V ∧ Below W0.heap.size W0 w') := fun W hW => (uclone_any (HRC.out W hW).1 hv40).mono (by
        rintro e w' ⟨v', rfl, q1, q2⟩
        exact ⟨v', rfl, q1.mono hW.size, hW.trans (q2.mono hW.size)⟩)
      have HC2 : Hid (∀ W, Below W0.heap.size W0 W → Calls Try.prog 45 #[.slice az L.length cz] W fun e w' => ∃ v', e = .returned v' ∧ Ou W.heap.size w' v' L ∧ Below W.heap.size W w') := fun W hW => uclone_any (HRC.out W hW).2.2 hl40
      go_wp2_with fail
      go_region_held3 (fun w' => w'.cell? ⟨w.heap.size, 0, none⟩ = some (.slice ax V.length cx) ∧ w'.cell? ⟨w.heap.size, 1, none⟩ = some (.slice ay O.length cy) ∧ w'.cell? ⟨w.heap.size, 2, none⟩ = some (.slice az L.length cz)) (go_keep) (first
        | (go_at_call 45; refine (HC2.out w3 hb3).mono ?_; rintro e w4 ⟨v4, rfl, ho4, hb4'⟩; have hb4 := hb3.trans (hb4'.mono hb3.size); have ho3' := ho3.below hb4' (Nat.le_refl _); have ho4' := ho4.mono hb3.size; obtain ⟨a4, e4, rfl⟩ := ho4.shape; obtain ⟨t0, t1, t2, tz⟩ := at3 (HKR.out w4 hb4); have tz0 := tz 0; have tz1 := tz 1; have tz2 := tz 2; clear tz; obtain ⟨r0, r1, r2⟩ := HKC.out w4 hb4)
        | (go_at_call 45; refine (HC1.out _ (Below.drN hb2 1)).mono ?_; rintro e w3 ⟨v3, rfl, ho3, hb3⟩; obtain ⟨a3, e3, rfl⟩ := ho3.shape; obtain ⟨p0, p1, p2⟩ := HKC.out w3 hb3)
        | fail)
      go_wp2_with fail
      obtain ⟨⟨k0, k1, k2⟩, hoc, hbz⟩ := HOUT.out w4 (.slice a3 V.length e3) (.slice none 0 0) (.slice a4 L.length e4) (lv (V, O, L)) hb4 ⟨ho3', Ou.nil _ _, ho4'⟩ _ rfl
      clear hv40 hl40
      generalize (((w4.setCell ⟨w.heap.size + 1, 0, none⟩ (.slice a3 V.length e3)).setCell ⟨w.heap.size + 1, 1, none⟩ (.slice none 0 0)).setCell ⟨w.heap.size + 1, 2, none⟩ (.slice a4 L.length e4)) = wz at *
      refine bodyPost_ret (v := .tuple #[.agg #[.slice a3 V.length e3, .slice none 0 0, .slice a4 L.length e4], .int .i64 0]) (by simp [results, Try.results23, go_sem, k0, k1, k2]; try rfl) rfl ?_
      exact ⟨_, _, _, rfl, hoc, hbz⟩
    · rw [decide_eq_false hO] at hjo
      obtain rfl : (none3, 71) = F := by rw [← HF.out, hchk]; simp only [if_true]; rw [if_pos (by omega)]
      clear HF
      go_wp2_with fail
      refine hjo.mono ?_
      rintro e w2 ⟨rfl, hb2'⟩
      have hb2 : Below W0.heap.size W0 w2 := hb1.trans (hb2'.mono hb1.size)
      obtain ⟨t0, t1, t2, tz⟩ := at3 (HKR.out w2 hb2)
      have tz0 := tz 0
      have tz1 := tz 1
      have tz2 := tz 2
      clear tz
      go_wp2_with fail
      obtain ⟨⟨k0, k1, k2⟩, hoc, hbz⟩ := HOUT.out w2 _ _ _ none3 hb2 (Oc.nil _ _) _ rfl
      generalize (((w2.setCell ⟨w.heap.size + 1, 0, none⟩ (.slice none 0 0)).setCell ⟨w.heap.size + 1, 1, none⟩ (.slice none 0 0)).setCell ⟨w.heap.size + 1, 2, none⟩ (.slice none 0 0)) = wz at *
      refine bodyPost_ret (v := .tuple #[.agg #[.slice none 0 0, .slice none 0 0, .slice none 0 0], .int .i64 71]) (by simp [results, Try.results23, go_sem, k0, k1, k2]; try rfl) rfl ?_
      exact ⟨_, _, _, rfl, hoc, hbz⟩
end Go.Proofs.Ytedpfmalhapmeaa
