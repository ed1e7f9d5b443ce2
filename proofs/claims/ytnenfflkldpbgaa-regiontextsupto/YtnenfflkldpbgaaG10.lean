/- SameRegion: are two regions the same? -/
import Derived.Test.YtnenfflkldpbgaaG4
import Derived.Test.YtnenfflkldpbgaaG6
import Derived.Test.YtnenfflkldpbgaaG1
import Derived.Deep.RegionHeld3
import Derived.Deep.CutRange
import Derived.Test.YtnenfflkldpbgaaG2
import Derived.Lib.SlBytesConst
namespace Go.Proofs.Ytnenfflkldpbgaa
open Go.RowKit
set_option linter.unusedVariables false
set_option maxRecDepth 100000

set_option maxHeartbeats 4000000 in
theorem sameRegion_any {id cf vr id' cf' vr' : UInt64} {sv ev pv tv fv qv : Value} {s e t f : List UInt8} {ps qs : List Pe} {w : World} (hs : Rd w sv s) (he : Rd w ev e) (hp : RdPe w pv ps) (ht : Rd w tv t) (hf : Rd w fv f) (hq : RdPe w qv qs) :
    Calls Try.prog 12 #[.agg #[.int .u64 (id.toNat : Int), sv, ev, .int .u64 (cf.toNat : Int), .int .u64 (vr.toNat : Int), pv], .agg #[.int .u64 (id'.toNat : Int), tv, fv, .int .u64 (cf'.toNat : Int), .int .u64 (vr'.toNat : Int), qv]] w fun x w' => x = .returned (.bool (decide (id = id' ∧ s = t ∧ e = f ∧ cf = cf' ∧ vr = vr' ∧ ps = qs))) ∧ Below w.heap.size w w' := by
  have HRS : Hid (Rd w sv s ∧ Rd w ev e ∧ RdPe w pv ps ∧ Rd w tv t ∧ Rd w fv f ∧ RdPe w qv qs) := ⟨hs, he, hp, ht, hf, hq⟩
  obtain ⟨sa, sc, rfl⟩ := hs.shp
  obtain ⟨ea, ec, rfl⟩ := he.shp
  obtain ⟨pa, pk, rfl, _⟩ := hp.shape
  obtain ⟨ta, tc, rfl⟩ := ht.shp
  obtain ⟨fa, fc, rfl⟩ := hf.shp
  obtain ⟨qa, qk, rfl, _⟩ := hq.shape
  clear hs he hp ht hf hq
  obtain ⟨res, hres⟩ : ∃ res : Bool, res = decide (id = id' ∧ s = t ∧ e = f ∧ cf = cf' ∧ vr = vr' ∧ ps = qs) := ⟨_, rfl⟩
  rw [← hres]
  have HV : Hid _ := hres
  clear hres
  have hb0 : Below w.heap.size w ((w.alloc (.cells #[.int .u64 (id.toNat : Int), .slice sa s.length sc, .slice ea e.length ec, .int .u64 (cf.toNat : Int), .int .u64 (vr.toNat : Int), .slice pa ps.length pk] 28)).alloc (.cells #[.int .u64 (id'.toNat : Int), .slice ta t.length tc, .slice fa f.length fc, .int .u64 (cf'.toNat : Int), .int .u64 (vr'.toNat : Int), .slice qa qs.length qk] 28)) := (g_al w _).alloc (by simp) _
  have hl0 : ((w.alloc (.cells #[.int .u64 (id.toNat : Int), .slice sa s.length sc, .slice ea e.length ec, .int .u64 (cf.toNat : Int), .int .u64 (vr.toNat : Int), .slice pa ps.length pk] 28)).alloc (.cells #[.int .u64 (id'.toNat : Int), .slice ta t.length tc, .slice fa f.length fc, .int .u64 (cf'.toNat : Int), .int .u64 (vr'.toNat : Int), .slice qa qs.length qk] 28)).heap[w.heap.size]? = some (.cells #[.int .u64 (id.toNat : Int), .slice sa s.length sc, .slice ea e.length ec, .int .u64 (cf.toNat : Int), .int .u64 (vr.toNat : Int), .slice pa ps.length pk] 28 (0, 0)) := (Below.heap_alloc _ _ _ (by simp)).trans (heap_alloc_new w _)
  have hh0 : ((w.alloc (.cells #[.int .u64 (id.toNat : Int), .slice sa s.length sc, .slice ea e.length ec, .int .u64 (cf.toNat : Int), .int .u64 (vr.toNat : Int), .slice pa ps.length pk] 28)).alloc (.cells #[.int .u64 (id'.toNat : Int), .slice ta t.length tc, .slice fa f.length fc, .int .u64 (cf'.toNat : Int), .int .u64 (vr'.toNat : Int), .slice qa qs.length qk] 28)).heap[w.heap.size + 1]? = some (.cells #[.int .u64 (id'.toNat : Int), .slice ta t.length tc, .slice fa f.length fc, .int .u64 (cf'.toNat : Int), .int .u64 (vr'.toNat : Int), .slice qa qs.length qk] 28 (0, 0)) := by
    have := heap_alloc_new (w.alloc (.cells #[.int .u64 (id.toNat : Int), .slice sa s.length sc, .slice ea e.length ec, .int .u64 (cf.toNat : Int), .int .u64 (vr.toNat : Int), .slice pa ps.length pk] 28)) (.cells #[.int .u64 (id'.toNat : Int), .slice ta t.length tc, .slice fa f.length fc, .int .u64 (cf'.toNat : Int), .int .u64 (vr'.toNat : Int), .slice qa qs.length qk] 28)
    rw [World.size_alloc] at this
    exact this
  go_enter Try.func12, Try.ntmps12
  go_upto_region 1 with fail
  generalize ((w.alloc (.cells #[.int .u64 (id.toNat : Int), .slice sa s.length sc, .slice ea e.length ec, .int .u64 (cf.toNat : Int), .int .u64 (vr.toNat : Int), .slice pa ps.length pk] 28)).alloc (.cells #[.int .u64 (id'.toNat : Int), .slice ta t.length tc, .slice fa f.length fc, .int .u64 (cf'.toNat : Int), .int .u64 (vr'.toNat : Int), .slice qa qs.length qk] 28)) = W at *
  obtain ⟨q1, q2, q3, q4, q5, q6⟩ := HRS.out
  have hS : ∀ n, Calls Try.prog 11 #[.slice sa s.length sc, .slice ta t.length tc] (W.drewN n) fun x w' => x = .returned (.bool (decide (s = t))) ∧ ∃ m, w' = W.drewN m := fun n => (same_any ((q1.below hb0 (Nat.le_refl _)).drewN n) ((q4.below hb0 (Nat.le_refl _)).drewN n)).mono (by rintro x w' ⟨rfl, m, rfl⟩; exact ⟨rfl, n + m, by simp [World.drewN, Nat.add_assoc]⟩)
  have hE : ∀ n, Calls Try.prog 11 #[.slice ea e.length ec, .slice fa f.length fc] (W.drewN n) fun x w' => x = .returned (.bool (decide (e = f))) ∧ ∃ m, w' = W.drewN m := fun n => (same_any ((q2.below hb0 (Nat.le_refl _)).drewN n) ((q5.below hb0 (Nat.le_refl _)).drewN n)).mono (by rintro x w' ⟨rfl, m, rfl⟩; exact ⟨rfl, n + m, by simp [World.drewN, Nat.add_assoc]⟩)
  have hP : ∀ n, Calls Try.prog 29 #[.slice pa ps.length pk, .slice qa qs.length qk] (W.drewN n) fun x w' => x = .returned (.bool (decide (ps = qs))) ∧ ∃ m, w' = W.drewN m := fun n => (samePeers_any ((q3.below hb0 (Nat.le_refl _)).below (Below.dN W n) (Nat.le_refl _)) ((q6.below hb0 (Nat.le_refl _)).below (Below.dN W n) (Nat.le_refl _))).mono (by rintro x w' ⟨rfl, m, rfl⟩; exact ⟨rfl, n + m, by simp [World.drewN, Nat.add_assoc]⟩)
  clear q1 q2 q3 q4 q5 q6
  have hfin : ∀ n, Below w.heap.size w (W.drewN n) := fun n => hb0.trans ((Below.dN W n).mono hb0.size)
  have HK : Hid (∀ n, (W.drewN n).heap[w.heap.size]? = some (.cells #[.int .u64 (id.toNat : Int), .slice sa s.length sc, .slice ea e.length ec, .int .u64 (cf.toNat : Int), .int .u64 (vr.toNat : Int), .slice pa ps.length pk] 28 (0, 0)) ∧ (W.drewN n).heap[w.heap.size + 1]? = some (.cells #[.int .u64 (id'.toNat : Int), .slice ta t.length tc, .slice fa f.length fc, .int .u64 (cf'.toNat : Int), .int .u64 (vr'.toNat : Int), .slice qa qs.length qk] 28 (0, 0))) := fun n => ⟨hl0, hh0⟩
  obtain ⟨a0, a1, a2, a3, a4, a5, _⟩ := cells6 hl0
  obtain ⟨b0, b1, b2, b3, b4, b5, _⟩ := cells6 hh0
  clear hl0 hh0
  by_cases hq : id = id'
  · have g0 : ((id.toNat : Int) == (id'.toNat : Int)) = true := by rw [hq]; simp
    have HI : Hid _ := hq
    clear hq
    have hn1 := hS 0
    by_cases hq : s = t
    · rw [decide_eq_true hq] at hn1
      have Hn1 : Hid _ := hq
      clear hq
      go_wp2_with fail
      refine hn1.mono ?_
      rintro x wn1 ⟨rfl, n1, rfl⟩
      clear a0 a1 a2 a3 a4 a5 b0 b1 b2 b3 b4 b5
      obtain ⟨a0, a1, a2, a3, a4, a5, _⟩ := cells6 (HK.out n1).1
      obtain ⟨b0, b1, b2, b3, b4, b5, _⟩ := cells6 (HK.out n1).2
      have hn2 := hE n1
      by_cases hq : e = f
      · rw [decide_eq_true hq] at hn2
        have Hn2 : Hid _ := hq
        clear hq
        go_wp2_with fail
        refine hn2.mono ?_
        rintro x wn2 ⟨rfl, n2, rfl⟩
        clear a0 a1 a2 a3 a4 a5 b0 b1 b2 b3 b4 b5
        obtain ⟨a0, a1, a2, a3, a4, a5, _⟩ := cells6 (HK.out n2).1
        obtain ⟨b0, b1, b2, b3, b4, b5, _⟩ := cells6 (HK.out n2).2
        by_cases hq : cf = cf'
        · have g3 : ((cf.toNat : Int) == (cf'.toNat : Int)) = true := by rw [hq]; simp
          have HC : Hid _ := hq
          clear hq
          by_cases hq : vr = vr'
          · have g4 : ((vr.toNat : Int) == (vr'.toNat : Int)) = true := by rw [hq]; simp
            have HR : Hid _ := hq
            clear hq
            have hn3 := hP n2
            by_cases hq : ps = qs
            · rw [decide_eq_true hq] at hn3
              have Hn3 : Hid _ := hq
              clear hq
              go_wp2_with fail
              refine hn3.mono ?_
              rintro x wn3 ⟨rfl, n3, rfl⟩
              clear a0 a1 a2 a3 a4 a5 b0 b1 b2 b3 b4 b5
              obtain ⟨a0, a1, a2, a3, a4, a5, _⟩ := cells6 (HK.out n3).1
              obtain ⟨b0, b1, b2, b3, b4, b5, _⟩ := cells6 (HK.out n3).2
              have HY : Hid (true = res) := by show _ = _; rw [HV.out]; exact (decide_eq_true ⟨HI.out, Hn1.out, Hn2.out, HC.out, HR.out, Hn3.out⟩).symm
              go_wp2_with fail
              go_ret
              exact ⟨by rw [← HY.out]; rfl, hfin _⟩
            · rw [decide_eq_false hq] at hn3
              have HY : Hid (false = res) := by show _ = _; rw [HV.out]; exact (decide_eq_false (fun q => hq q.2.2.2.2.2)).symm
              clear hq
              go_wp2_with fail
              refine hn3.mono ?_
              rintro x wn3 ⟨rfl, n3, rfl⟩
              clear a0 a1 a2 a3 a4 a5 b0 b1 b2 b3 b4 b5
              obtain ⟨a0, a1, a2, a3, a4, a5, _⟩ := cells6 (HK.out n3).1
              obtain ⟨b0, b1, b2, b3, b4, b5, _⟩ := cells6 (HK.out n3).2
              go_wp2_with fail
              go_ret
              exact ⟨by rw [← HY.out]; rfl, hfin _⟩
          · have g4 : ((vr.toNat : Int) == (vr'.toNat : Int)) = false := beq_eq_false_iff_ne.2 (fun q => hq (UInt64.toNat_inj.1 (by omega)))
            have HY : Hid (false = res) := by show _ = _; rw [HV.out]; exact (decide_eq_false (fun q => hq q.2.2.2.2.1)).symm
            go_wp2_with fail
            go_ret
            exact ⟨by rw [← HY.out]; rfl, hfin _⟩
        · have g3 : ((cf.toNat : Int) == (cf'.toNat : Int)) = false := beq_eq_false_iff_ne.2 (fun q => hq (UInt64.toNat_inj.1 (by omega)))
          have HY : Hid (false = res) := by show _ = _; rw [HV.out]; exact (decide_eq_false (fun q => hq q.2.2.2.1)).symm
          go_wp2_with fail
          go_ret
          exact ⟨by rw [← HY.out]; rfl, hfin _⟩
      · rw [decide_eq_false hq] at hn2
        have HY : Hid (false = res) := by show _ = _; rw [HV.out]; exact (decide_eq_false (fun q => hq q.2.2.1)).symm
        clear hq
        go_wp2_with fail
        refine hn2.mono ?_
        rintro x wn2 ⟨rfl, n2, rfl⟩
        clear a0 a1 a2 a3 a4 a5 b0 b1 b2 b3 b4 b5
        obtain ⟨a0, a1, a2, a3, a4, a5, _⟩ := cells6 (HK.out n2).1
        obtain ⟨b0, b1, b2, b3, b4, b5, _⟩ := cells6 (HK.out n2).2
        go_wp2_with fail
        go_ret
        exact ⟨by rw [← HY.out]; rfl, hfin _⟩
    · rw [decide_eq_false hq] at hn1
      have HY : Hid (false = res) := by show _ = _; rw [HV.out]; exact (decide_eq_false (fun q => hq q.2.1)).symm
      clear hq
      go_wp2_with fail
      refine hn1.mono ?_
      rintro x wn1 ⟨rfl, n1, rfl⟩
      clear a0 a1 a2 a3 a4 a5 b0 b1 b2 b3 b4 b5
      obtain ⟨a0, a1, a2, a3, a4, a5, _⟩ := cells6 (HK.out n1).1
      obtain ⟨b0, b1, b2, b3, b4, b5, _⟩ := cells6 (HK.out n1).2
      go_wp2_with fail
      go_ret
      exact ⟨by rw [← HY.out]; rfl, hfin _⟩
  · have g0 : ((id.toNat : Int) == (id'.toNat : Int)) = false := beq_eq_false_iff_ne.2 (fun q => hq (UInt64.toNat_inj.1 (by omega)))
    have HY : Hid (false = res) := by show _ = _; rw [HV.out]; exact (decide_eq_false (fun q => hq q.1)).symm
    go_wp2_with fail
    go_ret
    exact ⟨by rw [← HY.out]; rfl, hb0⟩
end Go.Proofs.Ytnenfflkldpbgaa

/- Split's new numbers: a peer's number written; the world behind the keys' copies. -/
namespace Go.Proofs.Ytnenfflkldpbgaa
open Go.RowKit
set_option linter.unusedVariables false
set_option maxRecDepth 100000

theorem row_setP {w : World} {B : Nat} {e : TypeId} {size n g : Nat} {v : Value} {xs : List Value} (h : w.ownsRow B e size v n xs) (hv : v.ownBlock = some g) (j : Nat) (u : Value) : (w.setCell ⟨g, j, none⟩ u).ownsRow B e size v n (xs.set j u) := by
  refine ⟨by rw [List.length_set]; exact h.1, ?_⟩
  rcases h.2 with ⟨q, q0⟩ | ⟨g', cap, cur, q, hB, hg, q1, q2, q3, q4⟩
  · rw [q] at hv; cases hv
  · rw [q] at hv
    obtain rfl : g' = g := Option.some.inj hv
    refine .inr ⟨g', cap, cur.setIfInBounds j u, q, hB, by rw [heap_setCell_same _ _ j _ _ _ hg], q1, q2, by rw [Array.size_setIfInBounds]; exact q3, ?_⟩
    rw [← q4]
    simp [List.take_set]
theorem row_frozP {w : World} {B : Nat} {e : TypeId} {size n c k g : Nat} {xs : List Value} (h : w.ownsRow B e size (.slice (some ⟨g, 0, none⟩) n c) k xs) (j : Nat) : w.frozen? ⟨g, j, none⟩ = false := by
  rcases h.2 with ⟨q, q0⟩ | ⟨g', cap, cur, q, hB, hg, _⟩
  · cases q
  · simp only [Value.slice.injEq, Option.some.injEq, Addr.mk.injEq, and_true] at q
    obtain ⟨rfl, _⟩ := q
    exact frozen_of_row _ _ _ _ _ hg
theorem fm_set0 {α : Type} {f : α → List Value} {n : Nat} (hf : ∀ x, (f x).length = n) (hn : 0 < n) : ∀ (l : List α) (i : Nat) (x y : α), l[i]? = some x → (f x).tail = (f y).tail → ∀ u, (f y).head? = some u → (l.set i y).flatMap f = (l.flatMap f).set (i * n) u
  | [], i, x, y, e, _, u, _ => by simp at e
  | a :: l, 0, x, y, e, ht, u, hu => by
    simp at e; subst e
    cases hy : f y with
    | nil => rw [hy] at hu; simp at hu
    | cons y0 yt =>
      rw [hy] at hu ht
      simp at hu; subst hu
      cases hx : f a with
      | nil => have := hf a; rw [hx] at this; simp at this; omega
      | cons x0 xt =>
        rw [hx] at ht
        simp at ht; subst ht
        simp [hx, hy]
  | a :: l, i + 1, x, y, e, ht, u, hu => by
    have ih := fm_set0 hf hn l i x y (by simpa using e) ht u hu
    rw [List.set_cons_succ, List.flatMap_cons, List.flatMap_cons, ih, List.set_append]
    have e1 : ¬ (i + 1) * n < (f a).length := by rw [hf, Nat.add_mul]; omega
    have e2 : (i + 1) * n - (f a).length = i * n := by rw [hf, Nat.add_mul]; omega
    rw [if_neg e1, e2]
/-- A peer's number is written. -/
theorem OwPe.num {B g n c : Nat} {w : World} {ps : List Pe} (h : OwPe B w (.slice (some ⟨g, 0, none⟩) n c) ps) {k : Nat} {p : Pe} (hp : ps[k]? = some p) (m : UInt64) : OwPe B (w.setCell ⟨g, k * 3, none⟩ (.int .u64 (m.toNat : Int))) (.slice (some ⟨g, 0, none⟩) n c) (ps.set k (m, p.2)) := by
  have h1 := row_setP h (g := g) rfl (k * 3) (.int .u64 (m.toNat : Int))
  unfold OwPe pcs
  rw [fm_set0 pc_len (by omega) ps k p (m, p.2) hp rfl _ rfl, List.length_set]
  exact h1
/-- The peers, the first k with their new numbers. -/
def numQ (ps : List Pe) (L : List UInt64) : List Pe := List.zipWith (fun p n => (n, p.2)) ps L
def mixP (ps : List Pe) (L : List UInt64) (k : Nat) : List Pe := numQ (ps.take k) (L.take k) ++ ps.drop k
theorem mixP_zero (ps : List Pe) (L : List UInt64) : mixP ps L 0 = ps := by simp [mixP, numQ]
theorem mixP_len (ps : List Pe) (L : List UInt64) (k : Nat) (hl : L.length = ps.length) (hk : k ≤ ps.length) : (mixP ps L k).length = ps.length := by
  unfold mixP numQ
  simp; omega
theorem mixP_all (ps : List Pe) (L : List UInt64) (hl : L.length = ps.length) : mixP ps L ps.length = List.zipWith (fun p n => (n, p.2)) ps L := by
  unfold mixP numQ
  rw [List.take_length, List.drop_length, List.append_nil, ← hl, List.take_length]
theorem mixP_at (ps : List Pe) (L : List UInt64) (k : Nat) (hl : L.length = ps.length) (p : Pe) (hp : ps[k]? = some p) : (mixP ps L k)[k]? = some p := by
  have hk := (List.getElem?_eq_some_iff.1 hp).1
  have hz : (numQ (ps.take k) (L.take k)).length = k := by unfold numQ; simp; omega
  unfold mixP
  rw [List.getElem?_append_right (by omega), hz, Nat.sub_self, List.getElem?_drop]
  simpa using hp
theorem mixP_step (ps : List Pe) (L : List UInt64) (k : Nat) (hl : L.length = ps.length) (p : Pe) (m : UInt64) (hp : ps[k]? = some p) (hm : L[k]? = some m) : (mixP ps L k).set k (m, p.2) = mixP ps L (k + 1) := by
  have hk := (List.getElem?_eq_some_iff.1 hp).1
  have hz : (numQ (ps.take k) (L.take k)).length = k := by unfold numQ; simp; omega
  have ed : ps.drop k = p :: ps.drop (k + 1) := by
    obtain ⟨h, rfl⟩ := List.getElem?_eq_some_iff.1 hp
    exact List.drop_eq_getElem_cons h
  have et : ps.take (k + 1) = ps.take k ++ [p] := by rw [List.take_add_one, hp]; rfl
  have el : L.take (k + 1) = L.take k ++ [m] := by rw [List.take_add_one, hm]; rfl
  unfold mixP
  rw [List.set_append, if_neg (by omega), hz, Nat.sub_self, ed, List.set_cons_zero, et, el]
  unfold numQ
  rw [List.zipWith_append (by simp; omega), List.append_assoc]
  rfl
theorem chg_drew {S : Nat → Prop} {X Y : World} (c : Chg S X Y) : Chg S X Y.drew := ⟨c.os, c.tape, c.output, c.size, c.block⟩
theorem heap_drewP (Y : World) (g : Nat) : Y.drew.heap[g]? = Y.heap[g]? := rfl
/-- Two results written, and a draw. -/
theorem ret_two {X : World} {g h : Nat} (z1 : X.heap[g]? = some zeroC) (z2 : X.heap[h]? = some zeroC) (ne : g ≠ h) (i1 c1 r1 : Int) (u1 v1 x1 : Value) (i2 c2 r2 : Int) (u2 v2 x2 : Value) :
    (set6 (set6 X g i1 c1 r1 u1 v1 x1) h i2 c2 r2 u2 v2 x2).drew.heap[g]? = some (rgC i1 c1 r1 u1 v1 x1) ∧ (set6 (set6 X g i1 c1 r1 u1 v1 x1) h i2 c2 r2 u2 v2 x2).drew.heap[h]? = some (rgC i2 c2 r2 u2 v2 x2) ∧ Chg (fun b => b = g ∨ b = h) X (set6 (set6 X g i1 c1 r1 u1 v1 x1) h i2 c2 r2 u2 v2 x2).drew := by
  have cc : Chg (fun b => b = g ∨ b = h) X (set6 (set6 X g i1 c1 r1 u1 v1 x1) h i2 c2 r2 u2 v2 x2) := ((set6_c X g i1 c1 r1 u1 v1 x1).mono (fun b _ q => Or.inl q)).trans ((set6_c _ h i2 c2 r2 u2 v2 x2).mono (fun b _ q => Or.inl (Or.inr q)))
  refine ⟨?_, ?_, chg_drew cc⟩
  · rw [heap_drewP, (set6_c (set6 X g i1 c1 r1 u1 v1 x1) h i2 c2 r2 u2 v2 x2).block g (by have := lt_of_some z1; have := (set6_c X g i1 c1 r1 u1 v1 x1).size; omega) ne]
    exact set6_b z1 _ _ _ _ _ _
  · rw [heap_drewP]
    exact set6_b (by rw [(set6_c X g i1 c1 r1 u1 v1 x1).block h (lt_of_some z2) (fun q => ne q.symm)]; exact z2) _ _ _ _ _ _
end Go.Proofs.Ytnenfflkldpbgaa

/- Split. -/
namespace Go.Proofs.Ytnenfflkldpbgaa
open Go.RowKit
set_option linter.unusedVariables false
set_option maxRecDepth 100000

/-- The new region's peers. -/
def numP (ps : List Pe) (L : List UInt64) : List Pe := List.zipWith (fun p n => (n, p.2)) ps L
/-- A block holds a region whose lists are of the call's own. -/
structure BxR (B g : Nat) (id cf vr : Int) (s e : List UInt8) (ps : List Pe) (sv ev pv : Value) (w : World) : Prop where
  blk : w.heap[g]? = some (.cells #[.int .u64 id, sv, ev, .int .u64 cf, .int .u64 vr, pv] 28 (0, 0))
  own : OwR B w sv ev pv s e ps
  ns : ∀ b, (sv.ownBlock = some b ∨ ev.ownBlock = some b ∨ pv.ownBlock = some b) → b ≠ g

def zeroR : Obj := .cells #[.int .u64 0, .slice none 0 0, .slice none 0 0, .int .u64 0, .int .u64 0, .slice none 0 0] 28
set_option maxHeartbeats 40000000 in
theorem split_ok {id nid vr : UInt64} {cf : Int} {sv ev pv kv lv : Value} {s e k : List UInt8} {ps : List Pe} {L : List UInt64} {w : World} (hs : Rd w sv s) (he : Rd w ev e) (hp : RdPe w pv ps) (hk : Rd w kv k) (hL : Ru w lv L) (hok : cspE id nid vr s e k ps L = 0) (hsl : s.length ≤ 64) (hel : e.length ≤ 64) (hpl : ps.length ≤ 9) (hkl : k.length ≤ 64) (hvr : vr.toNat < 18446744073709551615) (hLp : L.length = ps.length) :
    Calls Try.prog 34 #[.agg #[.int .u64 (id.toNat : Int), sv, ev, .int .u64 cf, .int .u64 (vr.toNat : Int), pv], kv, .int .u64 (nid.toNat : Int), lv] w fun x w' => ∃ sv1 kv1 pv1 kv2 ev2 pv2, x = .returned (.tuple #[.agg #[.int .u64 (id.toNat : Int), sv1, kv1, .int .u64 cf, .int .u64 ((vr.toNat : Int) + 1), pv1], .agg #[.int .u64 (nid.toNat : Int), kv2, ev2, .int .u64 cf, .int .u64 ((vr.toNat : Int) + 1), pv2], .int .i64 0]) ∧ OwR w.heap.size w' sv1 kv1 pv1 s k ps ∧ OwR w.heap.size w' kv2 ev2 pv2 k e (numP ps L) ∧ Below w.heap.size w w' := by
  have HRS : Hid (Rd w sv s ∧ Rd w ev e ∧ RdPe w pv ps ∧ Rd w kv k ∧ Ru w lv L) := ⟨hs, he, hp, hk, hL⟩
  have HLP : Hid _ := hLp
  clear hLp
  have hcs : ∀ W, Below w.heap.size w W → Calls Try.prog 60 #[.agg #[.int .u64 (id.toNat : Int), sv, ev, .int .u64 cf, .int .u64 (vr.toNat : Int), pv], kv, .int .u64 (nid.toNat : Int), lv] W fun x w' => x = .returned (.int .i64 0) ∧ Below W.heap.size W w' := fun W hW => by
    have := checkSplit_any (cf := cf) (id := id) (nid := nid) (vr := vr) (hs.below hW (Nat.le_refl _)) (he.below hW (Nat.le_refl _)) (hp.below hW (Nat.le_refl _)) (hk.below hW (Nat.le_refl _)) (hL.below hW (Nat.le_refl _))
    rw [hok] at this
    exact this
  have hcl : ∀ W, Below w.heap.size w W → Calls Try.prog 61 #[.agg #[.int .u64 (id.toNat : Int), sv, ev, .int .u64 cf, .int .u64 ((vr.toNat : Int) + 1), pv]] W fun x w' => ∃ sv' ev' pv', x = .returned (.agg #[.int .u64 (id.toNat : Int), sv', ev', .int .u64 cf, .int .u64 ((vr.toNat : Int) + 1), pv']) ∧ OwR W.heap.size w' sv' ev' pv' s e ps ∧ Below W.heap.size W w' := fun W hW => clone_rg (hs.below hW (Nat.le_refl _)) (he.below hW (Nat.le_refl _)) (hp.below hW (Nat.le_refl _)) (by omega) (by omega) (by omega)
  obtain ⟨sa, sc, rfl⟩ := hs.shp
  obtain ⟨ea, ec, rfl⟩ := he.shp
  obtain ⟨pa, pk, rfl, _⟩ := hp.shape
  obtain ⟨ka, kc, rfl⟩ := hk.shp
  obtain ⟨la, lc, rfl⟩ := hL.shape
  clear hs he hp hk hL hok
  have hB0 : Below w.heap.size w (((w.alloc (.cells #[.int .u64 (id.toNat : Int), .slice sa s.length sc, .slice ea e.length ec, .int .u64 cf, .int .u64 (vr.toNat : Int), .slice pa ps.length pk] 28)).alloc (.cells #[.int .u64 0, .slice none 0 0, .slice none 0 0, .int .u64 0, .int .u64 0, .slice none 0 0] 28)).alloc (.cells #[.int .u64 0, .slice none 0 0, .slice none 0 0, .int .u64 0, .int .u64 0, .slice none 0 0] 28)) := ((g_al w _).alloc (by simp) _).alloc (by simp; omega) _
  have hk0 : (((w.alloc (.cells #[.int .u64 (id.toNat : Int), .slice sa s.length sc, .slice ea e.length ec, .int .u64 cf, .int .u64 (vr.toNat : Int), .slice pa ps.length pk] 28)).alloc (.cells #[.int .u64 0, .slice none 0 0, .slice none 0 0, .int .u64 0, .int .u64 0, .slice none 0 0] 28)).alloc (.cells #[.int .u64 0, .slice none 0 0, .slice none 0 0, .int .u64 0, .int .u64 0, .slice none 0 0] 28)).heap[w.heap.size]? = some (.cells #[.int .u64 (id.toNat : Int), .slice sa s.length sc, .slice ea e.length ec, .int .u64 cf, .int .u64 (vr.toNat : Int), .slice pa ps.length pk] 28 (0, 0)) := by
    rw [Below.heap_alloc _ _ _ (by simp; omega), Below.heap_alloc _ _ _ (by simp)]; exact heap_alloc_new w _
  have hr0 : (((w.alloc (.cells #[.int .u64 (id.toNat : Int), .slice sa s.length sc, .slice ea e.length ec, .int .u64 cf, .int .u64 (vr.toNat : Int), .slice pa ps.length pk] 28)).alloc (.cells #[.int .u64 0, .slice none 0 0, .slice none 0 0, .int .u64 0, .int .u64 0, .slice none 0 0] 28)).alloc (.cells #[.int .u64 0, .slice none 0 0, .slice none 0 0, .int .u64 0, .int .u64 0, .slice none 0 0] 28)).heap[w.heap.size + 1]? = some (.cells #[.int .u64 0, .slice none 0 0, .slice none 0 0, .int .u64 0, .int .u64 0, .slice none 0 0] 28 (0, 0)) := by
    rw [Below.heap_alloc _ _ _ (by simp)]
    have := heap_alloc_new (w.alloc (.cells #[.int .u64 (id.toNat : Int), .slice sa s.length sc, .slice ea e.length ec, .int .u64 cf, .int .u64 (vr.toNat : Int), .slice pa ps.length pk] 28)) (.cells #[.int .u64 0, .slice none 0 0, .slice none 0 0, .int .u64 0, .int .u64 0, .slice none 0 0] 28)
    rw [World.size_alloc] at this
    exact this
  have hr1 : (((w.alloc (.cells #[.int .u64 (id.toNat : Int), .slice sa s.length sc, .slice ea e.length ec, .int .u64 cf, .int .u64 (vr.toNat : Int), .slice pa ps.length pk] 28)).alloc (.cells #[.int .u64 0, .slice none 0 0, .slice none 0 0, .int .u64 0, .int .u64 0, .slice none 0 0] 28)).alloc (.cells #[.int .u64 0, .slice none 0 0, .slice none 0 0, .int .u64 0, .int .u64 0, .slice none 0 0] 28)).heap[w.heap.size + 1 + 1]? = some (.cells #[.int .u64 0, .slice none 0 0, .slice none 0 0, .int .u64 0, .int .u64 0, .slice none 0 0] 28 (0, 0)) := by
    have := heap_alloc_new ((w.alloc (.cells #[.int .u64 (id.toNat : Int), .slice sa s.length sc, .slice ea e.length ec, .int .u64 cf, .int .u64 (vr.toNat : Int), .slice pa ps.length pk] 28)).alloc (.cells #[.int .u64 0, .slice none 0 0, .slice none 0 0, .int .u64 0, .int .u64 0, .slice none 0 0] 28)) (.cells #[.int .u64 0, .slice none 0 0, .slice none 0 0, .int .u64 0, .int .u64 0, .slice none 0 0] 28)
    rw [World.size_alloc, World.size_alloc] at this
    exact this
  have hz0 : (((w.alloc (.cells #[.int .u64 (id.toNat : Int), .slice sa s.length sc, .slice ea e.length ec, .int .u64 cf, .int .u64 (vr.toNat : Int), .slice pa ps.length pk] 28)).alloc (.cells #[.int .u64 0, .slice none 0 0, .slice none 0 0, .int .u64 0, .int .u64 0, .slice none 0 0] 28)).alloc (.cells #[.int .u64 0, .slice none 0 0, .slice none 0 0, .int .u64 0, .int .u64 0, .slice none 0 0] 28)).heap.size > w.heap.size + 1 + 1 := by simp
  go_enter Try.func34, Try.ntmps34
  go_wp2_with fail
  generalize (((w.alloc (.cells #[.int .u64 (id.toNat : Int), .slice sa s.length sc, .slice ea e.length ec, .int .u64 cf, .int .u64 (vr.toNat : Int), .slice pa ps.length pk] 28)).alloc (.cells #[.int .u64 0, .slice none 0 0, .slice none 0 0, .int .u64 0, .int .u64 0, .slice none 0 0] 28)).alloc (.cells #[.int .u64 0, .slice none 0 0, .slice none 0 0, .int .u64 0, .int .u64 0, .slice none 0 0] 28)) = W0 at *
  refine (hcs _ hB0).mono ?_
  rintro x w1 ⟨rfl, b1⟩
  have hs1 := b1.size
  have hk1 : w1.heap[w.heap.size]? = _ := (b1.block _ (by omega)).trans hk0
  have hr01 : w1.heap[w.heap.size + 1]? = _ := (b1.block _ (by omega)).trans hr0
  have hr11 : w1.heap[w.heap.size + 1 + 1]? = _ := (b1.block _ (by omega)).trans hr1
  have hB1 : Below w.heap.size w w1 := hB0.trans (b1.mono hB0.size)
  obtain ⟨c0, c1, c2, c3, c4, c5, cz⟩ := cells6 hk1
  have z4 := cz 4
  have ch1 := put1_chg w1 w.heap.size 4 (.int .u64 ((vr.toNat : Int) + 1))
  have hq1 : (w1.setCell ⟨w.heap.size, 4, none⟩ (.int .u64 ((vr.toNat : Int) + 1))).heap[w.heap.size]? = some (.cells #[.int .u64 (id.toNat : Int), .slice sa s.length sc, .slice ea e.length ec, .int .u64 cf, .int .u64 ((vr.toNat : Int) + 1), .slice pa ps.length pk] 28 (0, 0)) := put1_block hk1 _
  have hp1 : (w1.setCell ⟨w.heap.size, 4, none⟩ (.int .u64 ((vr.toNat : Int) + 1))).heap[w.heap.size + 1]? = _ := (ch1.block _ (by omega) (by omega)).trans hr01
  have hp2 : (w1.setCell ⟨w.heap.size, 4, none⟩ (.int .u64 ((vr.toNat : Int) + 1))).heap[w.heap.size + 1 + 1]? = _ := (ch1.block _ (by omega) (by omega)).trans hr11
  have hC1 : Below w.heap.size w (w1.setCell ⟨w.heap.size, 4, none⟩ (.int .u64 ((vr.toNat : Int) + 1))) := hB1.trans (ch1.below (fun b q => by omega) hB1.size)
  have hss1 : (w1.setCell ⟨w.heap.size, 4, none⟩ (.int .u64 ((vr.toNat : Int) + 1))).heap.size > w.heap.size + 1 + 1 := by have := ch1.size; omega
  clear cz hk0 hr0 hr1 hk1 hr01 hr11 ch1 hB1 b1 hs1
  go_upto_region 5 with fail
  clear c0 c1 c2 c3 c4 c5 z4
  generalize (w1.setCell ⟨w.heap.size, 4, none⟩ (.int .u64 ((vr.toNat : Int) + 1))) = W1 at *
  obtain ⟨c0, c1, c2, c3, c4, c5, _⟩ := cells6 hq1
  have hD0 : Below W1.heap.size W1 W1.drew := Below.dN W1 1
  have HKK : Hid (∀ W, Below W1.heap.size W1 W → W.heap[w.heap.size]? = some (.cells #[.int .u64 (id.toNat : Int), .slice sa s.length sc, .slice ea e.length ec, .int .u64 cf, .int .u64 ((vr.toNat : Int) + 1), .slice pa ps.length pk] 28 (0, 0))) := fun W hW => by rw [hW.block _ (by omega)]; exact hq1
  have hcl2 : ∀ W, Below W1.heap.size W1 W → Calls Try.prog 61 #[.agg #[.int .u64 (id.toNat : Int), .slice sa s.length sc, .slice ea e.length ec, .int .u64 cf, .int .u64 ((vr.toNat : Int) + 1), .slice pa ps.length pk]] W fun x w' => ∃ a1 d1 a2 d2 a3 d3, x = .returned (.agg #[.int .u64 (id.toNat : Int), .slice a1 s.length d1, .slice a2 e.length d2, .int .u64 cf, .int .u64 ((vr.toNat : Int) + 1), .slice a3 ps.length d3]) ∧ OwR W.heap.size w' (.slice a1 s.length d1) (.slice a2 e.length d2) (.slice a3 ps.length d3) s e ps ∧ Below W.heap.size W w' ∧ Below W1.heap.size W1 w' ∧ w'.cell? ⟨w.heap.size, 0, none⟩ = some (.int .u64 (id.toNat : Int)) ∧ w'.cell? ⟨w.heap.size, 1, none⟩ = some (.slice sa s.length sc) ∧ w'.cell? ⟨w.heap.size, 2, none⟩ = some (.slice ea e.length ec) ∧ w'.cell? ⟨w.heap.size, 3, none⟩ = some (.int .u64 cf) ∧ w'.cell? ⟨w.heap.size, 4, none⟩ = some (.int .u64 ((vr.toNat : Int) + 1)) ∧ w'.cell? ⟨w.heap.size, 5, none⟩ = some (.slice pa ps.length pk) := fun W hW => (hcl W (hC1.trans (hW.mono hC1.size))).mono (by
    rintro x w' ⟨v1, v2, v3, rfl, ho, hb⟩
    obtain ⟨a1, d1, rfl⟩ := ho.s.shp
    obtain ⟨a2, d2, rfl⟩ := ho.e.shp
    obtain ⟨a3, d3, rfl⟩ := ho.p.shape
    have hb2 : Below W1.heap.size W1 w' := hW.trans (hb.mono hW.size)
    obtain ⟨q0, q1, q2, q3, q4, q5, _⟩ := cells6 (HKK.out w' hb2)
    exact ⟨a1, d1, a2, d2, a3, d3, rfl, ho, hb, hb2, q0, q1, q2, q3, q4, q5⟩)
  have hA1 : Below W1.heap.size W1 (W1.alloc (.cells #[.int .u64 0, .slice none 0 0, .slice none 0 0, .int .u64 0, .int .u64 0, .slice none 0 0] 28)).drew := (g_al W1 _).trans ((Below.dN _ 1).mono (g_al W1 _).size)
  have hA2 : Below W1.heap.size W1 ((W1.alloc (.cells #[.int .u64 0, .slice none 0 0, .slice none 0 0, .int .u64 0, .int .u64 0, .slice none 0 0] 28)).alloc (.cells #[.int .u64 0, .slice none 0 0, .slice none 0 0, .int .u64 0, .int .u64 0, .slice none 0 0] 28)).drew := ((g_al W1 _).alloc (g_al W1 _).size _).trans ((Below.dN _ 1).mono ((g_al W1 _).alloc (g_al W1 _).size _).size)
  have nw1 : ¬ w.heap.size = W1.heap.size := by omega
  have nw2 : ¬ W1.heap.size = w.heap.size := by omega
  have nw3 : ¬ w.heap.size = W1.heap.size + 1 := by omega
  have nw4 : ¬ W1.heap.size + 1 = w.heap.size := by omega
  go_cut [12, 13] from 16 to 59 (fun p q wx => ∃ (gl gh : Nat) (u v x u2 v2 x2 : Value), p = .pointer (some ⟨gl, 0, none⟩) ∧ q = .pointer (some ⟨gh, 0, none⟩) ∧ Sp5 W1 (id.toNat : Int) cf ((vr.toNat : Int) + 1) s e ps gl gh u v x u2 v2 x2 wx)
  case first =>
    go_region_held3 (fun w' => w'.cell? ⟨w.heap.size, 0, none⟩ = some (.int .u64 (id.toNat : Int)) ∧ w'.cell? ⟨w.heap.size, 1, none⟩ = some (.slice sa s.length sc) ∧ w'.cell? ⟨w.heap.size, 2, none⟩ = some (.slice ea e.length ec) ∧ w'.cell? ⟨w.heap.size, 3, none⟩ = some (.int .u64 cf) ∧ w'.cell? ⟨w.heap.size, 4, none⟩ = some (.int .u64 ((vr.toNat : Int) + 1)) ∧ w'.cell? ⟨w.heap.size, 5, none⟩ = some (.slice pa ps.length pk)) (first | go_keep | simp only [World.cell?_setCell_far, World.cell?_alloc_some, ne_eq, not_false_eq_true, Option.isSome_some, and_self, nw1, nw2, nw3, nw4, ne1a, ne1b, ne2a, ne2b, ne7a, ne7b, ne8a, ne8b, r0, r1, r2, r3, r4, r5]) (first
    | (go_at_call 61; refine (hcl2 _ ((y4.alloc y4.size _).alloc (Nat.le_trans y4.size (by simp)) _)).mono ?_; rintro x w4 ⟨f1, g1, f2, g2, f3, g3, rfl, po, pb, pb4, r0, r1, r2, r3, r4, r5⟩; obtain ⟨v0, v1, v2, v3, v4, v5, _⟩ := cells6 (HKK.out (w4.alloc (.cells #[.int .u64 0, .slice none 0 0, .slice none 0 0, .int .u64 0, .int .u64 0, .slice none 0 0] 28)) (pb4.alloc pb4.size _)); have ps4 : w3.heap.size + 1 + 1 ≤ w4.heap.size := (by have h := pb.size; rw [World.size_alloc, World.size_alloc] at h; exact h); have zC : w4.heap[w3.heap.size]? = some (.cells #[.int .u64 0, .slice none 0 0, .slice none 0 0, .int .u64 0, .int .u64 0, .slice none 0 0] 28 (0, 0)) := (pb.block _ (by simp; omega)).trans ((Below.heap_alloc _ _ _ (by simp)).trans (heap_alloc_new w3 _)); have zD : w4.heap[w3.heap.size + 1]? = some (.cells #[.int .u64 0, .slice none 0 0, .slice none 0 0, .int .u64 0, .int .u64 0, .slice none 0 0] 28 (0, 0)) := (pb.block _ (by simp)).trans (by have := heap_alloc_new (w3.alloc (.cells #[.int .u64 0, .slice none 0 0, .slice none 0 0, .int .u64 0, .int .u64 0, .slice none 0 0] 28)) (.cells #[.int .u64 0, .slice none 0 0, .slice none 0 0, .int .u64 0, .int .u64 0, .slice none 0 0] 28); rw [World.size_alloc] at this; exact this); obtain ⟨tc0, tc1, tc2, tc3, tc4, tc5, tcz⟩ := cells6 zC; have tcz0 := tcz 0; have tcz1 := tcz 1; have tcz2 := tcz 2; have tcz3 := tcz 3; have tcz4 := tcz 4; have tcz5 := tcz 5; clear tcz; obtain ⟨td0, td1, td2, td3, td4, td5, tdz⟩ := cells6 zD; have tdz0 := tdz 0; have tdz1 := tdz 1; have tdz2 := tdz 2; have tdz3 := tdz 3; have tdz4 := tdz 4; have tdz5 := tdz 5; clear tdz; have po0 : OwR W1.heap.size w4 (.slice f1 s.length g1) (.slice f2 e.length g2) (.slice f3 ps.length g3) s e ps := po.mono ((y4.alloc y4.size (.cells #[.int .u64 0, .slice none 0 0, .slice none 0 0, .int .u64 0, .int .u64 0, .slice none 0 0] 28)).alloc (Nat.le_trans y4.size (by simp)) (.cells #[.int .u64 0, .slice none 0 0, .slice none 0 0, .int .u64 0, .int .u64 0, .slice none 0 0] 28)).size; have yo4 : OwR W1.heap.size w4 (.slice a1 s.length d1) (.slice a2 e.length d2) (.slice a3 ps.length d3) s e ps := ((yo0.below (g_al w3 _) (Nat.le_refl _)).below (g_al _ _) (Nat.le_refl _)).below pb (Nat.le_refl _); have pL : ∀ b, Bl (.slice f1 s.length g1) (.slice f2 e.length g2) (.slice f3 ps.length g3) b → w3.heap.size + 1 + 1 ≤ b ∧ b < w4.heap.size := (fun b q => ⟨Nat.le_trans (show w3.heap.size + 1 + 1 ≤ ((w3.alloc (.cells #[.int .u64 0, .slice none 0 0, .slice none 0 0, .int .u64 0, .int .u64 0, .slice none 0 0] 28)).alloc (.cells #[.int .u64 0, .slice none 0 0, .slice none 0 0, .int .u64 0, .int .u64 0, .slice none 0 0] 28)).heap.size from by simp) (po.lt q).1, (po.lt q).2⟩); have ne7a : ¬ w.heap.size = w4.heap.size := (by omega); have ne7b : ¬ w4.heap.size = w.heap.size := (by omega); have ne8a : ¬ w.heap.size = w4.heap.size + 1 := (by omega); have ne8b : ¬ w4.heap.size + 1 = w.heap.size := (by omega); (try (have ne9a : ¬ W1.heap.size = w4.heap.size := (by omega); have ne9b : ¬ w4.heap.size = W1.heap.size := (by omega))); (try (have ne10a : ¬ W1.heap.size = w4.heap.size + 1 := (by omega); have ne10b : ¬ w4.heap.size + 1 = W1.heap.size := (by omega))); (try (have ne11a : ¬ W1.heap.size + 1 = w4.heap.size := (by omega); have ne11b : ¬ w4.heap.size = W1.heap.size + 1 := (by omega))); (try (have ne12a : ¬ W1.heap.size + 1 = w4.heap.size + 1 := (by omega); have ne12b : ¬ w4.heap.size + 1 = W1.heap.size + 1 := (by omega))); (try (have ne13a : ¬ w3.heap.size = w4.heap.size := (by omega); have ne13b : ¬ w4.heap.size = w3.heap.size := (by omega))); (try (have ne14a : ¬ w3.heap.size = w4.heap.size + 1 := (by omega); have ne14b : ¬ w4.heap.size + 1 = w3.heap.size := (by omega))); (try (have ne15a : ¬ w3.heap.size + 1 = w4.heap.size := (by omega); have ne15b : ¬ w4.heap.size = w3.heap.size + 1 := (by omega))); (try (have ne16a : ¬ w3.heap.size + 1 = w4.heap.size + 1 := (by omega); have ne16b : ¬ w4.heap.size + 1 = w3.heap.size + 1 := (by omega))))
    | (go_at_call 61; refine (hcl2 _ (y4.alloc y4.size _)).mono ?_; rintro x w4 ⟨f1, g1, f2, g2, f3, g3, rfl, po, pb, pb4, r0, r1, r2, r3, r4, r5⟩; obtain ⟨v0, v1, v2, v3, v4, v5, _⟩ := cells6 (HKK.out (w4.alloc (.cells #[.int .u64 0, .slice none 0 0, .slice none 0 0, .int .u64 0, .int .u64 0, .slice none 0 0] 28)) (pb4.alloc pb4.size _)); have ps4 : w3.heap.size + 1 ≤ w4.heap.size := (by have h := pb.size; rw [World.size_alloc] at h; exact h); have zC : w4.heap[w3.heap.size]? = some (.cells #[.int .u64 0, .slice none 0 0, .slice none 0 0, .int .u64 0, .int .u64 0, .slice none 0 0] 28 (0, 0)) := (pb.block _ (by simp)).trans (heap_alloc_new w3 _); obtain ⟨tc0, tc1, tc2, tc3, tc4, tc5, tcz⟩ := cells6 zC; have tcz0 := tcz 0; have tcz1 := tcz 1; have tcz2 := tcz 2; have tcz3 := tcz 3; have tcz4 := tcz 4; have tcz5 := tcz 5; clear tcz; have zC5 : ∀ o, (w4.alloc o).heap[w3.heap.size]? = some (.cells #[.int .u64 0, .slice none 0 0, .slice none 0 0, .int .u64 0, .int .u64 0, .slice none 0 0] 28 (0, 0)) := fun o => (Below.heap_alloc _ _ _ (by omega)).trans zC; have uc0 := fun o => (cells6 (zC5 o)).1; have uc1 := fun o => (cells6 (zC5 o)).2.1; have uc2 := fun o => (cells6 (zC5 o)).2.2.1; have uc3 := fun o => (cells6 (zC5 o)).2.2.2.1; have uc4 := fun o => (cells6 (zC5 o)).2.2.2.2.1; have uc5 := fun o => (cells6 (zC5 o)).2.2.2.2.2.1; have ucz0 := fun o => (cells6 (zC5 o)).2.2.2.2.2.2 0; have ucz1 := fun o => (cells6 (zC5 o)).2.2.2.2.2.2 1; have ucz2 := fun o => (cells6 (zC5 o)).2.2.2.2.2.2 2; have ucz3 := fun o => (cells6 (zC5 o)).2.2.2.2.2.2 3; have ucz4 := fun o => (cells6 (zC5 o)).2.2.2.2.2.2 4; have ucz5 := fun o => (cells6 (zC5 o)).2.2.2.2.2.2 5; (try (have zA4 := (pb.block W1.heap.size (by simp; omega)).trans ((Below.heap_alloc _ _ _ (by omega)).trans zA); obtain ⟨ta0, ta1, ta2, ta3, ta4, ta5, taz⟩ := cells6 zA4; have taz0 := taz 0; have taz1 := taz 1; have taz2 := taz 2; have taz3 := taz 3; have taz4 := taz 4; have taz5 := taz 5; clear taz; skip)); have po0 : OwR W1.heap.size w4 (.slice f1 s.length g1) (.slice f2 e.length g2) (.slice f3 ps.length g3) s e ps := po.mono (y4.alloc y4.size (.cells #[.int .u64 0, .slice none 0 0, .slice none 0 0, .int .u64 0, .int .u64 0, .slice none 0 0] 28)).size; have yo4 : OwR W1.heap.size w4 (.slice a1 s.length d1) (.slice a2 e.length d2) (.slice a3 ps.length d3) s e ps := (yo0.below (g_al w3 _) (Nat.le_refl _)).below pb (Nat.le_refl _); have pL : ∀ b, Bl (.slice f1 s.length g1) (.slice f2 e.length g2) (.slice f3 ps.length g3) b → w3.heap.size + 1 ≤ b ∧ b < w4.heap.size := (fun b q => ⟨Nat.le_trans (show w3.heap.size + 1 ≤ (w3.alloc (.cells #[.int .u64 0, .slice none 0 0, .slice none 0 0, .int .u64 0, .int .u64 0, .slice none 0 0] 28)).heap.size from by simp) (po.lt q).1, (po.lt q).2⟩); have ne7a : ¬ w.heap.size = w4.heap.size := (by omega); have ne7b : ¬ w4.heap.size = w.heap.size := (by omega); have ne8a : ¬ w.heap.size = w4.heap.size + 1 := (by omega); have ne8b : ¬ w4.heap.size + 1 = w.heap.size := (by omega); (try (have ne9a : ¬ W1.heap.size = w4.heap.size := (by omega); have ne9b : ¬ w4.heap.size = W1.heap.size := (by omega))); (try (have ne10a : ¬ W1.heap.size = w4.heap.size + 1 := (by omega); have ne10b : ¬ w4.heap.size + 1 = W1.heap.size := (by omega))); (try (have ne11a : ¬ W1.heap.size + 1 = w4.heap.size := (by omega); have ne11b : ¬ w4.heap.size = W1.heap.size + 1 := (by omega))); (try (have ne12a : ¬ W1.heap.size + 1 = w4.heap.size + 1 := (by omega); have ne12b : ¬ w4.heap.size + 1 = W1.heap.size + 1 := (by omega))); (try (have ne13a : ¬ w3.heap.size = w4.heap.size := (by omega); have ne13b : ¬ w4.heap.size = w3.heap.size := (by omega))); (try (have ne14a : ¬ w3.heap.size = w4.heap.size + 1 := (by omega); have ne14b : ¬ w4.heap.size + 1 = w3.heap.size := (by omega))); (try (have ne15a : ¬ w3.heap.size + 1 = w4.heap.size := (by omega); have ne15b : ¬ w4.heap.size = w3.heap.size + 1 := (by omega))); (try (have ne16a : ¬ w3.heap.size + 1 = w4.heap.size + 1 := (by omega); have ne16b : ¬ w4.heap.size + 1 = w3.heap.size + 1 := (by omega))))
    | (go_at_call 61; refine (hcl2 _ y4).mono ?_; rintro x w4 ⟨f1, g1, f2, g2, f3, g3, rfl, po, pb, pb4, r0, r1, r2, r3, r4, r5⟩; obtain ⟨v0, v1, v2, v3, v4, v5, _⟩ := cells6 (HKK.out (w4.alloc (.cells #[.int .u64 0, .slice none 0 0, .slice none 0 0, .int .u64 0, .int .u64 0, .slice none 0 0] 28)) (pb4.alloc pb4.size _)); have ps4 := pb.size; (try (have zA4 := (pb.block W1.heap.size (by omega)).trans zA; obtain ⟨ta0, ta1, ta2, ta3, ta4, ta5, taz⟩ := cells6 zA4; have taz0 := taz 0; have taz1 := taz 1; have taz2 := taz 2; have taz3 := taz 3; have taz4 := taz 4; have taz5 := taz 5; clear taz; have zA5 : ∀ o, (w4.alloc o).heap[W1.heap.size]? = some (.cells #[.int .u64 0, .slice none 0 0, .slice none 0 0, .int .u64 0, .int .u64 0, .slice none 0 0] 28 (0, 0)) := fun o => (Below.heap_alloc _ _ _ (by omega)).trans zA4; have ua0 := fun o => (cells6 (zA5 o)).1; have ua1 := fun o => (cells6 (zA5 o)).2.1; have ua2 := fun o => (cells6 (zA5 o)).2.2.1; have ua3 := fun o => (cells6 (zA5 o)).2.2.2.1; have ua4 := fun o => (cells6 (zA5 o)).2.2.2.2.1; have ua5 := fun o => (cells6 (zA5 o)).2.2.2.2.2.1; have uaz0 := fun o => (cells6 (zA5 o)).2.2.2.2.2.2 0; have uaz1 := fun o => (cells6 (zA5 o)).2.2.2.2.2.2 1; have uaz2 := fun o => (cells6 (zA5 o)).2.2.2.2.2.2 2; have uaz3 := fun o => (cells6 (zA5 o)).2.2.2.2.2.2 3; have uaz4 := fun o => (cells6 (zA5 o)).2.2.2.2.2.2 4; have uaz5 := fun o => (cells6 (zA5 o)).2.2.2.2.2.2 5; skip)); (try (have zB4 := (pb.block (W1.heap.size + 1) (by omega)).trans zB; obtain ⟨tb0, tb1, tb2, tb3, tb4, tb5, tbz⟩ := cells6 zB4; have tbz0 := tbz 0; have tbz1 := tbz 1; have tbz2 := tbz 2; have tbz3 := tbz 3; have tbz4 := tbz 4; have tbz5 := tbz 5; clear tbz; skip)); have po0 : OwR W1.heap.size w4 (.slice f1 s.length g1) (.slice f2 e.length g2) (.slice f3 ps.length g3) s e ps := po.mono y4.size; have yo4 : OwR W1.heap.size w4 (.slice a1 s.length d1) (.slice a2 e.length d2) (.slice a3 ps.length d3) s e ps := yo0.below pb (Nat.le_refl _); have pL : ∀ b, Bl (.slice f1 s.length g1) (.slice f2 e.length g2) (.slice f3 ps.length g3) b → w3.heap.size ≤ b ∧ b < w4.heap.size := (fun b q => ⟨Nat.le_trans (show w3.heap.size ≤ w3.heap.size from by exact Nat.le_refl _) (po.lt q).1, (po.lt q).2⟩); have ne7a : ¬ w.heap.size = w4.heap.size := (by omega); have ne7b : ¬ w4.heap.size = w.heap.size := (by omega); have ne8a : ¬ w.heap.size = w4.heap.size + 1 := (by omega); have ne8b : ¬ w4.heap.size + 1 = w.heap.size := (by omega); (try (have ne9a : ¬ W1.heap.size = w4.heap.size := (by omega); have ne9b : ¬ w4.heap.size = W1.heap.size := (by omega))); (try (have ne10a : ¬ W1.heap.size = w4.heap.size + 1 := (by omega); have ne10b : ¬ w4.heap.size + 1 = W1.heap.size := (by omega))); (try (have ne11a : ¬ W1.heap.size + 1 = w4.heap.size := (by omega); have ne11b : ¬ w4.heap.size = W1.heap.size + 1 := (by omega))); (try (have ne12a : ¬ W1.heap.size + 1 = w4.heap.size + 1 := (by omega); have ne12b : ¬ w4.heap.size + 1 = W1.heap.size + 1 := (by omega))); (try (have ne13a : ¬ w3.heap.size = w4.heap.size := (by omega); have ne13b : ¬ w4.heap.size = w3.heap.size := (by omega))); (try (have ne14a : ¬ w3.heap.size = w4.heap.size + 1 := (by omega); have ne14b : ¬ w4.heap.size + 1 = w3.heap.size := (by omega))); (try (have ne15a : ¬ w3.heap.size + 1 = w4.heap.size := (by omega); have ne15b : ¬ w4.heap.size = w3.heap.size + 1 := (by omega))); (try (have ne16a : ¬ w3.heap.size + 1 = w4.heap.size + 1 := (by omega); have ne16b : ¬ w4.heap.size + 1 = w3.heap.size + 1 := (by omega))))
    | (go_at_call 61; refine (hcl2 _ hA2).mono ?_; rintro x w3 ⟨a1, d1, a2, d2, a3, d3, rfl, yo, yb, y4, q0, q1, q2, q3, q4, q5⟩; have ys : W1.heap.size + 1 + 1 ≤ w3.heap.size := (by have h : ((W1.alloc (.cells #[.int .u64 0, .slice none 0 0, .slice none 0 0, .int .u64 0, .int .u64 0, .slice none 0 0] 28)).alloc (.cells #[.int .u64 0, .slice none 0 0, .slice none 0 0, .int .u64 0, .int .u64 0, .slice none 0 0] 28)).heap.size ≤ w3.heap.size := yb.size; rw [World.size_alloc, World.size_alloc] at h; exact h); have zA : w3.heap[W1.heap.size]? = some (.cells #[.int .u64 0, .slice none 0 0, .slice none 0 0, .int .u64 0, .int .u64 0, .slice none 0 0] 28 (0, 0)) := (yb.block W1.heap.size (show W1.heap.size < ((W1.alloc (.cells #[.int .u64 0, .slice none 0 0, .slice none 0 0, .int .u64 0, .int .u64 0, .slice none 0 0] 28)).alloc (.cells #[.int .u64 0, .slice none 0 0, .slice none 0 0, .int .u64 0, .int .u64 0, .slice none 0 0] 28)).heap.size from by rw [World.size_alloc, World.size_alloc]; omega)).trans ((show ((W1.alloc (.cells #[.int .u64 0, .slice none 0 0, .slice none 0 0, .int .u64 0, .int .u64 0, .slice none 0 0] 28)).alloc (.cells #[.int .u64 0, .slice none 0 0, .slice none 0 0, .int .u64 0, .int .u64 0, .slice none 0 0] 28)).heap[W1.heap.size]? = (W1.alloc (.cells #[.int .u64 0, .slice none 0 0, .slice none 0 0, .int .u64 0, .int .u64 0, .slice none 0 0] 28)).heap[W1.heap.size]? from Below.heap_alloc _ _ _ (by rw [World.size_alloc]; omega)).trans (heap_alloc_new W1 _)); have zB : w3.heap[W1.heap.size + 1]? = some (.cells #[.int .u64 0, .slice none 0 0, .slice none 0 0, .int .u64 0, .int .u64 0, .slice none 0 0] 28 (0, 0)) := (yb.block (W1.heap.size + 1) (show W1.heap.size + 1 < ((W1.alloc (.cells #[.int .u64 0, .slice none 0 0, .slice none 0 0, .int .u64 0, .int .u64 0, .slice none 0 0] 28)).alloc (.cells #[.int .u64 0, .slice none 0 0, .slice none 0 0, .int .u64 0, .int .u64 0, .slice none 0 0] 28)).heap.size from by rw [World.size_alloc, World.size_alloc]; omega)).trans (show ((W1.alloc (.cells #[.int .u64 0, .slice none 0 0, .slice none 0 0, .int .u64 0, .int .u64 0, .slice none 0 0] 28)).alloc (.cells #[.int .u64 0, .slice none 0 0, .slice none 0 0, .int .u64 0, .int .u64 0, .slice none 0 0] 28)).heap[W1.heap.size + 1]? = _ from by have := heap_alloc_new (W1.alloc (.cells #[.int .u64 0, .slice none 0 0, .slice none 0 0, .int .u64 0, .int .u64 0, .slice none 0 0] 28)) (.cells #[.int .u64 0, .slice none 0 0, .slice none 0 0, .int .u64 0, .int .u64 0, .slice none 0 0] 28); rw [World.size_alloc] at this; exact this); have yo0 : OwR W1.heap.size w3 (.slice a1 s.length d1) (.slice a2 e.length d2) (.slice a3 ps.length d3) s e ps := yo.mono hA2.size; have yL : ∀ b, Bl (.slice a1 s.length d1) (.slice a2 e.length d2) (.slice a3 ps.length d3) b → W1.heap.size + 1 + 1 ≤ b ∧ b < w3.heap.size := (fun b q => ⟨Nat.le_trans (show W1.heap.size + 1 + 1 ≤ ((W1.alloc (.cells #[.int .u64 0, .slice none 0 0, .slice none 0 0, .int .u64 0, .int .u64 0, .slice none 0 0] 28)).alloc (.cells #[.int .u64 0, .slice none 0 0, .slice none 0 0, .int .u64 0, .int .u64 0, .slice none 0 0] 28)).heap.size from by simp) (yo.lt q).1, (yo.lt q).2⟩); (try (have ne1a : ¬ w.heap.size = w3.heap.size := (by omega); have ne1b : ¬ w3.heap.size = w.heap.size := (by omega))); (try (have ne2a : ¬ w.heap.size = w3.heap.size + 1 := (by omega); have ne2b : ¬ w3.heap.size + 1 = w.heap.size := (by omega))); (try (have ne3a : ¬ W1.heap.size = w3.heap.size := (by omega); have ne3b : ¬ w3.heap.size = W1.heap.size := (by omega))); (try (have ne4a : ¬ W1.heap.size = w3.heap.size + 1 := (by omega); have ne4b : ¬ w3.heap.size + 1 = W1.heap.size := (by omega))); (try (have ne5a : ¬ W1.heap.size + 1 = w3.heap.size := (by omega); have ne5b : ¬ w3.heap.size = W1.heap.size + 1 := (by omega))); (try (have ne6a : ¬ W1.heap.size + 1 = w3.heap.size + 1 := (by omega); have ne6b : ¬ w3.heap.size + 1 = W1.heap.size + 1 := (by omega))))
    | (go_at_call 61; refine (hcl2 _ hA1).mono ?_; rintro x w3 ⟨a1, d1, a2, d2, a3, d3, rfl, yo, yb, y4, q0, q1, q2, q3, q4, q5⟩; have ys : W1.heap.size + 1 ≤ w3.heap.size := (by have h : (W1.alloc (.cells #[.int .u64 0, .slice none 0 0, .slice none 0 0, .int .u64 0, .int .u64 0, .slice none 0 0] 28)).heap.size ≤ w3.heap.size := yb.size; rw [World.size_alloc] at h; exact h); have zA : w3.heap[W1.heap.size]? = some (.cells #[.int .u64 0, .slice none 0 0, .slice none 0 0, .int .u64 0, .int .u64 0, .slice none 0 0] 28 (0, 0)) := (yb.block W1.heap.size (show W1.heap.size < (W1.alloc (.cells #[.int .u64 0, .slice none 0 0, .slice none 0 0, .int .u64 0, .int .u64 0, .slice none 0 0] 28)).heap.size from by rw [World.size_alloc]; omega)).trans (heap_alloc_new W1 _); have yo0 : OwR W1.heap.size w3 (.slice a1 s.length d1) (.slice a2 e.length d2) (.slice a3 ps.length d3) s e ps := yo.mono hA1.size; have yL : ∀ b, Bl (.slice a1 s.length d1) (.slice a2 e.length d2) (.slice a3 ps.length d3) b → W1.heap.size + 1 ≤ b ∧ b < w3.heap.size := (fun b q => ⟨Nat.le_trans (show W1.heap.size + 1 ≤ (W1.alloc (.cells #[.int .u64 0, .slice none 0 0, .slice none 0 0, .int .u64 0, .int .u64 0, .slice none 0 0] 28)).heap.size from by simp) (yo.lt q).1, (yo.lt q).2⟩); (try (have ne1a : ¬ w.heap.size = w3.heap.size := (by omega); have ne1b : ¬ w3.heap.size = w.heap.size := (by omega))); (try (have ne2a : ¬ w.heap.size = w3.heap.size + 1 := (by omega); have ne2b : ¬ w3.heap.size + 1 = w.heap.size := (by omega))); (try (have ne3a : ¬ W1.heap.size = w3.heap.size := (by omega); have ne3b : ¬ w3.heap.size = W1.heap.size := (by omega))); (try (have ne4a : ¬ W1.heap.size = w3.heap.size + 1 := (by omega); have ne4b : ¬ w3.heap.size + 1 = W1.heap.size := (by omega))); (try (have ne5a : ¬ W1.heap.size + 1 = w3.heap.size := (by omega); have ne5b : ¬ w3.heap.size = W1.heap.size + 1 := (by omega))); (try (have ne6a : ¬ W1.heap.size + 1 = w3.heap.size + 1 := (by omega); have ne6b : ¬ w3.heap.size + 1 = W1.heap.size + 1 := (by omega))))
    | (go_at_call 61; refine (hcl2 _ hD0).mono ?_; rintro x w3 ⟨a1, d1, a2, d2, a3, d3, rfl, yo, yb, y4, q0, q1, q2, q3, q4, q5⟩; have ys : W1.heap.size ≤ w3.heap.size := y4.size; have yo0 : OwR W1.heap.size w3 (.slice a1 s.length d1) (.slice a2 e.length d2) (.slice a3 ps.length d3) s e ps := yo.mono hD0.size; have yL : ∀ b, Bl (.slice a1 s.length d1) (.slice a2 e.length d2) (.slice a3 ps.length d3) b → W1.heap.size ≤ b ∧ b < w3.heap.size := (fun b q => ⟨Nat.le_trans (show W1.heap.size ≤ W1.heap.size from by exact Nat.le_refl _) (yo.lt q).1, (yo.lt q).2⟩); (try (have ne1a : ¬ w.heap.size = w3.heap.size := (by omega); have ne1b : ¬ w3.heap.size = w.heap.size := (by omega))); (try (have ne2a : ¬ w.heap.size = w3.heap.size + 1 := (by omega); have ne2b : ¬ w3.heap.size + 1 = w.heap.size := (by omega))); (try (have ne3a : ¬ W1.heap.size = w3.heap.size := (by omega); have ne3b : ¬ w3.heap.size = W1.heap.size := (by omega))); (try (have ne4a : ¬ W1.heap.size = w3.heap.size + 1 := (by omega); have ne4b : ¬ w3.heap.size + 1 = W1.heap.size := (by omega))); (try (have ne5a : ¬ W1.heap.size + 1 = w3.heap.size := (by omega); have ne5b : ¬ w3.heap.size = W1.heap.size + 1 := (by omega))); (try (have ne6a : ¬ W1.heap.size + 1 = w3.heap.size + 1 := (by omega); have ne6b : ¬ w3.heap.size + 1 = W1.heap.size + 1 := (by omega))))
    | fail)
    · go_wp2_with fail
      go_meet
      exact ⟨w4.heap.size, w4.heap.size + 1, Value.slice a1 s.length d1, Value.slice a2 e.length d2, Value.slice a3 ps.length d3, Value.slice f1 s.length g1, Value.slice f2 e.length g2, Value.slice f3 ps.length g3, rfl, rfl, Sp5.fD yo4 po0 (Nat.le_refl _) (Nat.le_refl _) (fun b q r => by have := yL b q; have := pL b r; omega) pb4⟩
    · go_wp2_with fail
      go_meet
      exact ⟨w4.heap.size + 1, w4.heap.size, Value.slice a1 s.length d1, Value.slice a2 e.length d2, Value.slice a3 ps.length d3, Value.slice f1 s.length g1, Value.slice f2 e.length g2, Value.slice f3 ps.length g3, rfl, rfl, Sp5.fE yo4 po0 (Nat.le_refl _) (Nat.le_refl _) (fun b q r => by have := yL b q; have := pL b r; omega) pb4⟩
    · go_wp2_with fail
      go_meet
      exact ⟨w3.heap.size, w4.heap.size, Value.slice a1 s.length d1, Value.slice a2 e.length d2, Value.slice a3 ps.length d3, Value.slice f1 s.length g1, Value.slice f2 e.length g2, Value.slice f3 ps.length g3, rfl, rfl, Sp5.fB zC yo4 po0 (Nat.le_refl _) (Nat.le_refl _) (fun b q => ⟨by have := yL b q; omega, fun r => by have := yL b q; have := pL b r; omega⟩) (fun b r => by have := pL b r; omega) (by omega) pb4⟩
    · go_wp2_with fail
      go_meet
      exact ⟨w3.heap.size, w3.heap.size + 1, Value.slice a1 s.length d1, Value.slice a2 e.length d2, Value.slice a3 ps.length d3, Value.slice f1 s.length g1, Value.slice f2 e.length g2, Value.slice f3 ps.length g3, rfl, rfl, Sp5.fA zC zD yo4 po0 (Nat.le_refl _) (Nat.le_refl _) (by omega) (fun b q => ⟨by have := yL b q; omega, by have := yL b q; omega, fun r => by have := yL b q; have := pL b r; omega⟩) (fun b r => ⟨by have := pL b r; omega, by have := pL b r; omega⟩) (by omega) (by omega) pb4⟩
    · go_wp2_with fail
      go_meet
      exact ⟨w4.heap.size, w3.heap.size, Value.slice a1 s.length d1, Value.slice a2 e.length d2, Value.slice a3 ps.length d3, Value.slice f1 s.length g1, Value.slice f2 e.length g2, Value.slice f3 ps.length g3, rfl, rfl, Sp5.fC zC yo4 po0 (Nat.le_refl _) (Nat.le_refl _) (fun b q => ⟨by have := yL b q; omega, fun r => by have := yL b q; have := pL b r; omega⟩) (fun b r => by have := pL b r; omega) (by omega) pb4⟩
    · go_wp2_with fail
      go_meet
      exact ⟨w3.heap.size + 1, w3.heap.size, Value.slice a1 s.length d1, Value.slice a2 e.length d2, Value.slice a3 ps.length d3, Value.slice f1 s.length g1, Value.slice f2 e.length g2, Value.slice f3 ps.length g3, rfl, rfl, Sp5.fA zD zC yo4 po0 (Nat.le_refl _) (Nat.le_refl _) (by omega) (fun b q => ⟨by have := yL b q; omega, by have := yL b q; omega, fun r => by have := yL b q; have := pL b r; omega⟩) (fun b r => ⟨by have := pL b r; omega, by have := pL b r; omega⟩) (by omega) (by omega) pb4⟩
    · go_wp2_with fail
      go_meet
      exact ⟨W1.heap.size, w4.heap.size, Value.slice a1 s.length d1, Value.slice a2 e.length d2, Value.slice a3 ps.length d3, Value.slice f1 s.length g1, Value.slice f2 e.length g2, Value.slice f3 ps.length g3, rfl, rfl, Sp5.fB zA4 yo4 po0 (Nat.le_refl _) (Nat.le_refl _) (fun b q => ⟨by have := yL b q; omega, fun r => by have := yL b q; have := pL b r; omega⟩) (fun b r => by have := pL b r; omega) (by omega) pb4⟩
    · go_wp2_with fail
      go_meet
      exact ⟨W1.heap.size, w3.heap.size, Value.slice a1 s.length d1, Value.slice a2 e.length d2, Value.slice a3 ps.length d3, Value.slice f1 s.length g1, Value.slice f2 e.length g2, Value.slice f3 ps.length g3, rfl, rfl, Sp5.fA zA4 zC yo4 po0 (Nat.le_refl _) (Nat.le_refl _) (by omega) (fun b q => ⟨by have := yL b q; omega, by have := yL b q; omega, fun r => by have := yL b q; have := pL b r; omega⟩) (fun b r => ⟨by have := pL b r; omega, by have := pL b r; omega⟩) (by omega) (by omega) pb4⟩
    · go_wp2_with fail
      go_meet
      exact ⟨W1.heap.size, W1.heap.size + 1, Value.slice a1 s.length d1, Value.slice a2 e.length d2, Value.slice a3 ps.length d3, Value.slice f1 s.length g1, Value.slice f2 e.length g2, Value.slice f3 ps.length g3, rfl, rfl, Sp5.fA zA4 zB4 yo4 po0 (Nat.le_refl _) (Nat.le_refl _) (by omega) (fun b q => ⟨by have := yL b q; omega, by have := yL b q; omega, fun r => by have := yL b q; have := pL b r; omega⟩) (fun b r => ⟨by have := pL b r; omega, by have := pL b r; omega⟩) (by omega) (by omega) pb4⟩
    · go_wp2_with fail
      go_meet
      exact ⟨w4.heap.size, W1.heap.size, Value.slice a1 s.length d1, Value.slice a2 e.length d2, Value.slice a3 ps.length d3, Value.slice f1 s.length g1, Value.slice f2 e.length g2, Value.slice f3 ps.length g3, rfl, rfl, Sp5.fC zA4 yo4 po0 (Nat.le_refl _) (Nat.le_refl _) (fun b q => ⟨by have := yL b q; omega, fun r => by have := yL b q; have := pL b r; omega⟩) (fun b r => by have := pL b r; omega) (by omega) pb4⟩
    · go_wp2_with fail
      go_meet
      exact ⟨w3.heap.size, W1.heap.size, Value.slice a1 s.length d1, Value.slice a2 e.length d2, Value.slice a3 ps.length d3, Value.slice f1 s.length g1, Value.slice f2 e.length g2, Value.slice f3 ps.length g3, rfl, rfl, Sp5.fA zC zA4 yo4 po0 (Nat.le_refl _) (Nat.le_refl _) (by omega) (fun b q => ⟨by have := yL b q; omega, by have := yL b q; omega, fun r => by have := yL b q; have := pL b r; omega⟩) (fun b r => ⟨by have := pL b r; omega, by have := pL b r; omega⟩) (by omega) (by omega) pb4⟩
    · go_wp2_with fail
      go_meet
      exact ⟨W1.heap.size + 1, W1.heap.size, Value.slice a1 s.length d1, Value.slice a2 e.length d2, Value.slice a3 ps.length d3, Value.slice f1 s.length g1, Value.slice f2 e.length g2, Value.slice f3 ps.length g3, rfl, rfl, Sp5.fA zB4 zA4 yo4 po0 (Nat.le_refl _) (Nat.le_refl _) (by omega) (fun b q => ⟨by have := yL b q; omega, by have := yL b q; omega, fun r => by have := yL b q; have := pL b r; omega⟩) (fun b r => ⟨by have := pL b r; omega, by have := pL b r; omega⟩) (by omega) (by omega) pb4⟩
  case rest =>
    obtain ⟨gl, gh, u, v, x, u2, v2, x2, rfl, rfl, hS⟩ := hcut
    have hbw : Below w.heap.size w wc := hC1.trans (hS.be.mono hC1.size)
    have hsz := hS.be.size
    have r1c : wc.heap[w.heap.size + 1]? = some zeroC := (hS.be.block _ (by omega)).trans hp1
    have r2c : wc.heap[w.heap.size + 1 + 1]? = some zeroC := (hS.be.block _ (by omega)).trans hp2
    obtain ⟨ua, uc, rfl⟩ := hS.o1.s.shp
    obtain ⟨va, vc, rfl⟩ := hS.o1.e.shp
    obtain ⟨xa, xc, rfl⟩ := hS.o1.p.shape
    obtain ⟨ua2, uc2, rfl⟩ := hS.o2.s.shp
    obtain ⟨va2, vc2, rfl⟩ := hS.o2.e.shp
    obtain ⟨xa2, xc2, rfl⟩ := hS.o2.p.shape
    have hg1 := hS.g1
    have hg2 := hS.g2
    have hne1 : ¬ gl = gh := hS.ne
    have hne2 : ¬ gh = gl := fun q => hS.ne q.symm
    have hk5 := clone_any (HRS.out.2.2.2.1.below hbw (Nat.le_refl _)) (by omega)
    have HS : Hid (Sp5 W1 (id.toNat : Int) cf ((vr.toNat : Int) + 1) s e ps gl gh (.slice ua s.length uc) (.slice va e.length vc) (.slice xa ps.length xc) (.slice ua2 s.length uc2) (.slice va2 e.length vc2) (.slice xa2 ps.length xc2) wc) := hS
    clear hS c0 c1 c2 c3 c4 c5 hD0 HKK hcl2 hcl hcs hA1 hA2 nw1 nw2 nw3 nw4 hq1 hp1 hp2
    go_wp2_with fail
    refine hk5.mono ?_
    rintro y w5 ⟨kv1, rfl, ok1, b5⟩
    obtain ⟨ka1, kc1, rfl⟩ := ok1.shp
    have hs5 := b5.size
    have bl5 := (b5.block _ (lt_of_some HS.out.bl)).trans HS.out.bl
    have bh5 := (b5.block _ (lt_of_some HS.out.bh)).trans HS.out.bh
    have r15 := (b5.block _ (lt_of_some r1c)).trans r1c
    have r25 := (b5.block _ (lt_of_some r2c)).trans r2c
    have hll := lt_of_some HS.out.bl
    have hlh := lt_of_some HS.out.bh
    obtain ⟨l0, l1, l2, l3, l4, l5, lz⟩ := cells6 bl5
    obtain ⟨m0, m1, m2, m3, m4, m5, mz⟩ := cells6 bh5
    have lz2 := lz 2
    have mz0 := mz 0
    have c6 : Chg (fun b => b = gl ∨ b = gh) w5 ((w5.setCell ⟨gl, 2, none⟩ (.slice ka1 k.length kc1)).setCell ⟨gh, 0, none⟩ (.int .u64 (nid.toNat : Int))) := (((Chg.refl (fun b => b = gl ∨ b = gh) w5).put gl 2 _ (.inl rfl)).put gh 0 _ (.inr rfl))
    have bl6a : (w5.setCell ⟨gl, 2, none⟩ (.slice ka1 k.length kc1)).heap[gl]? = some (rgC (id.toNat : Int) cf ((vr.toNat : Int) + 1) (.slice ua s.length uc) (.slice ka1 k.length kc1) (.slice xa ps.length xc)) := put1_block bl5 _
    have bl6 : ((w5.setCell ⟨gl, 2, none⟩ (.slice ka1 k.length kc1)).setCell ⟨gh, 0, none⟩ (.int .u64 (nid.toNat : Int))).heap[gl]? = some (rgC (id.toNat : Int) cf ((vr.toNat : Int) + 1) (.slice ua s.length uc) (.slice ka1 k.length kc1) (.slice xa ps.length xc)) := ((put1_chg _ gh 0 _).block _ (lt_of_some bl6a) hne1).trans bl6a
    have bh6 : ((w5.setCell ⟨gl, 2, none⟩ (.slice ka1 k.length kc1)).setCell ⟨gh, 0, none⟩ (.int .u64 (nid.toNat : Int))).heap[gh]? = some (rgC (nid.toNat : Int) cf ((vr.toNat : Int) + 1) (.slice ua2 s.length uc2) (.slice va2 e.length vc2) (.slice xa2 ps.length xc2)) := put1_block (((put1_chg w5 gl 2 _).block _ (by omega) hne2).trans bh5) _
    have r16 := (c6.block _ (lt_of_some r15) (by omega)).trans r15
    have r26 := (c6.block _ (lt_of_some r25) (by omega)).trans r25
    have hb56 : Below w.heap.size w ((w5.setCell ⟨gl, 2, none⟩ (.slice ka1 k.length kc1)).setCell ⟨gh, 0, none⟩ (.int .u64 (nid.toNat : Int))) := (hbw.trans (b5.mono hbw.size)).trans (c6.below (fun b q => by omega) (by omega))
    have ok6 : Ow wc.heap.size ((w5.setCell ⟨gl, 2, none⟩ (.slice ka1 k.length kc1)).setCell ⟨gh, 0, none⟩ (.int .u64 (nid.toNat : Int))) (.slice ka1 k.length kc1) k := ok1.keptC c6 (fun b q r => by have := (ok1.lt0 b q).1; omega)
    have o16 := (HS.out.o1.below b5 (Nat.le_refl _)).keptB c6 (fun b q r => by have := HS.out.n1 b q; omega)
    have o26 := (HS.out.o2.below b5 (Nat.le_refl _)).keptB c6 (fun b q r => by have := HS.out.n2 b q; omega)
    have hs6 : w5.heap.size ≤ ((w5.setCell ⟨gl, 2, none⟩ (.slice ka1 k.length kc1)).setCell ⟨gh, 0, none⟩ (.int .u64 (nid.toNat : Int))).heap.size := c6.size
    clear lz mz hk5 c6 bl6a ok1 r15 r25 bl5 bh5 r1c r2c
    go_wp2_with fail
    clear l0 l1 l2 l3 l4 l5 m0 m1 m2 m3 m4 m5 lz2 mz0
    generalize ((w5.setCell ⟨gl, 2, none⟩ (.slice ka1 k.length kc1)).setCell ⟨gh, 0, none⟩ (.int .u64 (nid.toNat : Int))) = W6 at *
    refine (clone_any (HRS.out.2.2.2.1.below hb56 (Nat.le_refl _)) (by omega)).mono ?_
    rintro y w7 ⟨kv2, rfl, ok2, b7⟩
    obtain ⟨ka2, kc2, rfl⟩ := ok2.shp
    have hs7 := b7.size
    have bl7 := (b7.block _ (lt_of_some bl6)).trans bl6
    have bh7 := (b7.block _ (lt_of_some bh6)).trans bh6
    have r17 := (b7.block _ (lt_of_some r16)).trans r16
    have r27 := (b7.block _ (lt_of_some r26)).trans r26
    obtain ⟨m0, m1, m2, m3, m4, m5, mz⟩ := cells6 bh7
    have mz1 := mz 1
    have c8 := put1_chg w7 gh 1 (.slice ka2 k.length kc2)
    have bh8 : (w7.setCell ⟨gh, 1, none⟩ (.slice ka2 k.length kc2)).heap[gh]? = some (rgC (nid.toNat : Int) cf ((vr.toNat : Int) + 1) (.slice ka2 k.length kc2) (.slice va2 e.length vc2) (.slice xa2 ps.length xc2)) := put1_block bh7 _
    have bl8 := (c8.block _ (lt_of_some bl7) hne1).trans bl7
    have r18 := (c8.block _ (lt_of_some r17) (by omega)).trans r17
    have r28 := (c8.block _ (lt_of_some r27) (by omega)).trans r27
    have hb8 : Below w.heap.size w (w7.setCell ⟨gh, 1, none⟩ (.slice ka2 k.length kc2)) := (hb56.trans (b7.mono hb56.size)).trans (c8.below (fun b q => by omega) (by omega))
    have ok8 : Ow wc.heap.size (w7.setCell ⟨gh, 1, none⟩ (.slice ka2 k.length kc2)) (.slice ka1 k.length kc1) k := (ok6.below b7 (Nat.le_refl _)).keptC c8 (fun b q r => by have := (ok6.lt0 b q).1; omega)
    have okb8 : Ow W6.heap.size (w7.setCell ⟨gh, 1, none⟩ (.slice ka2 k.length kc2)) (.slice ka2 k.length kc2) k := ok2.keptC c8 (fun b q r => by have := (ok2.lt0 b q).1; omega)
    have o18 := (o16.below b7 (Nat.le_refl _)).keptB c8 (fun b q r => by have := HS.out.n1 b q; omega)
    have o28 := (o26.below b7 (Nat.le_refl _)).keptB c8 (fun b q r => by have := HS.out.n2 b q; omega)
    have old1 : ∀ b, Bl (.slice ua s.length uc) (.slice va e.length vc) (.slice xa ps.length xc) b → b < wc.heap.size := fun b q => (HS.out.o1.lt q).2
    have old2 : ∀ b, Bl (.slice ua2 s.length uc2) (.slice va2 e.length vc2) (.slice xa2 ps.length xc2) b → b < wc.heap.size := fun b q => (HS.out.o2.lt q).2
    have hk1l : ∀ b, (Value.slice ka1 k.length kc1).ownBlock = some b → wc.heap.size ≤ b ∧ b < W6.heap.size := fun b q => ok6.lt0 b q
    have hk2l : ∀ b, (Value.slice ka2 k.length kc2).ownBlock = some b → W6.heap.size ≤ b := fun b q => (ok2.lt0 b q).1
    have O1 : OwR W1.heap.size (w7.setCell ⟨gh, 1, none⟩ (.slice ka2 k.length kc2)) (.slice ua s.length uc) (.slice ka1 k.length kc1) (.slice xa ps.length xc) s k ps := ⟨o18.s, ok8.mono hsz, o18.p, fun b q r => by have := old1 b (.inl q); have := hk1l b r; omega, o18.sp, fun b q r => by have := old1 b (.inr (.inr r)); have := hk1l b q; omega⟩
    have O2 : OwR W1.heap.size (w7.setCell ⟨gh, 1, none⟩ (.slice ka2 k.length kc2)) (.slice ka2 k.length kc2) (.slice va2 e.length vc2) (.slice xa2 ps.length xc2) k e ps := ⟨okb8.mono (by omega), o28.e, o28.p, fun b q r => by have := old2 b (.inr (.inl r)); have := hk2l b q; omega, fun b q r => by have := old2 b (.inr (.inr r)); have := hk2l b q; omega, o28.ep⟩
    have AP : Hid (∀ b, (Value.slice xa2 ps.length xc2).ownBlock = some b → W1.heap.size ≤ b ∧ b ≠ gl ∧ b ≠ gh ∧ ¬ Bl (.slice ua s.length uc) (.slice ka1 k.length kc1) (.slice xa ps.length xc) b) := fun b q => by
      have h2 := HS.out.n2 b (.inr (.inr q))
      refine ⟨(HS.out.o2.lt (.inr (.inr q))).1, h2.1, h2.2, fun r => ?_⟩
      rcases r with r | r | r
      · exact (HS.out.n1 b (.inl r)).2.2 (.inr (.inr q))
      · have := hk1l b r; have := old2 b (.inr (.inr q)); omega
      · exact (HS.out.n1 b (.inr (.inr r))).2.2 (.inr (.inr q))
    have HW : Hid _ := And.intro O1 (And.intro O2 (And.intro bl8 (And.intro bh8 (And.intro r18 (And.intro r28 hb8)))))
    have hs8 : w7.heap.size ≤ (w7.setCell ⟨gh, 1, none⟩ (.slice ka2 k.length kc2)).heap.size := c8.size
    clear mz c8 ok6 ok2 o16 o26 o18 o28 okb8 ok8 old1 old2 hk1l hk2l r16 r26 r17 r27 bl6 bh6 bl7 bh7 hb56 O1 O2 bl8 bh8 r18 r28 hb8 b5 b7
    go_wp2_with fail
    clear m0 m1 m2 m3 m4 m5 mz1
    generalize (w7.setCell ⟨gh, 1, none⟩ (.slice ka2 k.length kc2)) = W8 at *
    go_loopw [14, 15, 46] (fun _ _ i wr => ∃ j : Nat, i = .int .i64 (j : Int) ∧ j ≤ ps.length ∧ OwPe W1.heap.size wr (.slice xa2 ps.length xc2) (mixP ps L j) ∧ Chg (fun b => (Value.slice xa2 ps.length xc2).ownBlock = some b) W8 wr) (fun _ _ i _ => ps.length - (intOf i).toNat)
    case atStart => exact ⟨0, rfl, Nat.zero_le _, by rw [mixP_zero]; exact HW.out.2.1.p, Chg.refl _ _⟩
    case round =>
      obtain ⟨j, rfl, hj, hO, hCh⟩ := hrel
      have hW8 := HW.out.2.2.2.2.2.2.size
      have hbr : Below w.heap.size w wr := HW.out.2.2.2.2.2.2.trans (hCh.below (fun b q => by have := AP.out b q; omega) hW8)
      have hll2 := lt_of_some HW.out.2.2.1
      have hlh2 := lt_of_some HW.out.2.2.2.1
      have bhr := (hCh.block gh hlh2 (fun q => (AP.out gh q).2.2.1 rfl)).trans HW.out.2.2.2.1
      by_cases hlt : j < L.length
      · have hjp : j < ps.length := by have := HLP.out; omega
        obtain ⟨p, hp⟩ : ∃ p, ps[j]? = some p := ⟨_, List.getElem?_eq_getElem hjp⟩
        obtain ⟨m, hm⟩ : ∃ m, L[j]? = some m := ⟨_, List.getElem?_eq_getElem hlt⟩
        obtain ⟨la', lc', e1, _, _, _, hlc⟩ := HRS.out.2.2.2.2.below hbr (Nat.le_refl _)
        simp only [Value.slice.injEq, true_and] at e1
        obtain ⟨rfl, rfl⟩ := e1
        obtain ⟨a, rfl, hLc⟩ := hlc j hlt
        have hmL : L[j] = m := by rw [List.getElem?_eq_getElem hlt] at hm; exact Option.some.inj hm
        rw [hmL] at hLc
        obtain ⟨a3, c3, hv, _, _, _, q4⟩ := row_reads hO
        simp only [Value.slice.injEq] at hv
        obtain ⟨ea3, _, _⟩ := hv
        obtain ⟨gp, e4, hcell⟩ := q4 (j * 3) (.int .u64 (p.1.toNat : Int)) (by have := fm_at pc_len (mixP ps L j) j 0 p (mixP_at ps L j HLP.out p hp) (by omega); simpa [pcs, pc] using this)
        rw [← ea3] at e4
        subst e4
        have hfz := row_frozP hO (j * 3)
        obtain ⟨_, _, _, _, _, h5, _⟩ := cells6 bhr
        have hO2 := hO.num (mixP_at ps L j HLP.out p hp) m
        rw [mixP_step ps L j HLP.out p m hp hm] at hO2
        have hC2 : Chg (fun b => (Value.slice (some ⟨gp, 0, none⟩) ps.length xc2).ownBlock = some b) W8 (wr.setCell ⟨gp, j * 3, none⟩ (.int .u64 (m.toNat : Int))) := hCh.put gp (j * 3) _ rfl
        have HE : Hid _ := And.intro hO2 hC2
        have hg1' : (j : Int) < (L.length : Int) := by omega
        have hg2' : (j : Int) < (ps.length : Int) := by omega
        clear hO2 hC2 hlc hp hm hmL q4 ea3 bhr hO hCh
        go_wp2_with fail
        exact ⟨⟨j + 1, by go_num, by omega, HE.out.1, HE.out.2⟩, by simp [intOf]; omega⟩
      · obtain rfl : j = ps.length := by have := HLP.out; omega
        rw [mixP_all ps L HLP.out] at hO
        have blr := (hCh.block gl hll2 (fun q => (AP.out gl q).2.1 rfl)).trans HW.out.2.2.1
        have r1r := (hCh.block _ (lt_of_some HW.out.2.2.2.2.1) (fun q => by have := (AP.out _ q).1; omega)).trans HW.out.2.2.2.2.1
        have r2r := (hCh.block _ (lt_of_some HW.out.2.2.2.2.2.1) (fun q => by have := (AP.out _ q).1; omega)).trans HW.out.2.2.2.2.2.1
        have O1r := HW.out.1.keptB hCh (fun b q r => (AP.out b r).2.2.2 q)
        have O2r : OwR W1.heap.size wr (.slice ka2 k.length kc2) (.slice va2 e.length vc2) (.slice xa2 ps.length xc2) k e (numP ps L) := ⟨HW.out.2.1.s.keptC hCh (fun b q r => HW.out.2.1.sp b q r), HW.out.2.1.e.keptC hCh (fun b q r => HW.out.2.1.ep b q r), hO, HW.out.2.1.se, HW.out.2.1.sp, HW.out.2.1.ep⟩
        obtain ⟨l0, l1, l2, l3, l4, l5, _⟩ := cells6 blr
        obtain ⟨m0, m1, m2, m3, m4, m5, _⟩ := cells6 bhr
        obtain ⟨s0, s1, s2, s3, s4, s5, sz⟩ := cells6 r1r
        obtain ⟨t0, t1, t2, t3, t4, t5, tz⟩ := cells6 r2r
        have sz0 := sz 0
        have sz1 := sz 1
        have sz2 := sz 2
        have sz3 := sz 3
        have sz4 := sz 4
        have sz5 := sz 5
        have tz0 := tz 0
        have tz1 := tz 1
        have tz2 := tz 2
        have tz3 := tz 3
        have tz4 := tz 4
        have tz5 := tz 5
        have n1 : ¬ gl = w.heap.size + 1 := by omega
        have n2 : ¬ w.heap.size + 1 = gl := by omega
        have n3 : ¬ gl = w.heap.size + 1 + 1 := by omega
        have n4 : ¬ w.heap.size + 1 + 1 = gl := by omega
        have n5 : ¬ gh = w.heap.size + 1 := by omega
        have n6 : ¬ w.heap.size + 1 = gh := by omega
        have n7 : ¬ gh = w.heap.size + 1 + 1 := by omega
        have n8 : ¬ w.heap.size + 1 + 1 = gh := by omega
        have HF : Hid _ := And.intro blr (And.intro bhr (And.intro r1r (And.intro r2r (And.intro O1r (And.intro O2r hbr)))))
        clear sz tz blr bhr r1r r2r O1r O2r hO hCh hbr
        go_upto_region 14 with fail
        go_region_held3 (fun w' => w'.cell? ⟨gl, 0, none⟩ = some (.int .u64 (id.toNat : Int)) ∧ w'.cell? ⟨gl, 1, none⟩ = some (.slice ua s.length uc) ∧ w'.cell? ⟨gl, 2, none⟩ = some (.slice ka1 k.length kc1) ∧ w'.cell? ⟨gl, 3, none⟩ = some (.int .u64 cf) ∧ w'.cell? ⟨gl, 4, none⟩ = some (.int .u64 ((vr.toNat : Int) + 1)) ∧ w'.cell? ⟨gl, 5, none⟩ = some (.slice xa ps.length xc) ∧ w'.cell? ⟨gh, 0, none⟩ = some (.int .u64 (nid.toNat : Int)) ∧ w'.cell? ⟨gh, 1, none⟩ = some (.slice ka2 k.length kc2) ∧ w'.cell? ⟨gh, 2, none⟩ = some (.slice va2 e.length vc2) ∧ w'.cell? ⟨gh, 3, none⟩ = some (.int .u64 cf) ∧ w'.cell? ⟨gh, 4, none⟩ = some (.int .u64 ((vr.toNat : Int) + 1)) ∧ w'.cell? ⟨gh, 5, none⟩ = some (.slice xa2 ps.length xc2)) (first | go_keep | simp only [World.cell?_setCell_far, ne_eq, not_false_eq_true, and_self, n1, n2, n3, n4, n5, n6, n7, n8, l0, l1, l2, l3, l4, l5, m0, m1, m2, m3, m4, m5]) (fail)
        go_wp2_with fail
        obtain ⟨blr, bhr, r1r, r2r, O1r, O2r, hbr⟩ := HF.out
        have HY := ret_two r1r r2r (by omega) (id.toNat : Int) cf ((vr.toNat : Int) + 1) (.slice ua s.length uc) (.slice ka1 k.length kc1) (.slice xa ps.length xc) (nid.toNat : Int) cf ((vr.toNat : Int) + 1) (.slice ka2 k.length kc2) (.slice va2 e.length vc2) (.slice xa2 ps.length xc2)
        unfold set6 at HY
        generalize ((((((((((((wr.setCell ⟨w.heap.size + 1, 0, none⟩ (.int .u64 (id.toNat : Int))).setCell ⟨w.heap.size + 1, 1, none⟩ (.slice ua s.length uc)).setCell ⟨w.heap.size + 1, 2, none⟩ (.slice ka1 k.length kc1)).setCell ⟨w.heap.size + 1, 3, none⟩ (.int .u64 cf)).setCell ⟨w.heap.size + 1, 4, none⟩ (.int .u64 ((vr.toNat : Int) + 1))).setCell ⟨w.heap.size + 1, 5, none⟩ (.slice xa ps.length xc)).setCell ⟨w.heap.size + 1 + 1, 0, none⟩ (.int .u64 (nid.toNat : Int))).setCell ⟨w.heap.size + 1 + 1, 1, none⟩ (.slice ka2 k.length kc2)).setCell ⟨w.heap.size + 1 + 1, 2, none⟩ (.slice va2 e.length vc2)).setCell ⟨w.heap.size + 1 + 1, 3, none⟩ (.int .u64 cf)).setCell ⟨w.heap.size + 1 + 1, 4, none⟩ (.int .u64 ((vr.toNat : Int) + 1))).setCell ⟨w.heap.size + 1 + 1, 5, none⟩ (.slice xa2 ps.length xc2)).drew = wz at *
        obtain ⟨y1, y2, yc⟩ := HY
        obtain ⟨k0, k1, k2, k3, k4, k5, _⟩ := cells6 y1
        obtain ⟨j0, j1, j2, j3, j4, j5, _⟩ := cells6 y2
        refine bodyPost_ret (v := .tuple #[.agg #[.int .u64 (id.toNat : Int), .slice ua s.length uc, .slice ka1 k.length kc1, .int .u64 cf, .int .u64 ((vr.toNat : Int) + 1), .slice xa ps.length xc], .agg #[.int .u64 (nid.toNat : Int), .slice ka2 k.length kc2, .slice va2 e.length vc2, .int .u64 cf, .int .u64 ((vr.toNat : Int) + 1), .slice xa2 ps.length xc2], .int .i64 0]) (by simp [results, Try.results34, go_sem, k0, k1, k2, k3, k4, k5, j0, j1, j2, j3, j4, j5]; try rfl) rfl ?_
        exact ⟨_, _, _, _, _, _, rfl, (O1r.keptB yc (fun b q r => by have := (O1r.lt q).1; omega)).mono (by omega), (O2r.keptB yc (fun b q r => by have := (O2r.lt q).1; omega)).mono (by omega), hbr.trans (yc.below (fun b q => by omega) hbr.size)⟩
end Go.Proofs.Ytnenfflkldpbgaa

/- Lists of regions in memory; spansOf. -/
namespace Go.Proofs.Ytnenfflkldpbgaa
open Go.RowKit
set_option linter.unusedVariables false
set_option maxRecDepth 100000

/-- A region's cells. -/
abbrev V6 := Int × Value × Value × Int × Int × Value
def c6 (u : V6) : List Value := [.int .u64 u.1, u.2.1, u.2.2.1, .int .u64 u.2.2.2.1, .int .u64 u.2.2.2.2.1, u.2.2.2.2.2]
def c6s (us : List V6) : List Value := us.flatMap c6
theorem c6_len (u : V6) : (c6 u).length = 6 := rfl
theorem c6s_len (us : List V6) : (c6s us).length = us.length * 6 := fm_len c6_len us
theorem c6s_app (a b : List V6) : c6s (a ++ b) = c6s a ++ c6s b := by simp [c6s]
def Sl (v : Value) : Prop := ∃ a n c, v = .slice a n c
/-- A region's cells, its Start and its End. -/
abbrev R3 := V6 × List UInt8 × List UInt8
structure It (w : World) (r : R3) : Prop where
  s : Rd w r.1.2.1 r.2.1
  e : Rd w r.1.2.2.1 r.2.2
  p : Sl r.1.2.2.2.2.2
theorem It.below {B : Nat} {w w' : World} {r : R3} (h : It w r) (hb : Below B w w') (hB : w.heap.size ≤ B) : It w' r := ⟨h.s.below hb hB, h.e.below hb hB, h.p⟩
theorem It.one {w : World} {r : R3} (h : It w r) : ∀ u ∈ c6 r.1, u.oneCell' = true := by
  obtain ⟨a, c, e1⟩ := h.s.shp
  obtain ⟨a', c', e2⟩ := h.e.shp
  obtain ⟨a'', n'', c'', e3⟩ := h.p
  intro u hu
  simp only [c6, List.mem_cons, List.not_mem_nil, or_false] at hu
  rcases hu with rfl | rfl | rfl | rfl | rfl | rfl
  · rfl
  · rw [e1]; rfl
  · rw [e2]; rfl
  · rfl
  · rfl
  · rw [e3]; rfl
/-- At this address a region lies. -/
def At6 (w : World) (a : Addr) (u : V6) : Prop := ∀ (j : Nat) (x : Value), (c6 u)[j]? = some x → w.cell? (if j = 0 then a else ⟨a.block, a.off + j, none⟩) = some x
/-- The slice value reads as these regions. -/
def RdRs (w : World) (v : Value) (rs : List R3) : Prop :=
  ∃ ao c, v = .slice ao rs.length c ∧ rs.length ≤ c ∧ c ≤ maxLen ∧ ∀ i r, rs[i]? = some r → It w r ∧ ∃ a, ao = some a ∧ At6 w (a.add (i * 6)) r.1
theorem At6.below {B : Nat} {w w' : World} {a : Addr} {u : V6} (h : At6 w a u) (hb : Below B w w') (hB : w.heap.size ≤ B) : At6 w' a u := fun j x e => by
  have := h j x e
  rw [hb.cell (by have := World.block_lt_of_cell? w _ this; omega)]; exact this
theorem RdRs.below {B : Nat} {w w' : World} {v : Value} {rs : List R3} (h : RdRs w v rs) (hb : Below B w w') (hB : w.heap.size ≤ B) : RdRs w' v rs := by
  obtain ⟨ao, c, h0, h1, h2, h4⟩ := h
  refine ⟨ao, c, h0, h1, h2, fun i r hi => ?_⟩
  obtain ⟨q, a, e, hc⟩ := h4 i r hi
  exact ⟨q.below hb hB, a, e, hc.below hb hB⟩
theorem At6.six {w : World} {a : Addr} {u : V6} (h : At6 w a u) : w.cell? a = some (.int .u64 u.1) ∧ w.cell? ⟨a.block, a.off + 1, none⟩ = some u.2.1 ∧ w.cell? ⟨a.block, a.off + 2, none⟩ = some u.2.2.1 ∧ w.cell? ⟨a.block, a.off + 3, none⟩ = some (.int .u64 u.2.2.2.1) ∧ w.cell? ⟨a.block, a.off + 4, none⟩ = some (.int .u64 u.2.2.2.2.1) ∧ w.cell? ⟨a.block, a.off + 5, none⟩ = some u.2.2.2.2.2 :=
  ⟨h 0 _ rfl, h 1 _ rfl, h 2 _ rfl, h 3 _ rfl, h 4 _ rfl, h 5 _ rfl⟩
/-- The regions in which anything lies. -/
def fullR (rs : List R3) : List R3 := rs.filter (fun r => cov r.2.1 r.2.2 r.2.1)
theorem fullR_snoc (rs : List R3) (r : R3) : fullR (rs ++ [r]) = if cov r.2.1 r.2.2 r.2.1 = true then fullR rs ++ [r] else fullR rs := by
  unfold fullR
  rw [List.filter_append]
  by_cases h : cov r.2.1 r.2.2 r.2.1 = true
  · rw [if_pos h]; simp [h]
  · rw [if_neg h]; simp [h]
theorem fullR_len (rs : List R3) : (fullR rs).length ≤ rs.length := List.length_filter_le _ _
/-- A row of spans of the call's own. -/
def OwS (B : Nat) (w : World) (v : Value) (us : List V6) : Prop := w.ownsRow B 94 6 v us.length (c6s us)
theorem Try.infoS : (Try.prog.info? 94).map (fun i => (i.zero, i.size, i.bytes)) = some (some (.agg #[.int .u64 0, .slice none 0 0, .slice none 0 0, .int .u64 0, .int .u64 0, .slice none 0 0]), 6, 96) := by kernel_rfl
theorem wpList_appS6 {w : World} {ops : Array Oper} {rest : List Oper} {o : Oper} {a : Act} {Q : Exit → Act → World → Prop} (hgd : o.guard = none) (s x : Operand)
    (ho : o.op = .call { callee := .builtin .append, args := #[s, x], argTypes := #[91, 91] })
    (B : Nat) (v : Value) (us : List V6) (hs : a.eval s = v) (hown : OwS B w v us) (g c : Nat) (r : R3) (hit : It w r) (hx : a.eval x = .slice (some ⟨g, 0, none⟩) 1 c)
    (hg : w.heap[g]? = some (.cells (c6 r.1).toArray 94 (0, 0))) (hB : B ≤ w.heap.size) (hlen : us.length + 1 ≤ 1099511627776)
    (h : ∀ v' w', OwS B w' v' (us ++ [r.1]) → w.grownBy w' v.ownBlock → (v'.ownBlock = v.ownBlock ∨ v'.ownBlock = some w.heap.size) → wpList Try.prog ops Q rest (a.put o.dst v') w') : wpList Try.prog ops Q (o :: rest) a w := by
  refine wpList_plain hgd fun K hK => ?_
  obtain ⟨v', w', hr, q2, q3, q4⟩ := run_appW (P := Try.prog) w B 91 o.type 94 _ 6 96 Try.underlying91 Try.infoS rfl (by decide) v us.length (c6s us) hown ⟨g, 0, none⟩ 1 c (c6 r.1) rfl (by
    intro j u hu
    rw [Addr.add_lit, Nat.zero_add, cell_of_row _ _ _ _ _ _ hg]
    simpa using hu) hit.one (by unfold maxLen; omega) (by omega) hB
  unfold Oper.wp execOp
  simp only [ho, resolve, invoke, builtin, Sem.run_bind, Sem.run_pure, Result.andThen_ok, List.map_toArray, List.map_cons, List.map_nil, hs, hx, hr]
  refine hK _ _ (h v' w' ?_ q3 q4)
  unfold OwS
  rw [c6s_app, List.length_append]
  simpa [c6s] using q2
set_option maxHeartbeats 2000000 in
theorem spansOf_any {v : Value} {rs : List R3} {w : World} (hr : RdRs w v rs) (hl : rs.length ≤ 1099511627775) :
    Calls Try.prog 65 #[v] w fun x w' => ∃ v', x = .returned v' ∧ OwS w.heap.size w' v' ((fullR rs).map (·.1)) ∧ Below w.heap.size w w' := by
  have HR : Hid (RdRs w v rs) := hr
  obtain ⟨ao, c, rfl, h1, h2, h4⟩ := hr
  unfold maxLen at h2
  clear h4
  go_enter Try.func65, Try.ntmps65
  go_wp2_with fail
  go_loopw [3, 5, 8] (fun u _ i wr => ∃ k : Nat, k ≤ rs.length ∧ i = .int .i64 k ∧ OwS w.heap.size wr u ((fullR (rs.take k)).map (·.1)) ∧ Below w.heap.size w wr) (fun _ _ i _ => rs.length - (intOf i).toNat)
  case atStart => exact ⟨0, Nat.zero_le _, rfl, World.ownsRow_nil _ _ _ _, Below.refl _ _⟩
  case round =>
    obtain ⟨k, hk, rfl, ho, hb⟩ := hrel
    by_cases hlt : k < rs.length
    · obtain ⟨r, hrk⟩ : ∃ r, rs[k]? = some r := ⟨_, List.getElem?_eq_getElem hlt⟩
      obtain ⟨ao', c', e, _, _, h4⟩ := HR.out.below hb (Nat.le_refl _)
      simp only [Value.slice.injEq, true_and] at e
      obtain ⟨rfl, rfl⟩ := e
      obtain ⟨hit, a, rfl, hat⟩ := h4 k r hrk
      obtain ⟨c0, c1, c2, c3, c4, c5⟩ := hat.six
      have HT : Hid (fullR (rs.take (k + 1)) = if cov r.2.1 r.2.2 r.2.1 = true then fullR (rs.take k) ++ [r] else fullR (rs.take k)) := by
        show _ = _
        have e1 : rs.take (k + 1) = rs.take k ++ [r] := by rw [List.take_add_one, hrk]; rfl
        rw [e1, fullR_snoc]
      have hln : ((fullR (rs.take k)).map (·.1)).length + 1 ≤ 1099511627776 := by
        have := fullR_len (rs.take k)
        rw [List.length_take] at this
        rw [List.length_map]; omega
      have HIT : Hid (It wr r) := hit
      obtain ⟨⟨u0, u1, u2, u3, u4, u5⟩, rs0, re0⟩ := r
      obtain ⟨sa, sc, e1⟩ := hit.s.shp
      obtain ⟨ea, ec, e2⟩ := hit.e.shp
      obtain ⟨pa, pn, pk, e3⟩ := hit.p
      simp only [] at e1 e2 e3 c0 c1 c2 c3 c4 c5 HT
      subst e1
      subst e2
      subst e3
      have hB1 : Below w.heap.size w (wr.alloc (.cells #[.int .u64 u0, .slice sa rs0.length sc, .slice ea re0.length ec, .int .u64 u3, .int .u64 u4, .slice pa pn pk] 28)) := hb.alloc hb.size _
      have hcv : Calls Try.prog 21 #[.agg #[.int .u64 u0, .slice sa rs0.length sc, .slice ea re0.length ec, .int .u64 u3, .int .u64 u4, .slice pa pn pk], .slice sa rs0.length sc] (wr.alloc (.cells #[.int .u64 u0, .slice sa rs0.length sc, .slice ea re0.length ec, .int .u64 u3, .int .u64 u4, .slice pa pn pk] 28)) _ := covers_any ((HIT.out.s).alloc _) ((HIT.out.e).alloc _) ((HIT.out.s).alloc _)
      have HBX : Hid (∀ W, Below (wr.alloc (.cells #[.int .u64 u0, .slice sa rs0.length sc, .slice ea re0.length ec, .int .u64 u3, .int .u64 u4, .slice pa pn pk] 28)).heap.size (wr.alloc (.cells #[.int .u64 u0, .slice sa rs0.length sc, .slice ea re0.length ec, .int .u64 u3, .int .u64 u4, .slice pa pn pk] 28)) W → W.heap[wr.heap.size]? = some (.cells #[.int .u64 u0, .slice sa rs0.length sc, .slice ea re0.length ec, .int .u64 u3, .int .u64 u4, .slice pa pn pk] 28 (0, 0))) := fun W hW => box6 hW
      have hoA : OwS w.heap.size (wr.alloc (.cells #[.int .u64 u0, .slice sa rs0.length sc, .slice ea re0.length ec, .int .u64 u3, .int .u64 u4, .slice pa pn pk] 28)) _ ((fullR (rs.take k)).map (·.1)) := ownsRow_belP ho (g_al _ _) (Nat.le_refl _)
      have hszA : wr.heap.size ≤ (wr.alloc (.cells #[.int .u64 u0, .slice sa rs0.length sc, .slice ea re0.length ec, .int .u64 u3, .int .u64 u4, .slice pa pn pk] 28)).heap.size := (g_al _ _).size
      have HIA : Hid (It (wr.alloc (.cells #[.int .u64 u0, .slice sa rs0.length sc, .slice ea re0.length ec, .int .u64 u3, .int .u64 u4, .slice pa pn pk] 28)) ((u0, .slice sa rs0.length sc, .slice ea re0.length ec, u3, u4, .slice pa pn pk), rs0, re0)) := HIT.out.below (g_al _ _) (Nat.le_refl _)
      clear hit hat h4 hrk ho
      generalize (fullR (rs.take k)) = L at *
      go_wp2_with fail
      generalize (wr.alloc (.cells #[.int .u64 u0, .slice sa rs0.length sc, .slice ea re0.length ec, .int .u64 u3, .int .u64 u4, .slice pa pn pk] 28)) = W1 at *
      refine hcv.mono ?_
      rintro x w2 ⟨rfl, hb2⟩
      have hB2 : Below w.heap.size w w2 := hB1.trans (hb2.mono hB1.size)
      have ho2 := ownsRow_belP hoA hb2 (Nat.le_refl _)
      obtain ⟨d0, d1, d2, d3, d4, d5, _⟩ := cells6 (HBX.out w2 hb2)
      have HI2 := HIA.out.below hb2 (Nat.le_refl _)
      by_cases hcq : cov rs0 re0 rs0 = true
      · rw [hcq]
        have HT2 : Hid (fullR (rs.take (k + 1)) = L ++ [((u0, .slice sa rs0.length sc, .slice ea re0.length ec, u3, u4, .slice pa pn pk), rs0, re0)]) := by show _ = _; rw [HT.out, if_pos hcq]
        have hsw := hB2.size
        go_wp2_with (first | (at_builtin; refine wpList_appS6 rfl _ _ rfl w.heap.size _ (L.map (·.1)) rfl (ownsRow_belP ho2 (g_al _ _) (Nat.le_refl _)) w2.heap.size 1 ((u0, .slice sa rs0.length sc, .slice ea re0.length ec, u3, u4, .slice pa pn pk), rs0, re0) (HI2.below (g_al _ _) (Nat.le_refl _)) rfl (heap_alloc_new w2 _) (by simp; omega) hln ?_; intro v4 w4 ho4 hg4 hw4) | fail)
        refine ⟨⟨k + 1, by omega, by go_num, by rw [HT2.out, List.map_append]; exact ho4, ?_⟩, by simp [intOf]; omega⟩
        exact (hB2.alloc hB2.size _).grown hg4 (by simp; omega) (fun j e => (World.ownsRow.lt ho2 j e).1)
      · have hcq2 : cov rs0 re0 rs0 = false := by simpa using hcq
        rw [hcq2]
        have HT2 : Hid (fullR (rs.take (k + 1)) = L) := by show _ = _; rw [HT.out, if_neg hcq]
        clear hcq hcq2
        go_wp2_with fail
        exact ⟨⟨k + 1, by omega, by go_num, by rw [HT2.out]; exact ho2, hB2⟩, by simp [intOf]; omega⟩
    · obtain rfl : k = rs.length := by omega
      rw [List.take_length] at ho
      go_wp2_with fail
      go_ret
      exact ⟨_, rfl, ho, hb⟩
end Go.Proofs.Ytnenfflkldpbgaa

/- How a region that came in is read. -/
namespace Go.Proofs.Ytnenfflkldpbgaa
open Go.ChangeShapes Go.WideShapes Go.ChangeAt Go.RowKit
set_option linter.unusedVariables false
set_option maxRecDepth 100000

theorem g_ofNat (z : Int) (h : 0 ≤ z ∧ z ≤ 18446744073709551615) : ((UInt64.ofNat z.toNat).toNat : Int) = z := by
  rw [UInt64.toNat_ofNat']; omega
theorem open_bytes_cs {H : Type} {enc : TypeId × Value → H} {W : World} {fuel : Nat} {cs : List Value} {x : DataW H × List MemPlace} (hf : DataW.trod enc Try.prog W 0 (fun _ => true) true fuel 23 cs = some x) :
    ∃ u l, cs = [u] ∧ Rd W u l := by
  rcases open_ints Try.underlying23 Try.underlying5 (by kernel_rfl) hf with ⟨hcs, _⟩ | ⟨a, len, cap, zs, hcs, _, hl, hm, hz, hd, hcell, hwz⟩
  · exact ⟨_, [], hcs, Rd.nil _⟩
  · have hz' : zs.length = cap := by simpa using hz
    have hlen : ((zs.take len).map (fun z => UInt8.ofNat z.toNat)).length = len := by simp; omega
    refine ⟨_, (zs.take len).map (fun z => UInt8.ofNat z.toNat), hcs, Rd.mk hlen.symm (by omega) hm (fun i hi => ?_)⟩
    have hi' : i < zs.length := by omega
    rw [hcell i hi']
    have hw := hwz (zs[i]) (List.getElem_mem hi')
    have hx : 0 ≤ zs[i] ∧ zs[i] ≤ 255 := by simpa [Lit.wf, IntKind.min, IntKind.max, IntKind.signed, IntKind.bits] using hw
    have e : zs.getD i 0 = zs[i] := by simp [hi']
    rw [e]
    simp only [List.getElem_map, List.getElem_take]
    rw [M.u8_ofNat]
    congr 2
    omega
theorem open_peer {H : Type} {enc : TypeId × Value → H} {W : World} {fuel : Nat} {a : Addr} {x : DataW H × List MemPlace}
    (hf : (W.cells? 0 a 3).bind (DataW.trod enc Try.prog W 0 (fun _ => true) true fuel 31) = some x) : ∃ p : Pe, PeAt W a p ∧ -9223372036854775808 ≤ p.2.1 ∧ p.2.1 ≤ 9223372036854775807 := by
  rw [Option.bind_eq_some_iff] at hf
  obtain ⟨cs, hcs, ht⟩ := hf
  obtain ⟨_, hlen, hcell⟩ := World.cells?_some hcs
  obtain ⟨xs, n, _, rfl, hl, hxl, hfs⟩ := DataW.trod_struct Try.underlying31 ht
  have k3 : Try.prog.cellsOf 3 = 1 := by kernel_rfl
  have k31 : Try.prog.cellsOf 22 = 1 := by kernel_rfl
  have kb : Try.prog.cellsOf 4 = 1 := by kernel_rfl
  match cs, hlen with
  | [v0, v1, v2], _ =>
    match xs, hxl with
    | [y0, y1, y2], _ =>
      have f0 : DataW.trod enc Try.prog W 0 (fun _ => true) true n 22 (List.take (Try.prog.cellsOf 22) (List.drop 0 [v0, v1, v2])) = some y0 := hfs 0 _ rfl
      have f1 : DataW.trod enc Try.prog W 0 (fun _ => true) true n 3 (List.take (Try.prog.cellsOf 3) (List.drop 1 [v0, v1, v2])) = some y1 := hfs 1 _ rfl
      have f2 : DataW.trod enc Try.prog W 0 (fun _ => true) true n 4 (List.take (Try.prog.cellsOf 4) (List.drop 2 [v0, v1, v2])) = some y2 := hfs 2 _ rfl
      rw [k31] at f0
      rw [k3] at f1
      rw [kb] at f2
      replace f0 : DataW.trod enc Try.prog W 0 (fun _ => true) true n 22 [v0] = some y0 := f0
      replace f1 : DataW.trod enc Try.prog W 0 (fun _ => true) true n 3 [v1] = some y1 := f1
      replace f2 : DataW.trod enc Try.prog W 0 (fun _ => true) true n 4 [v2] = some y2 := f2
      obtain ⟨z0, e0, _, w0⟩ := DataW.trod_int Try.underlying22 f0
      obtain ⟨z1, e1, _, w1⟩ := DataW.trod_int Try.underlying3 f1
      obtain ⟨z2, e2, _⟩ := DataW.trod_bool Try.underlying4 f2
      simp only [List.cons.injEq, and_true] at e0 e1 e2
      have b0 : 0 ≤ z0 ∧ z0 ≤ 18446744073709551615 := by simpa [Lit.wf, IntKind.min, IntKind.max, IntKind.signed, IntKind.bits] using w0
      have b1 : -9223372036854775808 ≤ z1 ∧ z1 ≤ 9223372036854775807 := by simpa [Lit.wf, IntKind.min, IntKind.max, IntKind.signed, IntKind.bits] using w1
      have q0 := hcell 0 (by omega)
      have q1 := hcell 1 (by omega)
      have q2 := hcell 2 (by omega)
      simp only [List.getElem?_cons_zero, List.getElem?_cons_succ] at q0 q1 q2
      refine ⟨(UInt64.ofNat z0.toNat, z1, z2), ⟨?_, ?_, ?_⟩, b1⟩
      · simp only []
        rw [g_ofNat _ b0, ← e0]; exact q0
      · simp only []
        rw [← e1]; exact q1
      · simp only []
        rw [← e2]; exact q2
theorem open_peers_cs {H : Type} {enc : TypeId × Value → H} {W : World} {fuel : Nat} {cs : List Value} {x : DataW H × List MemPlace} (hf : DataW.trod enc Try.prog W 0 (fun _ => true) true fuel 26 cs = some x) :
    ∃ u ps, cs = [u] ∧ RdPe W u ps ∧ ∀ p ∈ ps, -9223372036854775808 ≤ p.2.1 ∧ p.2.1 ≤ 9223372036854775807 := by
  have hc3 : Try.prog.cellsOf 31 = 3 := by kernel_rfl
  rcases DataW.trod_slice Try.underlying26 hf with ⟨hcs, hx⟩ | ⟨a, len, cap, elems, rest, n, _, hcs, hx, _, hl, hm, hlen, hel, _, _⟩
  · exact ⟨_, [], hcs, RdPe.nil _, by simp⟩
  · have each : ∀ i, i < len → ∃ p : Pe, PeAt W (a.add (i * 3)) p ∧ -9223372036854775808 ≤ p.2.1 ∧ p.2.1 ≤ 9223372036854775807 := by
      intro i hi
      have h1 := hel i hi
      rw [hc3, List.getElem?_eq_getElem (by omega)] at h1
      exact open_peer h1
    obtain ⟨g, hg⟩ : ∃ g : Nat → Pe, ∀ i, i < len → PeAt W (a.add (i * 3)) (g i) ∧ -9223372036854775808 ≤ (g i).2.1 ∧ (g i).2.1 ≤ 9223372036854775807 := by
      refine ⟨fun i => if h : i < len then Classical.choose (each i h) else (0, 0, false), fun i hi => ?_⟩
      simp only [dif_pos hi]
      exact Classical.choose_spec (each i hi)
    have hgl : ((List.range len).map g).length = len := by simp
    refine ⟨_, (List.range len).map g, hcs, ⟨some a, cap, by rw [hgl], by omega, hm, (fun e => by cases e), fun i q hq => ?_⟩, fun q hq => ?_⟩
    · have hi : i < len := by have := (List.getElem?_eq_some_iff.1 hq).1; omega
      have e3 : ((List.range len).map g)[i]? = some (g i) := by simp [hi]
      rw [e3] at hq
      obtain rfl := Option.some.inj hq
      exact ⟨a, rfl, (hg i hi).1⟩
    · obtain ⟨i, hi, rfl⟩ := List.mem_map.1 hq
      exact (hg i (List.mem_range.1 hi)).2
/-- A region that came in. -/
theorem open_region {H : Type} {enc : TypeId × Value → H} {W : World} {xs : Array Value} {d : DataW H} {p : List MemPlace} (h : DataW.Trod enc Try.prog W 0 (fun _ => true) true 28 (.agg xs) d p) :
    ∃ (id cf vr : UInt64) (sv ev pv : Value) (s e : List UInt8) (ps : List Pe), xs = #[.int .u64 (id.toNat : Int), sv, ev, .int .u64 (cf.toNat : Int), .int .u64 (vr.toNat : Int), pv] ∧ Rd W sv s ∧ Rd W ev e ∧ RdPe W pv ps ∧ ∀ p ∈ ps, -9223372036854775808 ≤ p.2.1 ∧ p.2.1 ≤ 9223372036854775807 := by
  obtain ⟨fuel, ht⟩ := h
  obtain ⟨ys, n, _, hx, hl, hxl, hfs⟩ := DataW.trod_struct Try.underlying28 ht
  have ku : Try.prog.cellsOf 22 = 1 := by kernel_rfl
  have kb : Try.prog.cellsOf 23 = 1 := by kernel_rfl
  have ke : Try.prog.cellsOf 25 = 2 := by kernel_rfl
  have kp : Try.prog.cellsOf 26 = 1 := by kernel_rfl
  have hcz : Try.prog.cellsOf 28 = 6 := by kernel_rfl
  rw [hcz] at hl
  clear hx
  obtain ⟨xs⟩ := xs
  have hc : (Value.agg ⟨xs⟩).cells.toList = xs := rfl
  rw [hc] at hl hfs
  obtain ⟨v0, v1, v2, v3, v4, v5, rfl⟩ : ∃ a b c d e f, xs = [a, b, c, d, e, f] := by
    match xs, hl with
    | [a, b, c, d, e, f], _ => exact ⟨a, b, c, d, e, f, rfl⟩
  obtain ⟨y0, y1, y2, y3, y4, rfl⟩ : ∃ a b c d e, ys = [a, b, c, d, e] := by
    have hxl' : ys.length = 5 := hxl
    match ys, hxl' with
    | [a, b, c, d, e], _ => exact ⟨a, b, c, d, e, rfl⟩
  have f0 : DataW.trod enc Try.prog W 0 (fun _ => true) true n 22 (List.take (Try.prog.cellsOf 22) (List.drop 0 [v0, v1, v2, v3, v4, v5])) = some y0 := hfs 0 _ rfl
  have f1 : DataW.trod enc Try.prog W 0 (fun _ => true) true n 23 (List.take (Try.prog.cellsOf 23) (List.drop 1 [v0, v1, v2, v3, v4, v5])) = some y1 := hfs 1 _ rfl
  have f2 : DataW.trod enc Try.prog W 0 (fun _ => true) true n 23 (List.take (Try.prog.cellsOf 23) (List.drop 2 [v0, v1, v2, v3, v4, v5])) = some y2 := hfs 2 _ rfl
  have f3 : DataW.trod enc Try.prog W 0 (fun _ => true) true n 25 (List.take (Try.prog.cellsOf 25) (List.drop 3 [v0, v1, v2, v3, v4, v5])) = some y3 := hfs 3 _ rfl
  have f4 : DataW.trod enc Try.prog W 0 (fun _ => true) true n 26 (List.take (Try.prog.cellsOf 26) (List.drop 5 [v0, v1, v2, v3, v4, v5])) = some y4 := hfs 4 _ rfl
  rw [ku] at f0
  rw [kb] at f1 f2
  rw [ke] at f3
  rw [kp] at f4
  replace f0 : DataW.trod enc Try.prog W 0 (fun _ => true) true n 22 [v0] = some y0 := f0
  obtain ⟨z0, e0, _, w0⟩ := DataW.trod_int Try.underlying22 f0
  have b0 : 0 ≤ z0 ∧ z0 ≤ 18446744073709551615 := by simpa [Lit.wf, IntKind.min, IntKind.max, IntKind.signed, IntKind.bits] using w0
  obtain ⟨u1, l1, e1, r1⟩ := open_bytes_cs f1
  obtain ⟨u2, l2, e2, r2⟩ := open_bytes_cs f2
  obtain ⟨u5, l5, e5, r5, hb5⟩ := open_peers_cs f4
  obtain ⟨ys3, n3, _, hx3, hl3, hxl3, hfs3⟩ := DataW.trod_struct Try.underlying25 f3
  obtain ⟨t0, t1, rfl⟩ : ∃ a b, ys3 = [a, b] := by
    have hxl' : ys3.length = 2 := hxl3
    match ys3, hxl' with
    | [a, b], _ => exact ⟨a, b, rfl⟩
  have g0 : DataW.trod enc Try.prog W 0 (fun _ => true) true n3 22 (List.take (Try.prog.cellsOf 22) (List.drop 0 [v3, v4])) = some t0 := hfs3 0 _ rfl
  have g1 : DataW.trod enc Try.prog W 0 (fun _ => true) true n3 22 (List.take (Try.prog.cellsOf 22) (List.drop 1 [v3, v4])) = some t1 := hfs3 1 _ rfl
  rw [ku] at g0 g1
  replace g0 : DataW.trod enc Try.prog W 0 (fun _ => true) true n3 22 [v3] = some t0 := g0
  replace g1 : DataW.trod enc Try.prog W 0 (fun _ => true) true n3 22 [v4] = some t1 := g1
  obtain ⟨z3, e3, _, w3⟩ := DataW.trod_int Try.underlying22 g0
  obtain ⟨z4, e4, _, w4⟩ := DataW.trod_int Try.underlying22 g1
  have b3 : 0 ≤ z3 ∧ z3 ≤ 18446744073709551615 := by simpa [Lit.wf, IntKind.min, IntKind.max, IntKind.signed, IntKind.bits] using w3
  have b4 : 0 ≤ z4 ∧ z4 ≤ 18446744073709551615 := by simpa [Lit.wf, IntKind.min, IntKind.max, IntKind.signed, IntKind.bits] using w4
  have q0 : v0 = .int .u64 z0 := by simpa using e0
  have q1 : v1 = u1 := by simpa using e1
  have q2 : v2 = u2 := by simpa using e2
  have q3 : v3 = .int .u64 z3 := by simpa using e3
  have q4 : v4 = .int .u64 z4 := by simpa using e4
  have q5 : v5 = u5 := by simpa using e5
  subst q0; subst q1; subst q2; subst q3; subst q4; subst q5
  refine ⟨UInt64.ofNat z0.toNat, UInt64.ofNat z3.toNat, UInt64.ofNat z4.toNat, v1, v2, v5, l1, l2, l5, ?_, r1, r2, r5, hb5⟩
  rw [g_ofNat _ b0, g_ofNat _ b3, g_ofNat _ b4]
end Go.Proofs.Ytnenfflkldpbgaa

/- How a region that came in is read, with how much it is. -/
namespace Go.Proofs.Ytnenfflkldpbgaa
open Go.ChangeShapes Go.WideShapes Go.ChangeAt Go.RowKit
set_option linter.unusedVariables false
set_option maxRecDepth 100000

theorem open_bytes_csU {H : Type} {enc : TypeId × Value → H} {W : World} {fuel : Nat} {cs : List Value} {x : DataW H × List MemPlace} (hf : DataW.trod enc Try.prog W 0 (fun _ => true) true fuel 23 cs = some x) :
    ∃ u l, cs = [u] ∧ Rd W u l ∧ l.length + 1 ≤ Rows.uptoBulk x.1 := by
  rcases open_ints Try.underlying23 Try.underlying5 (by kernel_rfl) hf with ⟨hcs, hx⟩ | ⟨a, len, cap, zs, hcs, _, hl, hm, hz, hd, hcell, hwz⟩
  · subst hx
    exact ⟨_, [], hcs, Rd.nil _, by simp [Rows.uptoBulk]⟩
  · have hz' : zs.length = cap := by simpa using hz
    have hlen : ((zs.take len).map (fun z => UInt8.ofNat z.toNat)).length = len := by simp; omega
    refine ⟨_, (zs.take len).map (fun z => UInt8.ofNat z.toNat), hcs, Rd.mk hlen.symm (by omega) hm (fun i hi => ?_), ?_⟩
    rotate_left
    · rw [hlen, hd]
      have := bulk_ge (H := H) (lits .u8 (zs.take len))
      simp only [Rows.uptoBulk]
      simp only [lits, List.length_map, List.length_take] at this
      simp only [lits]
      omega
    have hi' : i < zs.length := by omega
    rw [hcell i hi']
    have hw := hwz (zs[i]) (List.getElem_mem hi')
    have hx : 0 ≤ zs[i] ∧ zs[i] ≤ 255 := by simpa [Lit.wf, IntKind.min, IntKind.max, IntKind.signed, IntKind.bits] using hw
    have e : zs.getD i 0 = zs[i] := by simp [hi']
    rw [e]
    simp only [List.getElem_map, List.getElem_take]
    rw [M.u8_ofNat]
    congr 2
    omega
theorem open_peers_csU {H : Type} {enc : TypeId × Value → H} {W : World} {fuel : Nat} {cs : List Value} {x : DataW H × List MemPlace} (hf : DataW.trod enc Try.prog W 0 (fun _ => true) true fuel 26 cs = some x) :
    ∃ u ps, cs = [u] ∧ RdPe W u ps ∧ (∀ p ∈ ps, -9223372036854775808 ≤ p.2.1 ∧ p.2.1 ≤ 9223372036854775807) ∧ ps.length + 1 ≤ Rows.uptoBulk x.1 := by
  have hc3 : Try.prog.cellsOf 31 = 3 := by kernel_rfl
  rcases DataW.trod_slice Try.underlying26 hf with ⟨hcs, hx⟩ | ⟨a, len, cap, elems, rest, n, _, hcs, hx, _, hl, hm, hlen, hel, _, _⟩
  · subst hx
    exact ⟨_, [], hcs, RdPe.nil _, by simp, by simp [Rows.uptoBulk]⟩
  · have each : ∀ i, i < len → ∃ p : Pe, PeAt W (a.add (i * 3)) p ∧ -9223372036854775808 ≤ p.2.1 ∧ p.2.1 ≤ 9223372036854775807 := by
      intro i hi
      have h1 := hel i hi
      rw [hc3, List.getElem?_eq_getElem (by omega)] at h1
      exact open_peer h1
    obtain ⟨g, hg⟩ : ∃ g : Nat → Pe, ∀ i, i < len → PeAt W (a.add (i * 3)) (g i) ∧ -9223372036854775808 ≤ (g i).2.1 ∧ (g i).2.1 ≤ 9223372036854775807 := by
      refine ⟨fun i => if h : i < len then Classical.choose (each i h) else (0, 0, false), fun i hi => ?_⟩
      simp only [dif_pos hi]
      exact Classical.choose_spec (each i hi)
    have hgl : ((List.range len).map g).length = len := by simp
    refine ⟨_, (List.range len).map g, hcs, ⟨some a, cap, by rw [hgl], by omega, hm, (fun e => by cases e), fun i q hq => ?_⟩, (fun q hq => ?_), ?_⟩
    rotate_left 2
    · rw [hgl, hx]
      have := bulk_ge (H := H) (elems.map (·.1))
      simp only [List.length_map] at this
      simp only [Rows.uptoBulk]
      omega
    · have hi : i < len := by have := (List.getElem?_eq_some_iff.1 hq).1; omega
      have e3 : ((List.range len).map g)[i]? = some (g i) := by simp [hi]
      rw [e3] at hq
      obtain rfl := Option.some.inj hq
      exact ⟨a, rfl, (hg i hi).1⟩
    · obtain ⟨i, hi, rfl⟩ := List.mem_map.1 hq
      exact (hg i (List.mem_range.1 hi)).2
/-- A region that came in. -/
theorem open_regionU {H : Type} {enc : TypeId × Value → H} {W : World} {xs : Array Value} {d : DataW H} {p : List MemPlace} (h : DataW.Trod enc Try.prog W 0 (fun _ => true) true 28 (.agg xs) d p) :
    ∃ (id cf vr : UInt64) (sv ev pv : Value) (s e : List UInt8) (ps : List Pe), xs = #[.int .u64 (id.toNat : Int), sv, ev, .int .u64 (cf.toNat : Int), .int .u64 (vr.toNat : Int), pv] ∧ Rd W sv s ∧ Rd W ev e ∧ RdPe W pv ps ∧ (∀ p ∈ ps, -9223372036854775808 ≤ p.2.1 ∧ p.2.1 ≤ 9223372036854775807) ∧ s.length + e.length + ps.length + 3 ≤ Rows.uptoBulk d := by
  obtain ⟨fuel, ht⟩ := h
  obtain ⟨ys, n, _, hx, hl, hxl, hfs⟩ := DataW.trod_struct Try.underlying28 ht
  have ku : Try.prog.cellsOf 22 = 1 := by kernel_rfl
  have kb : Try.prog.cellsOf 23 = 1 := by kernel_rfl
  have ke : Try.prog.cellsOf 25 = 2 := by kernel_rfl
  have kp : Try.prog.cellsOf 26 = 1 := by kernel_rfl
  have hcz : Try.prog.cellsOf 28 = 6 := by kernel_rfl
  rw [hcz] at hl
  have hd : d = .agg (ys.map (·.1)) := congrArg Prod.fst hx
  clear hx
  obtain ⟨xs⟩ := xs
  have hc : (Value.agg ⟨xs⟩).cells.toList = xs := rfl
  rw [hc] at hl hfs
  obtain ⟨v0, v1, v2, v3, v4, v5, rfl⟩ : ∃ a b c d e f, xs = [a, b, c, d, e, f] := by
    match xs, hl with
    | [a, b, c, d, e, f], _ => exact ⟨a, b, c, d, e, f, rfl⟩
  obtain ⟨y0, y1, y2, y3, y4, rfl⟩ : ∃ a b c d e, ys = [a, b, c, d, e] := by
    have hxl' : ys.length = 5 := hxl
    match ys, hxl' with
    | [a, b, c, d, e], _ => exact ⟨a, b, c, d, e, rfl⟩
  have f0 : DataW.trod enc Try.prog W 0 (fun _ => true) true n 22 (List.take (Try.prog.cellsOf 22) (List.drop 0 [v0, v1, v2, v3, v4, v5])) = some y0 := hfs 0 _ rfl
  have f1 : DataW.trod enc Try.prog W 0 (fun _ => true) true n 23 (List.take (Try.prog.cellsOf 23) (List.drop 1 [v0, v1, v2, v3, v4, v5])) = some y1 := hfs 1 _ rfl
  have f2 : DataW.trod enc Try.prog W 0 (fun _ => true) true n 23 (List.take (Try.prog.cellsOf 23) (List.drop 2 [v0, v1, v2, v3, v4, v5])) = some y2 := hfs 2 _ rfl
  have f3 : DataW.trod enc Try.prog W 0 (fun _ => true) true n 25 (List.take (Try.prog.cellsOf 25) (List.drop 3 [v0, v1, v2, v3, v4, v5])) = some y3 := hfs 3 _ rfl
  have f4 : DataW.trod enc Try.prog W 0 (fun _ => true) true n 26 (List.take (Try.prog.cellsOf 26) (List.drop 5 [v0, v1, v2, v3, v4, v5])) = some y4 := hfs 4 _ rfl
  rw [ku] at f0
  rw [kb] at f1 f2
  rw [ke] at f3
  rw [kp] at f4
  replace f0 : DataW.trod enc Try.prog W 0 (fun _ => true) true n 22 [v0] = some y0 := f0
  obtain ⟨z0, e0, _, w0⟩ := DataW.trod_int Try.underlying22 f0
  have b0 : 0 ≤ z0 ∧ z0 ≤ 18446744073709551615 := by simpa [Lit.wf, IntKind.min, IntKind.max, IntKind.signed, IntKind.bits] using w0
  obtain ⟨u1, l1, e1, r1, m1⟩ := open_bytes_csU f1
  obtain ⟨u2, l2, e2, r2, m2⟩ := open_bytes_csU f2
  obtain ⟨u5, l5, e5, r5, hb5, m5⟩ := open_peers_csU f4
  obtain ⟨ys3, n3, _, hx3, hl3, hxl3, hfs3⟩ := DataW.trod_struct Try.underlying25 f3
  obtain ⟨t0, t1, rfl⟩ : ∃ a b, ys3 = [a, b] := by
    have hxl' : ys3.length = 2 := hxl3
    match ys3, hxl' with
    | [a, b], _ => exact ⟨a, b, rfl⟩
  have g0 : DataW.trod enc Try.prog W 0 (fun _ => true) true n3 22 (List.take (Try.prog.cellsOf 22) (List.drop 0 [v3, v4])) = some t0 := hfs3 0 _ rfl
  have g1 : DataW.trod enc Try.prog W 0 (fun _ => true) true n3 22 (List.take (Try.prog.cellsOf 22) (List.drop 1 [v3, v4])) = some t1 := hfs3 1 _ rfl
  rw [ku] at g0 g1
  replace g0 : DataW.trod enc Try.prog W 0 (fun _ => true) true n3 22 [v3] = some t0 := g0
  replace g1 : DataW.trod enc Try.prog W 0 (fun _ => true) true n3 22 [v4] = some t1 := g1
  obtain ⟨z3, e3, _, w3⟩ := DataW.trod_int Try.underlying22 g0
  obtain ⟨z4, e4, _, w4⟩ := DataW.trod_int Try.underlying22 g1
  have b3 : 0 ≤ z3 ∧ z3 ≤ 18446744073709551615 := by simpa [Lit.wf, IntKind.min, IntKind.max, IntKind.signed, IntKind.bits] using w3
  have b4 : 0 ≤ z4 ∧ z4 ≤ 18446744073709551615 := by simpa [Lit.wf, IntKind.min, IntKind.max, IntKind.signed, IntKind.bits] using w4
  have q0 : v0 = .int .u64 z0 := by simpa using e0
  have q1 : v1 = u1 := by simpa using e1
  have q2 : v2 = u2 := by simpa using e2
  have q3 : v3 = .int .u64 z3 := by simpa using e3
  have q4 : v4 = .int .u64 z4 := by simpa using e4
  have q5 : v5 = u5 := by simpa using e5
  subst q0; subst q1; subst q2; subst q3; subst q4; subst q5
  refine ⟨UInt64.ofNat z0.toNat, UInt64.ofNat z3.toNat, UInt64.ofNat z4.toNat, v1, v2, v5, l1, l2, l5, ?_, r1, r2, r5, hb5, ?_⟩
  · rw [g_ofNat _ b0, g_ofNat _ b3, g_ofNat _ b4]
  · rw [hd]
    simp only [List.map_cons, List.map_nil, Rows.uptoBulk, Rows.uptoBulkAll]
    omega
end Go.Proofs.Ytnenfflkldpbgaa

/- slices.SortFunc over spans: by Start. -/
namespace Go.Proofs.Ytnenfflkldpbgaa
open Go.RowKit Go.Shelf Go.Lib
open Go.Sort hiding Below
set_option linter.unusedVariables false
set_option maxRecDepth 100000

theorem Try.isAggS (w : World) : (isAgg 94).run Try.prog w = .ok true w := by kernel_rfl
theorem Try.sizeOfS (w : World) : (Go.sizeOf 94).run Try.prog w = .ok 6 w := by kernel_rfl
/-- A span whose lists lie elsewhere than in the row. -/
structure SpI (w0 : World) (blk : Nat) where
  r : R3
  hi : It w0 r
  hs : r.1.2.1.ownBlock = some blk → r.2.1 = []
  he : r.1.2.2.1.ownBlock = some blk → r.2.2 = []
def r30 : R3 := ((0, .slice none 0 0, .slice none 0 0, 0, 0, .slice none 0 0), [], [])
def spi0 (w0 : World) (blk : Nat) : SpI w0 blk := ⟨r30, ⟨Rd.nil _, Rd.nil _, _, _, _, rfl⟩, fun _ => rfl, fun _ => rfl⟩
section
variable {w0 : World} {blk : Nat}
def encS (x : SpI w0 blk) : List Value := c6 x.r.1
def cfS (x y : SpI w0 blk) : Int := M.cmpL x.r.2.1 y.r.2.1
theorem swoS : SWO (ltOf (cfS (w0 := w0) (blk := blk))) where
  irrefl x := by unfold ltOf cfS; rw [M.cmpL_self]; rfl
  trans x y z h1 h2 := by
    unfold ltOf cfS at *
    exact decide_eq_true (M.cmpL_trans (of_decide_eq_true h1) (of_decide_eq_true h2))
  ntrans x y z h1 h2 := by
    unfold ltOf cfS at *
    have a1 := of_decide_eq_false h1
    have a2 := of_decide_eq_false h2
    have b1 := M.cmpL_swap x.r.2.1 y.r.2.1
    have b2 := M.cmpL_swap y.r.2.1 z.r.2.1
    have b3 := M.cmpL_swap x.r.2.1 z.r.2.1
    have c := cmpL_le_le (a := z.r.2.1) (b := y.r.2.1) (c := x.r.2.1) (by omega) (by omega)
    exact decide_eq_false (by omega)
end
theorem order_any {a0 a3 a4 b0 b3 b4 : Int} {sv ev sv' ev' : Value} {pa pa' : Option Addr} {pn pk pn' pk' : Nat} {s s' : List UInt8} {W : World} (hs : Rd W sv s) (hs' : Rd W sv' s') (he : Sl ev) (he' : Sl ev') :
    Calls Try.prog 67 #[.agg #[.int .u64 a0, sv, ev, .int .u64 a3, .int .u64 a4, .slice pa pn pk], .agg #[.int .u64 b0, sv', ev', .int .u64 b3, .int .u64 b4, .slice pa' pn' pk']] W fun e w' => e = .returned (.int .i64 (M.cmpL s s')) ∧ ∃ q os', w' = grow (W.drewN q) os' := by
  have hcm := fun o o' => bcompare_any ((hs.alloc o).alloc o') ((hs'.alloc o).alloc o')
  obtain ⟨sa, sc, rfl⟩ := hs.shp
  obtain ⟨sa', sc', rfl⟩ := hs'.shp
  obtain ⟨ea, en, ec, rfl⟩ := he
  obtain ⟨ea', en', ec', rfl⟩ := he'
  generalize M.cmpL s s' = r at *
  clear hs hs'
  go_enter Try.func67, Try.ntmps67
  go_wp2_with fail
  refine (hcm _ _).mono ?_
  rintro e w1 ⟨rfl, rfl⟩
  go_wp2_with fail
  go_ret
  exact ⟨rfl, 0, _, by rw [alloc_eq_grow, alloc_eq_grow, grow_grow]; rfl⟩
theorem sort_chg {α : Type} [Inhabited α] (enc : α → List Value) (k : Nat) (w : World) (blk off n : Nat) (d : Array α) (os : Array Obj) : Chg (fun b => b = blk) w (sortWorldK enc k w blk off n d os) := by
  have e : (sortWorldK enc k w blk off n d os).heap = w.heap.modify blk (onCells (putCells id off (flatK enc k d))) ++ os := rfl
  refine ⟨rfl, rfl, rfl, ?_, fun b hb hne => ?_⟩
  · rw [e]; simp
  · rw [e, Array.getElem?_append_left (by simpa using hb), Array.getElem?_modify, if_neg (fun q => hne q.symm)]
theorem Rd.keptE {S : Nat → Prop} {w w' : World} {v : Value} {l : List UInt8} (h : Rd w v l) (hg : Chg S w w') (hne : ∀ b, v.ownBlock = some b → S b → l = []) : Rd w' v l := by
  by_cases hl : l = []
  · subst hl
    obtain ⟨ao, c, h0, h1, h2, h3, _⟩ := h
    exact ⟨ao, c, h0, h1, h2, h3, fun i hi => by simp at hi⟩
  · exact h.keptC hg (fun b e q => hl (hne b e q))
theorem Rd.blk {w : World} {v : Value} {l : List UInt8} (h : Rd w v l) (hl : l ≠ []) {b : Nat} (hb : v.ownBlock = some b) : b < w.heap.size := by
  obtain ⟨ao, c, rfl, h1, h2, h3, h4⟩ := h
  obtain ⟨a, rfl, hc⟩ := h4 0 (List.length_pos_iff.2 hl)
  have := World.block_lt_of_cell? w _ hc
  have e : a.block = b := Option.some.inj hb
  rw [← e]
  exact this
theorem spi_list {w : World} {g : Nat} : ∀ rs : List R3, (∀ r ∈ rs, It w r ∧ (r.1.2.1.ownBlock = some g → r.2.1 = []) ∧ (r.1.2.2.1.ownBlock = some g → r.2.2 = [])) → ∃ l : List (SpI w g), l.map (·.r) = rs
  | [], _ => ⟨[], rfl⟩
  | r :: rs, h => by
    obtain ⟨l, e⟩ := spi_list rs (fun x hx => h x (List.mem_cons_of_mem _ hx))
    obtain ⟨h1, h2, h3⟩ := h r (List.mem_cons_self ..)
    exact ⟨⟨r, h1, h2, h3⟩ :: l, by simp [e]⟩
theorem It.keptC {S : Nat → Prop} {w w' : World} {r : R3} (h : It w r) (hg : Chg S w w') (h1 : ∀ b, r.1.2.1.ownBlock = some b → S b → r.2.1 = []) (h2 : ∀ b, r.1.2.2.1.ownBlock = some b → S b → r.2.2 = []) : It w' r := ⟨h.s.keptE hg h1, h.e.keptE hg h2, h.p⟩
theorem Rd.sl {w : World} {v : Value} {l : List UInt8} (h : Rd w v l) : Sl v := by obtain ⟨a, c, e⟩ := h.shp; exact ⟨a, _, c, e⟩
/-- Sorted by Start: the same spans, none below the one ahead of it. -/
theorem sortS_any {v : Value} {rs : List R3} {w : World} {B : Nat} (ho : OwS B w v (rs.map (·.1))) (hit : ∀ r ∈ rs, It w r) (hof : ∀ r ∈ rs, ∀ b, v.ownBlock = some b → (r.1.2.1.ownBlock = some b → r.2.1 = []) ∧ (r.1.2.2.1.ownBlock = some b → r.2.2 = [])) (hne : rs ≠ []) (hl : rs.length ≤ 1099511627776) :
    Calls Try.prog 66 #[v, .func (.func 67) #[] #[]] w fun e w' => e = .returned (.tuple #[]) ∧ ∃ q : List R3, q.Perm rs ∧ q.Pairwise (fun a b => ¬ M.cmpL b.2.1 a.2.1 < 0) ∧ (∃ g c, v = .slice (some ⟨g, 0, none⟩) rs.length c ∧ rs.length ≤ c ∧ c ≤ maxLen ∧ ∀ i r, q[i]? = some r → At6 w' (⟨g, i * 6, none⟩) r.1) ∧ (∀ r ∈ q, It w' r) ∧ Chg (fun b => v.ownBlock = some b) w w' := by
  have hrow := ho
  have hlen0 : 0 < rs.length := List.length_pos_iff.2 hne
  unfold OwS at ho
  rw [List.length_map] at ho
  rcases ho.2 with ⟨_, q0⟩ | ⟨g, cap, cur, rfl, hB, hh, hn, hcap, hsz, htake⟩
  · omega
  haveI : Inhabited (SpI w g) := ⟨spi0 w g⟩
  obtain ⟨lst, hlst⟩ := spi_list (w := w) (g := g) rs (fun r hr => ⟨hit r hr, (hof r hr g rfl).1, (hof r hr g rfl).2⟩)
  have hln : lst.length = rs.length := by rw [← hlst, List.length_map]
  have hat : ∀ (j : Nat) (x : SpI w g), lst[j]? = some x → rs[j]? = some x.r := fun j x e => by rw [← hlst, List.getElem?_map, e]; rfl
  have hH : HoldsK encS 6 w g 0 lst.toArray := fun j hj => by
    rw [size_flatK] at hj
    have hj2 : j < lst.length * 6 := by simpa using hj
    have hd : j / 6 < lst.length := by omega
    rw [get_flatK _ _ _ _ hj]
    refine ⟨?_, frozen_of_row _ _ _ _ _ hh⟩
    have e0 : lst.toArray[j / 6]! = lst[j / 6] := by simp [hd]
    rw [e0]
    have hx := hat (j / 6) lst[j / 6] (List.getElem?_eq_getElem hd)
    have hm : j % 6 < 6 := Nat.mod_lt _ (by omega)
    have hcl := hrow.cells (g := g) rfl j ((encS lst[j / 6])[j % 6]!) (by
      unfold c6s
      have e1 := fm_at c6_len (rs.map (·.1)) (j / 6) (j % 6) lst[j / 6].r.1 (by rw [List.getElem?_map, hx]; rfl) hm
      rw [show j / 6 * 6 + j % 6 = j by omega] at e1
      rw [e1]
      show (c6 lst[j / 6].r.1)[j % 6]? = _
      rw [getElem!_pos (encS lst[j / 6]) (j % 6) hm]
      exact List.getElem?_eq_getElem hm)
    rw [Addr.add_lit] at hcl
    exact hcl
  have hcmp : CmpLays Try.prog 67 #[] (encS (w0 := w) (blk := g)) 6 cfS g 0 lst.toArray.size w := fun m os dk hs x y => by
    have ch := sort_chg (encS (w0 := w) (blk := g)) 6 w g 0 m dk os
    have hx := x.hi.s.keptE ch (fun b e q => x.hs (by rw [e, q]))
    have hy := y.hi.s.keptE ch (fun b e q => y.hs (by rw [e, q]))
    obtain ⟨⟨⟨x0, x1, x2, x3, x4, x5⟩, xs, xe⟩, xi, xh, xk⟩ := x
    obtain ⟨⟨⟨y0, y1, y2, y3, y4, y5⟩, ys, ye⟩, yi, yh, yk⟩ := y
    obtain ⟨pa, pn, pk, e3⟩ := xi.p
    obtain ⟨pa', pn', pk', e3'⟩ := yi.p
    simp only [] at e3 e3'
    subst e3
    subst e3'
    exact order_any hx hy xi.e.sl yi.e.sl
  have eg : ∀ args w, (callFunc 67 args).run Try.prog w = .ok (.enter 67 args) w := enters_of Try.func67 (by kernel_rfl) rfl
  have hcon := AnyQ.slices_SortFunc Try.sortS 6 Try.isAggS Try.sizeOfS (encS (w0 := w) (blk := g)) (fun _ => rfl) (fun x v hv => x.hi.one v hv) cfS swoS 67 #[] g 0 cap lst.toArray w eg hcmp hH (Array.getElem?_eq_some_iff.1 hh).1 (by simp; omega)
  have hs0 : lst.toArray.size = rs.length := by simp [hln]
  rw [hs0] at hcon
  refine Calls.mono hcon ?_
  rintro e w' ⟨rfl, d', n, os, hperm, hsort, rfl⟩
  have hd' : d'.size = rs.length := by rw [hperm.1, hs0]
  have ch := sort_chg (encS (w0 := w) (blk := g)) 6 w g 0 n d' os
  have hH' := holdsK_sortWorldK (encS (w0 := w) (blk := g)) 6 w g 0 n lst.toArray d' os (Array.getElem?_eq_some_iff.1 hh).1 hH (by rw [hd', hs0])
  have hbang : ∀ i (h : i < d'.size), d'[i]! = d'[i] := fun i h => getElem!_pos d' i h
  refine ⟨rfl, d'.toList.map (·.r), ?_, ?_, ⟨g, cap, rfl, hn, hcap, fun i r hr => ?_⟩, fun r hr => ?_, ch.mono (fun b _ q => by rw [q]; rfl)⟩
  · have hp := hperm.2.2
    rw [← hd', Array.extract_size, hd', ← hs0, Array.extract_size] at hp
    have := hp.map (·.r)
    rw [show lst.toArray.toList = lst from rfl, hlst] at this
    exact this
  · rw [List.pairwise_map, List.pairwise_iff_getElem]
    intro i j hi hj hij
    have hi2 : i < d'.size := by simpa using hi
    have hj2 : j < d'.size := by simpa using hj
    have := hsort i j (Nat.zero_le _) hij (by omega)
    rw [hbang i hi2, hbang j hj2] at this
    unfold ltOf cfS at this
    exact of_decide_eq_false this
  · obtain ⟨hi, rfl⟩ := List.getElem?_eq_some_iff.1 hr
    have hi2 : i < d'.size := by simpa using hi
    intro j x hx
    have hj6 : j < 6 := (List.getElem?_eq_some_iff.1 hx).1
    have hc := (hH'.cell hi2 hj6).1
    rw [hbang i hi2] at hc
    have e1 : (encS d'[i])[j]! = x := by
      rw [getElem!_pos (encS d'[i]) j hj6]
      have := List.getElem?_eq_some_iff.1 hx
      obtain ⟨_, hh2⟩ := this
      rw [← hh2]
      simp [encS]
    rw [e1, Nat.zero_add] at hc
    by_cases hj0 : j = 0
    · subst hj0; rw [if_pos rfl]; simpa using hc
    · rw [if_neg hj0]; exact hc
  · obtain ⟨x, hx, rfl⟩ := List.mem_map.1 hr
    exact x.hi.keptC ch (fun b e q => x.hs (by rw [e, q])) (fun b e q => x.he (by rw [e, q]))
end Go.Proofs.Ytnenfflkldpbgaa

/- Partition. -/
namespace Go.Proofs.Ytnenfflkldpbgaa
open Go.RowKit
set_option linter.unusedVariables false
set_option maxRecDepth 100000

/-- Does each begin where the one ahead ends, and the last one have no end? -/
def chkP : Nat → List UInt8 → List R3 → Bool
  | _, en, [] => decide (en.length = 0)
  | i, en, r :: q => if (0 < i ∧ en.length = 0) ∨ r.2.1 ≠ en then false else chkP (i + 1) r.2.2 q
set_option maxHeartbeats 2000000 in
theorem partition_any {v : Value} {rs : List R3} {w : World} (hr : RdRs w v rs) (hl : rs.length ≤ 1099511627775) (hne : fullR rs ≠ []) :
    Calls Try.prog 37 #[v] w fun x w' => ∃ q : List R3, q.Perm (fullR rs) ∧ q.Pairwise (fun a b => 0 ≤ M.cmpL b.2.1 a.2.1) ∧ x = .returned (.bool (chkP 0 [] q)) ∧ Below w.heap.size w w' := by
  have hsp := spansOf_any hr hl
  have hfl := fullR_len rs
  have hitw : ∀ r ∈ fullR rs, It w r := fun r hm => by
    obtain ⟨ao, c, _, _, _, h4⟩ := hr
    obtain ⟨i, ei⟩ := List.mem_iff_getElem?.1 (show r ∈ rs by unfold fullR at hm; exact (List.mem_filter.1 hm).1)
    exact (h4 i r ei).1
  obtain ⟨ao, c, rfl, h1, h2, _⟩ := hr
  generalize fullR rs = fs at *
  go_enter Try.func37, Try.ntmps37
  go_wp2_with fail
  refine hsp.mono ?_
  rintro x w1 ⟨v1, rfl, ho1, hb1⟩
  clear hsp
  have hlo : ∀ b, v1.ownBlock = some b → w.heap.size ≤ b := fun b e => (World.ownsRow.lt ho1 b e).1
  have hso := sortS_any ho1 (fun r hm => (hitw r hm).below hb1 (Nat.le_refl _)) (fun r hm b e => ⟨fun q => by
      by_cases hz : r.2.1 = []
      · exact hz
      · have := (hitw r hm).s.blk hz q; have := hlo b e; omega, fun q => by
      by_cases hz : r.2.2 = []
      · exact hz
      · have := (hitw r hm).e.blk hz q; have := hlo b e; omega⟩) hne (by omega)
  clear hitw
  go_wp2_with fail
  refine hso.mono ?_
  rintro x w2 ⟨rfl, q, hqp, hqs, ⟨g, cp, rfl, hc1, hc2, hat⟩, hiq, hch⟩
  have hb2 : Below w.heap.size w w2 := hb1.trans (hch.below (fun b e => hlo b e) hb1.size)
  have hql : q.length = fs.length := hqp.length_eq
  have hf0 : 0 < fs.length := List.length_pos_iff.2 hne
  have HQ : Hid (q.Perm fs ∧ q.Pairwise (fun a b => 0 ≤ M.cmpL b.2.1 a.2.1) ∧ q.length = fs.length) := ⟨hqp, hqs, hql⟩
  have HIT : Hid (∀ r ∈ q, It w2 r) := hiq
  unfold maxLen at hc2
  clear hso ho1 hch hlo hqp hqs hql hiq hb1
  go_wp2_with fail
  go_loopw [4, 5, 6, 13] (fun en _ _ i wr => ∃ (k : Nat) (el : List UInt8), k ≤ fs.length ∧ i = .int .i64 k ∧ Rd wr en el ∧ Hid (chkP 0 [] q = chkP k el (q.drop k)) ∧ Below w2.heap.size w2 wr) (fun _ _ _ i _ => fs.length - (intOf i).toNat)
  case atStart => exact ⟨0, [], Nat.zero_le _, rfl, Rd.nil _, rfl, Below.refl _ _⟩
  case round =>
    obtain ⟨k, el, hk, rfl, hrd, HX, hbr⟩ := hrel
    have hBr : Below w.heap.size w wr := hb2.trans (hbr.mono hb2.size)
    have hel := hrd.len
    unfold maxLen at hel
    by_cases hlt : k < fs.length
    · obtain ⟨r, hrk⟩ : ∃ r, q[k]? = some r := ⟨_, List.getElem?_eq_getElem (by have := HQ.out.2.2; omega)⟩
      have hitr := (HIT.out r (List.mem_of_getElem? hrk)).below hbr (Nat.le_refl _)
      obtain ⟨c0, c1, c2, c3, c4, c5⟩ := ((hat k r hrk).below hbr (Nat.le_refl _)).six
      have HC : Hid (chkP k el (q.drop k) = if (0 < k ∧ el.length = 0) ∨ r.2.1 ≠ el then false else chkP (k + 1) r.2.2 (q.drop (k + 1))) := by
        show _ = _
        obtain ⟨hh, rfl⟩ := List.getElem?_eq_some_iff.1 hrk
        rw [List.drop_eq_getElem_cons hh]; rfl
      have hE := hitr.e
      obtain ⟨ea, ec, e2⟩ := hitr.e.shp
      obtain ⟨sa, sc, e1⟩ := hitr.s.shp
      obtain ⟨pa, pn, pk, e3⟩ := hitr.p
      have heq : ∀ W, Below wr.heap.size wr W → Calls Try.prog 68 #[r.1.2.1, _] W fun x w' => x = .returned (.bool (decide (r.2.1 = el))) ∧ w' = W := fun W hW => bequal_any (hitr.s.below hW (Nat.le_refl _)) (hrd.below hW (Nat.le_refl _))
      obtain ⟨na, nc, e4⟩ := hrd.shp
      obtain ⟨⟨u0, u1, u2, u3, u4, u5⟩, rs0, re0⟩ := r
      simp only [] at e1 e2 e3 c0 c1 c2 c3 c4 c5 HC heq hE
      subst e1
      subst e2
      subst e3
      subst e4
      have hbA : Below wr.heap.size wr (wr.alloc (.cells #[.int .u64 u0, .slice sa rs0.length sc, .slice ea re0.length ec, .int .u64 u3, .int .u64 u4, .slice pa pn pk] 94)) := g_al _ _
      have HE : Hid _ := And.intro hE hrd
      clear hitr hrk hE hrd
      by_cases hk0 : 0 < k ∧ el.length < 1
      · have g0 : (0 : Int) < (k : Int) := by omega
        have HB : Hid (chkP 0 [] q = false) := by show _ = _; rw [HX.out, HC.out, if_pos (.inl ⟨hk0.1, by omega⟩)]
        obtain ⟨hk0a, hk0b⟩ := hk0
        obtain rfl : el = [] := List.length_eq_zero_iff.1 (by omega)
        go_wp2_with fail
        go_ret
        exact ⟨q, HQ.out.1, HQ.out.2.1, by rw [HB.out]; rfl, hBr.alloc hBr.size _⟩
      · have hcase : (k = 0) ∨ (0 < k ∧ ¬ el.length = 0) := by omega
        have heqA := heq _ hbA
        by_cases hse : rs0 = el
        · have HN : Hid (chkP 0 [] q = chkP (k + 1) re0 (q.drop (k + 1))) := by
            show _ = _
            rw [HX.out, HC.out, if_neg (by rintro (r | r); exact hk0 ⟨r.1, by omega⟩; exact r hse)]
          rw [decide_eq_true hse] at heqA
          clear hse hk0
          rcases hcase with hk0 | ⟨hk1, hk2⟩
          · have g0 : ¬ (0 : Int) < (k : Int) := by omega
            clear hk0
            go_wp2_with fail
            refine heqA.mono ?_
            rintro x w5 ⟨rfl, rfl⟩
            go_wp2_with fail
            exact ⟨⟨k + 1, re0, by omega, by go_num, HE.out.1.below hbA (Nat.le_refl _), HN, hbr.trans (hbA.mono hbr.size)⟩, by simp [intOf]; omega⟩
          · have g0 : (0 : Int) < (k : Int) := by omega
            have g1 : ((el.length : Int) == 0) = false := beq_eq_false_iff_ne.2 (show ((el.length : Int)) ≠ 0 by omega)
            have g2 : ¬ (el.length : Int) = 0 := by omega
            go_wp2_with fail
            refine heqA.mono ?_
            rintro x w5 ⟨rfl, rfl⟩
            go_wp2_with fail
            exact ⟨⟨k + 1, re0, by omega, by go_num, HE.out.1.below hbA (Nat.le_refl _), HN, hbr.trans (hbA.mono hbr.size)⟩, by simp [intOf]; omega⟩
        · have HB : Hid (chkP 0 [] q = false) := by show _ = _; rw [HX.out, HC.out, if_pos (.inr hse)]
          rw [decide_eq_false hse] at heqA
          clear hse hk0
          rcases hcase with hk0 | ⟨hk1, hk2⟩
          · have g0 : ¬ (0 : Int) < (k : Int) := by omega
            clear hk0
            go_wp2_with fail
            refine heqA.mono ?_
            rintro x w5 ⟨rfl, rfl⟩
            go_wp2_with fail
            go_ret
            exact ⟨q, HQ.out.1, HQ.out.2.1, by rw [HB.out]; rfl, hBr.alloc hBr.size _⟩
          · have g0 : (0 : Int) < (k : Int) := by omega
            have g1 : ((el.length : Int) == 0) = false := beq_eq_false_iff_ne.2 (show ((el.length : Int)) ≠ 0 by omega)
            have g2 : ¬ (el.length : Int) = 0 := by omega
            go_wp2_with fail
            refine heqA.mono ?_
            rintro x w5 ⟨rfl, rfl⟩
            go_wp2_with fail
            go_ret
            exact ⟨q, HQ.out.1, HQ.out.2.1, by rw [HB.out]; rfl, hBr.alloc hBr.size _⟩
    · obtain rfl : k = fs.length := by omega
      have HN : Hid (chkP 0 [] q = decide (el.length = 0)) := by
        show _ = _
        rw [HX.out, List.drop_of_length_le (by have := HQ.out.2.2; omega)]; rfl
      have g0 : (0 : Int) < (fs.length : Int) := by omega
      obtain ⟨na, nc, e4⟩ := hrd.shp
      subst e4
      by_cases hel0 : el.length < 1
      · obtain rfl : el = [] := List.length_eq_zero_iff.1 (by omega)
        go_wp2_with fail
        go_ret
        exact ⟨q, HQ.out.1, HQ.out.2.1, by rw [HN.out]; rfl, hBr⟩
      · have HM : Hid (chkP 0 [] q = false) := by show _ = _; rw [HN.out]; exact decide_eq_false (by omega)
        have g1 : ((el.length : Int) == 0) = false := beq_eq_false_iff_ne.2 (show ((el.length : Int)) ≠ 0 by omega)
        have g2 : ¬ (el.length : Int) = 0 := by omega
        go_wp2_with fail
        go_ret
        exact ⟨q, HQ.out.1, HQ.out.2.1, by rw [HM.out]; rfl, hBr⟩
end Go.Proofs.Ytnenfflkldpbgaa

/- What awake answers: true. -/
namespace Go.Proofs.Ytnenfflkldpbgaa
open Go.RowKit
set_option linter.unusedVariables false
set_option maxRecDepth 100000

theorem perm2 {α : Type} {q : List α} {a b : α} (h : q.Perm [a, b]) : q = [a, b] ∨ q = [b, a] := by
  match q, h.length_eq with
  | [x, y], _ =>
    have hx : x ∈ [a, b] := h.mem_iff.1 (List.mem_cons_self ..)
    simp only [List.mem_cons, List.not_mem_nil, or_false] at hx
    rcases hx with rfl | rfl
    · have := List.perm_singleton.1 (h.cons_inv)
      simp at this; subst this
      exact .inl rfl
    · have := List.perm_singleton.1 ((h.trans (List.Perm.swap _ _ _)).cons_inv)
      simp at this; subst this
      exact .inr rfl
theorem rd_lit1 (w : World) (x : UInt8) (z : Int) (hz : z = (x.toNat : Int)) (g : Nat) (hg : g = w.heap.size) (t : TypeId) : Rd (w.alloc (.cells #[.int .u8 z] t)) (.slice (some ⟨g, 0, none⟩) 1 1) [x] := by
  subst hz; subst hg
  refine Rd.mk rfl (by simp) (by simp [maxLen]) (fun i hi => ?_)
  obtain rfl : i = 0 := by simpa using hi
  rw [Addr.add_lit, Nat.zero_add, World.cell?_alloc_at _ _ _ _ rfl]; rfl
theorem rdpe_lit1 (w : World) (p : Pe) (z : Int) (hz : z = (p.1.toNat : Int)) (g : Nat) (hg : g = w.heap.size) (t : TypeId) : RdPe (w.alloc (.cells #[.int .u64 z, .int .i64 p.2.1, .bool p.2.2] t)) (.slice (some ⟨g, 0, none⟩) 1 1) [p] := by
  subst hz; subst hg
  refine ⟨some ⟨w.heap.size, 0, none⟩, 1, rfl, by simp, by simp [maxLen], (fun e => by cases e), fun i q hi => ?_⟩
  match i with
  | 0 =>
    simp at hi; subst hi
    refine ⟨_, rfl, ?_, ?_, ?_⟩ <;> rw [Addr.add_lit] <;> simp only [Nat.zero_add, Nat.zero_mul] <;> rw [World.cell?_alloc_at _ _ _ _ rfl] <;> rfl
  | i + 1 => simp at hi
theorem at6_of {w : World} {g o : Nat} {u : V6} {cs : Array Value} {t : TypeId} (h : w.heap[g]? = some (.cells cs t (0, 0))) (hc : ∀ (j : Nat) (x : Value), (c6 u)[j]? = some x → cs[o + j]? = some x) : At6 w ⟨g, o, none⟩ u := fun j x e => by
  by_cases hj : j = 0
  · subst hj
    rw [if_pos rfl, cell_of_row _ _ _ _ _ _ h]
    exact hc 0 x e
  · rw [if_neg hj, cell_of_row _ _ _ _ _ _ h]
    exact hc j x e
theorem rdrs_lit1 (w : World) (r : R3) (hr : It w r) (g : Nat) (hg : g = w.heap.size) (t : TypeId) (cs : Array Value) (hcs : cs = (c6 r.1).toArray) : RdRs (w.alloc (.cells cs t)) (.slice (some ⟨g, 0, none⟩) 1 1) [r] := by
  subst hg; subst hcs
  refine ⟨some ⟨w.heap.size, 0, none⟩, 1, rfl, by simp, by simp [maxLen], fun i q hi => ?_⟩
  match i with
  | 0 =>
    simp at hi; subst hi
    refine ⟨hr.below (g_al _ _) (Nat.le_refl _), _, rfl, ?_⟩
    rw [Addr.add_lit, Nat.zero_add, Nat.zero_mul]
    exact at6_of (heap_alloc_new w _) (fun j x e => by rw [Nat.zero_add]; simpa using e)
  | i + 1 => simp at hi
theorem rdrs_lit2 (w : World) (r r' : R3) (hr : It w r) (hr' : It w r') (g : Nat) (hg : g = w.heap.size) (t : TypeId) (cs : Array Value) (hcs : cs = (c6 r.1 ++ c6 r'.1).toArray) : RdRs (w.alloc (.cells cs t)) (.slice (some ⟨g, 0, none⟩) 2 2) [r, r'] := by
  subst hg; subst hcs
  refine ⟨some ⟨w.heap.size, 0, none⟩, 2, rfl, by simp, by simp [maxLen], fun i q hi => ?_⟩
  match i with
  | 0 =>
    simp at hi; subst hi
    refine ⟨hr.below (g_al _ _) (Nat.le_refl _), _, rfl, ?_⟩
    rw [Addr.add_lit, Nat.zero_add, Nat.zero_mul]
    exact at6_of (heap_alloc_new w _) (fun j x e => by
      have hj : j < 6 := (List.getElem?_eq_some_iff.1 e).1
      rw [Nat.zero_add, List.getElem?_toArray, List.getElem?_append_left hj]; exact e)
  | 1 =>
    simp at hi; subst hi
    refine ⟨hr'.below (g_al _ _) (Nat.le_refl _), _, rfl, ?_⟩
    rw [Addr.add_lit, Nat.zero_add, Nat.one_mul]
    exact at6_of (heap_alloc_new w _) (fun j x e => by
      rw [List.getElem?_toArray, List.getElem?_append_right (by rw [c6_len]; omega), c6_len, Nat.add_sub_cancel_left]; exact e)
  | i + 2 => simp at hi
theorem aw_csp : cspE 1 7 1 [] [] [109] [((1 : UInt64), (1 : Int), false)] [4] = 0 := by decide +kernel
theorem aw_full {u u' : V6} : fullR [(u, [], [109]), (u', [109], [])] = [(u, [], [109]), (u', [109], [])] := by
  have h1 : cov [] [109] [] = true := by decide +kernel
  have h2 : cov [109] [] [109] = true := by decide +kernel
  simp [fullR, h1, h2]
theorem aw_full1 {u : V6} : fullR [(u, [], [109])] = [(u, [], [109])] := by
  have h1 : cov [] [109] [] = true := by decide +kernel
  simp [fullR, h1]
theorem aw_two {u u' : V6} {q : List R3} (hp : q.Perm (fullR [(u, [], [109]), (u', [109], [])])) (hs : q.Pairwise (fun a b => 0 ≤ M.cmpL b.2.1 a.2.1)) : chkP 0 [] q = true := by
  rw [aw_full] at hp
  rcases perm2 hp with rfl | rfl
  · simp [chkP]
  · have := List.rel_of_pairwise_cons hs (List.mem_singleton_self _)
    exact absurd this (by show ¬ 0 ≤ M.cmpL [] [109]; decide)
theorem aw_one {u : V6} {q : List R3} (hp : q.Perm (fullR [(u, [], [109])])) : chkP 0 [] q = false := by
  rw [aw_full1] at hp
  rw [List.perm_singleton.1 hp]
  simp [chkP]
theorem aw_cov : cov [109] [] [122] = true := by decide +kernel

theorem conv_at (w : World) (C : Array Value) (n c g : Nat) (hg : g = w.heap.size) : (convert 23 23 (.slice (some ⟨g, 0, none⟩) n c)).run Try.prog (w.alloc (.cells C 5)) = .ok (.slice (some ⟨g, 0, none⟩) n c) (w.alloc (.cells C 5 (C.size, C.size + 1))) := by
  subst hg; exact Lib.run_convert_bytes_const (P := Try.prog) w 23 5 C n c Try.underlying23 Try.underlying5
theorem rd_litH (w : World) (H : Nat) (hH : w.heap.size = H) (b : UInt8) (z : Int) (hz : z = (b.toNat : Int)) (fr : Nat × Nat) (t : TypeId) : Rd (w.alloc (.cells #[.int .u8 z] t fr)) (.slice (some ⟨H, 0, none⟩) 1 1) [b] := by
  subst hH
  subst hz
  refine Rd.mk rfl (by simp) (by simp [maxLen]) (fun i hi => ?_)
  obtain rfl : i = 0 := by simpa using hi
  have e : (w.alloc (.cells #[.int .u8 (b.toNat : Int)] t fr)).heap[w.heap.size]? = some (.cells #[.int .u8 (b.toNat : Int)] t fr) := by
    show (w.heap.push _)[w.heap.size]? = _
    simp
  rw [Addr.add_lit, Nat.zero_add, cell_of_row _ _ _ _ _ _ e]
  rfl
set_option maxHeartbeats 4000000 in
theorem awake_any (w : World) : Calls Try.prog 9 #[] w fun e w' => e = .returned (.bool true) ∧ Below w.heap.size w w' := by
  have hcv := conv_at
  have hb4 : Below w.heap.size w ((((w.alloc (.cells #[.int .u64 1, .int .i64 1, .bool false] 31)).alloc (.cells #[.int .u64 1, .slice none 0 0, .slice none 0 0, .int .u64 1, .int .u64 1, .slice (some ⟨w.heap.size, 0, none⟩) 1 1] 28)).alloc (.cells #[.int .u8 109] 5 (1, 2))).alloc (.cells #[.int .u64 4] 22)) := (((g_al w _).alloc (by simp) _).alloc (by simp; omega) _).alloc (by simp; omega) _
  have hpe : RdPe ((((w.alloc (.cells #[.int .u64 1, .int .i64 1, .bool false] 31)).alloc (.cells #[.int .u64 1, .slice none 0 0, .slice none 0 0, .int .u64 1, .int .u64 1, .slice (some ⟨w.heap.size, 0, none⟩) 1 1] 28)).alloc (.cells #[.int .u8 109] 5 (1, 2))).alloc (.cells #[.int .u64 4] 22)) (.slice (some ⟨w.heap.size, 0, none⟩) 1 1) [((1 : UInt64), (1 : Int), false)] := (((rdpe_lit1 w ((1 : UInt64), (1 : Int), false) 1 rfl w.heap.size rfl 31).below (g_al _ _) (Nat.le_refl _)).below (g_al _ _) (Nat.le_refl _)).below (g_al _ _) (Nat.le_refl _)
  have hkk : Rd ((((w.alloc (.cells #[.int .u64 1, .int .i64 1, .bool false] 31)).alloc (.cells #[.int .u64 1, .slice none 0 0, .slice none 0 0, .int .u64 1, .int .u64 1, .slice (some ⟨w.heap.size, 0, none⟩) 1 1] 28)).alloc (.cells #[.int .u8 109] 5 (1, 2))).alloc (.cells #[.int .u64 4] 22)) (.slice (some ⟨w.heap.size + 1 + 1, 0, none⟩) 1 1) [109] := (rd_litH ((w.alloc (.cells #[.int .u64 1, .int .i64 1, .bool false] 31)).alloc (.cells #[.int .u64 1, .slice none 0 0, .slice none 0 0, .int .u64 1, .int .u64 1, .slice (some ⟨w.heap.size, 0, none⟩) 1 1] 28)) (w.heap.size + 1 + 1) (by simp) 109 109 rfl (1, 2) 5).below (g_al _ _) (Nat.le_refl _)
  have hnn : Ru ((((w.alloc (.cells #[.int .u64 1, .int .i64 1, .bool false] 31)).alloc (.cells #[.int .u64 1, .slice none 0 0, .slice none 0 0, .int .u64 1, .int .u64 1, .slice (some ⟨w.heap.size, 0, none⟩) 1 1] 28)).alloc (.cells #[.int .u8 109] 5 (1, 2))).alloc (.cells #[.int .u64 4] 22)) (.slice (some ⟨w.heap.size + 1 + 1 + 1, 0, none⟩) 1 1) [4] := ru_one (((w.alloc (.cells #[.int .u64 1, .int .i64 1, .bool false] 31)).alloc (.cells #[.int .u64 1, .slice none 0 0, .slice none 0 0, .int .u64 1, .int .u64 1, .slice (some ⟨w.heap.size, 0, none⟩) 1 1] 28)).alloc (.cells #[.int .u8 109] 5 (1, 2))) 4 4 rfl 22 (w.heap.size + 1 + 1 + 1) (by simp)
  have hsp : Calls Try.prog 34 #[.agg #[.int .u64 1, .slice none 0 0, .slice none 0 0, .int .u64 1, .int .u64 1, .slice (some ⟨w.heap.size, 0, none⟩) 1 1], .slice (some ⟨w.heap.size + 1 + 1, 0, none⟩) 1 1, .int .u64 7, .slice (some ⟨w.heap.size + 1 + 1 + 1, 0, none⟩) 1 1] ((((w.alloc (.cells #[.int .u64 1, .int .i64 1, .bool false] 31)).alloc (.cells #[.int .u64 1, .slice none 0 0, .slice none 0 0, .int .u64 1, .int .u64 1, .slice (some ⟨w.heap.size, 0, none⟩) 1 1] 28)).alloc (.cells #[.int .u8 109] 5 (1, 2))).alloc (.cells #[.int .u64 4] 22)) fun x w' => ∃ sv1 kv1 pv1 kv2 ev2 pv2, x = .returned (.tuple #[.agg #[.int .u64 1, sv1, kv1, .int .u64 1, .int .u64 2, pv1], .agg #[.int .u64 7, kv2, ev2, .int .u64 1, .int .u64 2, pv2], .int .i64 0]) ∧ OwR _ w' sv1 kv1 pv1 [] [109] [((1 : UInt64), (1 : Int), false)] ∧ OwR _ w' kv2 ev2 pv2 [109] [] (numP [((1 : UInt64), (1 : Int), false)] [4]) ∧ Below _ _ w' := split_ok (id := 1) (nid := 7) (vr := 1) (cf := 1) (Rd.nil _) (Rd.nil _) hpe hkk hnn aw_csp (by simp) (by simp) (by simp) (by simp) (by decide) rfl
  go_enter Try.func9, Try.ntmps9
  go_wp2_with fail
  refine hsp.mono ?_
  rintro x w5 ⟨sv1, kv1, pv1, kv2, ev2, pv2, rfl, o1, o2, hb5⟩
  have hB5 : Below w.heap.size w w5 := hb4.trans (hb5.mono hb4.size)
  obtain ⟨a1, d1, rfl⟩ := o1.s.shp
  obtain ⟨a2, d2, rfl⟩ := o1.e.shp
  obtain ⟨a3, d3, rfl⟩ := o1.p.shape
  obtain ⟨f1, g1, rfl⟩ := o2.s.shp
  obtain ⟨f2, g2, rfl⟩ := o2.e.shp
  obtain ⟨f3, g3, rfl⟩ := o2.p.shape
  have HI1 : Hid (It w5 ((1, .slice a1 0 d1, .slice a2 1 d2, 1, 2, .slice a3 1 d3), [], [109])) := ⟨o1.s.rd, o1.e.rd, _, _, _, rfl⟩
  have HI2 : Hid (It w5 ((7, .slice f1 1 g1, .slice f2 0 g2, 1, 2, .slice f3 1 g3), [109], [])) := ⟨o2.s.rd, o2.e.rd, _, _, _, rfl⟩
  have hn3 : (numP [((1 : UInt64), (1 : Int), false)] [4]).length = 1 := rfl
  simp only [List.length_nil, List.length_cons, Nat.zero_add, hn3]
  clear hsp hpe hkk hnn o1 o2
  go_wp2_with fail
  have hW6 : Below w5.heap.size w5 ((w5.alloc (.cells #[.int .u64 1, .slice a1 0 d1, .slice a2 1 d2, .int .u64 1, .int .u64 2, .slice a3 1 d3] 28)).alloc (.cells #[.int .u64 7, .slice f1 1 g1, .slice f2 0 g2, .int .u64 1, .int .u64 2, .slice f3 1 g3] 28)) := (g_al w5 _).alloc (by simp) _
  have hz6 : ((w5.alloc (.cells #[.int .u64 1, .slice a1 0 d1, .slice a2 1 d2, .int .u64 1, .int .u64 2, .slice a3 1 d3] 28)).alloc (.cells #[.int .u64 7, .slice f1 1 g1, .slice f2 0 g2, .int .u64 1, .int .u64 2, .slice f3 1 g3] 28)).heap.size = w5.heap.size + 1 + 1 := by simp
  have hl6 : ((w5.alloc (.cells #[.int .u64 1, .slice a1 0 d1, .slice a2 1 d2, .int .u64 1, .int .u64 2, .slice a3 1 d3] 28)).alloc (.cells #[.int .u64 7, .slice f1 1 g1, .slice f2 0 g2, .int .u64 1, .int .u64 2, .slice f3 1 g3] 28)).heap[w5.heap.size]? = some (.cells #[.int .u64 1, .slice a1 0 d1, .slice a2 1 d2, .int .u64 1, .int .u64 2, .slice a3 1 d3] 28 (0, 0)) := (Below.heap_alloc _ _ _ (by simp)).trans (heap_alloc_new w5 _)
  have hh6 : ((w5.alloc (.cells #[.int .u64 1, .slice a1 0 d1, .slice a2 1 d2, .int .u64 1, .int .u64 2, .slice a3 1 d3] 28)).alloc (.cells #[.int .u64 7, .slice f1 1 g1, .slice f2 0 g2, .int .u64 1, .int .u64 2, .slice f3 1 g3] 28)).heap[w5.heap.size + 1]? = some (.cells #[.int .u64 7, .slice f1 1 g1, .slice f2 0 g2, .int .u64 1, .int .u64 2, .slice f3 1 g3] 28 (0, 0)) := by
    have := heap_alloc_new (w5.alloc (.cells #[.int .u64 1, .slice a1 0 d1, .slice a2 1 d2, .int .u64 1, .int .u64 2, .slice a3 1 d3] 28)) (.cells #[.int .u64 7, .slice f1 1 g1, .slice f2 0 g2, .int .u64 1, .int .u64 2, .slice f3 1 g3] 28)
    rw [World.size_alloc] at this
    exact this
  have hrd := rdrs_lit2 ((w5.alloc (.cells #[.int .u64 1, .slice a1 0 d1, .slice a2 1 d2, .int .u64 1, .int .u64 2, .slice a3 1 d3] 28)).alloc (.cells #[.int .u64 7, .slice f1 1 g1, .slice f2 0 g2, .int .u64 1, .int .u64 2, .slice f3 1 g3] 28)) _ _ (HI1.out.below hW6 (Nat.le_refl _)) (HI2.out.below hW6 (Nat.le_refl _)) (w5.heap.size + 1 + 1) (by simp) 28 _ rfl
  have hpt := partition_any hrd (by simp) (by rw [aw_full]; simp)
  generalize ((w5.alloc (.cells #[.int .u64 1, .slice a1 0 d1, .slice a2 1 d2, .int .u64 1, .int .u64 2, .slice a3 1 d3] 28)).alloc (.cells #[.int .u64 7, .slice f1 1 g1, .slice f2 0 g2, .int .u64 1, .int .u64 2, .slice f3 1 g3] 28)) = X6 at *
  refine Calls.mono hpt ?_
  rintro x w7 ⟨q, hqp, hqs, rfl, hb7⟩
  rw [aw_two hqp hqs]
  have hb67 : Below X6.heap.size X6 w7 := (g_al X6 _).trans (hb7.mono (g_al X6 _).size)
  have HL : Hid (∀ W, Below X6.heap.size X6 W → W.heap[w5.heap.size]? = some (.cells #[.int .u64 1, .slice a1 0 d1, .slice a2 1 d2, .int .u64 1, .int .u64 2, .slice a3 1 d3] 28 (0, 0)) ∧ W.heap[w5.heap.size + 1]? = some (.cells #[.int .u64 7, .slice f1 1 g1, .slice f2 0 g2, .int .u64 1, .int .u64 2, .slice f3 1 g3] 28 (0, 0))) := fun W hW => ⟨(hW.block _ (lt_of_some hl6)).trans hl6, (hW.block _ (lt_of_some hh6)).trans hh6⟩
  obtain ⟨l0, l1, l2, l3, l4, l5, _⟩ := cells6 (HL.out w7 hb67).1
  have hrd1 := rdrs_lit1 w7 _ ((HI1.out.below hW6 (Nat.le_refl _)).below hb67 (Nat.le_refl _)) w7.heap.size rfl 28 _ rfl
  have hpt1 := partition_any hrd1 (by simp) (by rw [aw_full1]; simp)
  clear hrd hpt hqp hqs hrd1 hz6 hl6 hh6
  go_wp2_with fail
  refine Calls.mono hpt1 ?_
  rintro x w8 ⟨q1, hq1p, _, rfl, hb8⟩
  rw [aw_one hq1p]
  have hb68 : Below X6.heap.size X6 w8 := hb67.trans (((g_al w7 _).trans (hb8.mono (g_al w7 _).size)).mono hb67.size)
  clear l0 l1 l2 l3 l4 l5
  obtain ⟨m0, m1, m2, m3, m4, m5, _⟩ := cells6 (HL.out w8 hb68).2
  have HI8 := (HI2.out.below hW6 (Nat.le_refl _)).below hb68 (Nat.le_refl _)
  have hb58 : Below w.heap.size w w8 := hB5.trans ((hW6.trans (hb68.mono hW6.size)).mono hB5.size)
  have hcz : Calls Try.prog 21 #[.agg #[.int .u64 7, .slice f1 1 g1, .slice f2 0 g2, .int .u64 1, .int .u64 2, .slice f3 1 g3], .slice (some ⟨w8.heap.size, 0, none⟩) 1 1] (w8.alloc (.cells #[.int .u8 122] 5 (1, 2))) fun x w' => x = .returned (.bool true) ∧ Below (w8.alloc (.cells #[.int .u8 122] 5 (1, 2))).heap.size (w8.alloc (.cells #[.int .u8 122] 5 (1, 2))) w' := by
    have := covers_any (i := 7) (c := 1) (r := 2) (pa := f3) (pn := 1) (pk := g3) (HI8.s.alloc (.cells #[.int .u8 122] 5 (1, 2))) (HI8.e.alloc (.cells #[.int .u8 122] 5 (1, 2))) (rd_litH w8 _ rfl 122 122 rfl (1, 2) 5)
    rw [aw_cov] at this
    exact this
  clear hpt1 hq1p
  go_wp2_with fail
  refine Calls.mono hcz ?_
  rintro x w9 ⟨rfl, hb9⟩
  go_wp2_with fail
  go_ret
  exact ⟨rfl, (hb58.alloc hb58.size _).trans (hb9.mono (Nat.le_trans hb58.size (g_al w8 _).size))⟩
end Go.Proofs.Ytnenfflkldpbgaa
