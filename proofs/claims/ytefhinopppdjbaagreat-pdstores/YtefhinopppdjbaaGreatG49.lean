/- What PdStores keeps. -/
import Derived.Test.YtefhinopppdjbaaGreatG48
import Derived.Test.YtefhinopppdjbaaGreatG46
namespace Go.Proofs.YtefhinopppdjbaaGreat
open Go.RowKit Go.Maps
set_option linter.unusedVariables false
set_option linter.unusedSimpArgs false
set_option maxRecDepth 100000

/-- A row of six values. -/
structure Six (T : TypeId) (g : Nat) (xs : List Value) (w : World) : Prop where
  blk : w.heap[g]? = some (.cells xs.toArray T (0, 0))
  len : xs.length = 6
section
variable {T : TypeId} {g : Nat} {xs ys : List Value} {w w' : World} {B p n la lb : Nat} {f : Int → Option Nat} {d : DC} {w0 : World}
theorem Six.cell (h : Six T g xs w) {i : Nat} {u : Value} (hu : xs[i]? = some u) : w.cell? ⟨g, i, none⟩ = some u := by
  rw [cell_of_row _ _ _ _ _ _ h.blk]; simpa using hu
theorem Six.froz (h : Six T g xs w) (i : Nat) : w.frozen? ⟨g, i, none⟩ = false := frozen_of_row _ _ _ _ _ h.blk
theorem Six.lt (h : Six T g xs w) : g < w.heap.size := (Array.getElem?_eq_some_iff.1 h.blk).1
theorem Six.next {S : Nat → Prop} (h : Six T g xs w) (hc : Chg S w w') (hg : ¬ S g) : Six T g xs w' := ⟨by rw [hc.block g h.lt hg]; exact h.blk, h.len⟩
theorem Six.ik (h : Six T g xs w) (hT : T ≠ 53 ∧ T ≠ 59) (hi : Ik B w w') : Six T g xs w' := ⟨hi.block h.blk (fun q => by rcases q with q | q; exact hT.1 q; exact hT.2 q), h.len⟩
theorem Six.set (h : Six T g xs w) (i : Nat) (u : Value) : Six T g (xs.set i u) (w.setCell ⟨g, i, none⟩ u) := by
  refine ⟨?_, by rw [List.length_set]; exact h.len⟩
  rw [heap_setCell_same _ _ i _ _ _ h.blk]
  simp
theorem Six.ne {T' : TypeId} {g' : Nat} {xs' : List Value} (h : Six T g xs w) (h' : Six T' g' xs' w) (hT : T ≠ T') : g ≠ g' := by
  rintro rfl
  have e := h.blk
  rw [h'.blk] at e
  have := Option.some.inj e
  simp only [Obj.cells.injEq] at this
  exact hT this.2.1.symm
/-- What the law has noted. -/
def Noted (f : Int → Option Nat) (xs ys : List Value) : Prop := ∀ s : Nat, 1 ≤ s → s ≤ 5 → xs[s]? = some (.int .u64 (((f (s : Int)).getD 0 : Nat) : Int)) ∧ ys[s]? = some (.bool (f (s : Int)).isSome)
structure SI (B p la lb : Nat) (w0 : World) (d : DC) (f : Int → Option Nat) (n : Nat) (xs ys : List Value) (w : World) : Prop where
  gw : GW B p d w0 w []
  hd : Hd B d.hm n f w
  six : Six 23 la xs w
  siy : Six 4 lb ys w
  lo : B ≤ la ∧ B ≤ lb
  cl : ∀ x c, f x = some c → c ≤ d.c
theorem SI.sz (h : SI B p la lb w0 d f n xs ys w) : B ≤ w.heap.size := by have := h.six.lt; have := h.lo.1; omega
theorem SI.al (h : SI B p la lb w0 d f n xs ys w) (o : Obj) : SI B p la lb w0 d f n xs ys (w.alloc o) :=
  ⟨h.gw.al h.sz o, h.hd.below (h_al w o) (Nat.le_refl _), h.six.next (Chg.of_below (h_al w o)) (fun q => by have := h.six.lt; omega), h.siy.next (Chg.of_below (h_al w o)) (fun q => by have := h.siy.lt; omega), h.lo, h.cl⟩
theorem SI.bel (h : SI B p la lb w0 d f n xs ys w) (hb : Below w.heap.size w w') : SI B p la lb w0 d f n xs ys w' :=
  ⟨⟨h.gw.rg.below hb (Nat.le_refl _), h.gw.hp, h.gw.bl.trans (hb.mono h.sz)⟩, h.hd.below hb (Nat.le_refl _), h.six.next (Chg.of_below hb) (fun q => by have := h.six.lt; omega), h.siy.next (Chg.of_below hb) (fun q => by have := h.siy.lt; omega), h.lo, h.cl⟩
theorem SI.tick {x : Option Addr × Nat × Nat} {H' : List EN} (h : SI B p la lb w0 d f n xs ys w) (hT : Tu B p { d with c := d.c + 1 } w w' x H') (hp : H'.Perm (stayE (d.c + 1) [])) : SI B p la lb w0 { ({ d with c := d.c + 1 } : DC) with ev := x } f n xs ys w' := by
  obtain rfl : H' = [] := List.Perm.eq_nil hp
  have hS : ∀ b, RgS p { d with c := d.c + 1 } b → Tn B w b ∧ b ≠ d.hm := fun b q => by
    have q' : RgS p d b := q
    refine ⟨h.gw.rg.tn q', ?_⟩
    rcases q' with rfl | q'
    · exact h.hd.nem h.gw.rg.drv
    · obtain ⟨_, cs, fr, e⟩ := row_blk h.gw.rg.row q'
      exact h.hd.nem e
  have hik : Ik B w w' := Ik.of_chg hT.ch (fun b _ q => (hS b q).1)
  exact ⟨h.gw.next rfl h.sz hT, h.hd.next hT.ch (fun q => (hS _ q).2 rfl), h.six.ik (by decide) hik, h.siy.ik (by decide) hik, h.lo, fun y c hy => Nat.le_trans (h.cl y c hy) (Nat.le_succ _)⟩
theorem SI.hear (h : SI B p la lb w0 d f n xs ys w) {k : Int} (hd : Hd B d.hm (n + 1) (updF f k d.c) w') (hc : Chg (fun b => b = d.hm) w w') : SI B p la lb w0 d (updF f k d.c) (n + 1) xs ys w' := by
  have hml : B ≤ d.hm := by obtain ⟨D, q⟩ := h.hd; exact q.lo
  have hne : ∀ {b : Nat} {cs : Array Value} {t : TypeId} {fr : Nat × Nat}, w.heap[b]? = some (.cells cs t fr) → ¬ (b = d.hm) := fun hb q => h.hd.nem hb q
  refine ⟨⟨h.gw.rg.kept hc (hne h.gw.rg.drv) (fun b q => by obtain ⟨_, cs, fr, e⟩ := row_blk h.gw.rg.row q; exact hne e), h.gw.hp, h.gw.bl.trans (Chg.below hc (fun b q => by have q' : b = d.hm := q; rw [q']; exact hml) h.sz)⟩, hd, h.six.next hc (hne h.six.blk), h.siy.next hc (hne h.siy.blk), h.lo, fun y c hy => ?_⟩
  unfold updF at hy
  split at hy
  · obtain rfl := Option.some.inj hy; exact Nat.le_refl _
  · exact h.cl y c hy
theorem SI.setY (h : SI B p la lb w0 d f n xs ys w) (i : Nat) (u : Value) : SI B p la lb w0 d f n xs (ys.set i u) (w.setCell ⟨lb, i, none⟩ u) := by
  have hc : Chg (fun b => b = lb) w (w.setCell ⟨lb, i, none⟩ u) := (Chg.refl _ w).put _ _ _ rfl
  have hne : ∀ {b : Nat} {cs : Array Value} {t : TypeId} {fr : Nat × Nat}, w.heap[b]? = some (.cells cs t fr) → t ≠ 4 → ¬ (b = lb) := fun hb ht q => by
    rw [q, h.siy.blk] at hb
    have := Option.some.inj hb
    simp only [Obj.cells.injEq] at this
    exact ht this.2.1.symm
  refine ⟨⟨h.gw.rg.kept hc (hne h.gw.rg.drv (by decide)) (fun b q => by obtain ⟨_, cs, fr, e⟩ := row_blk h.gw.rg.row q; exact hne e (by decide)), h.gw.hp, h.gw.bl.trans (Chg.below hc (fun b q => by have q' : b = lb := q; rw [q']; exact h.lo.2) h.sz)⟩, h.hd.next hc (fun q => h.hd.nem h.siy.blk (Eq.symm q)), h.six.next hc (hne h.six.blk (by decide)), h.siy.set i u, h.lo, h.cl⟩
theorem SI.setX (h : SI B p la lb w0 d f n xs ys w) (i : Nat) (u : Value) : SI B p la lb w0 d f n (xs.set i u) ys (w.setCell ⟨la, i, none⟩ u) := by
  have hc : Chg (fun b => b = la) w (w.setCell ⟨la, i, none⟩ u) := (Chg.refl _ w).put _ _ _ rfl
  have hne : ∀ {b : Nat} {cs : Array Value} {t : TypeId} {fr : Nat × Nat}, w.heap[b]? = some (.cells cs t fr) → t ≠ 23 → ¬ (b = la) := fun hb ht q => by
    rw [q, h.six.blk] at hb
    have := Option.some.inj hb
    simp only [Obj.cells.injEq] at this
    exact ht this.2.1.symm
  refine ⟨⟨h.gw.rg.kept hc (hne h.gw.rg.drv (by decide)) (fun b q => by obtain ⟨_, cs, fr, e⟩ := row_blk h.gw.rg.row q; exact hne e (by decide)), h.gw.hp, h.gw.bl.trans (Chg.below hc (fun b q => by have q' : b = la := q; rw [q']; exact h.lo.1) h.sz)⟩, h.hd.next hc (fun q => h.hd.nem h.six.blk (Eq.symm q)), h.six.set i u, h.siy.next hc (hne h.siy.blk (by decide)), h.lo, h.cl⟩
theorem Noted.upd (h : Noted f xs ys) (h6 : xs.length = 6) (h7 : ys.length = 6) {k : Nat} (hk : 1 ≤ k ∧ k ≤ 5) (c : Nat) : Noted (updF f (k : Int) c) (xs.set k (.int .u64 (c : Int))) (ys.set k (.bool true)) := by
  intro s h1 h2
  unfold updF
  by_cases e : s = k
  · subst e
    rw [if_pos rfl, List.getElem?_set_self (by omega), List.getElem?_set_self (by omega)]
    exact ⟨rfl, rfl⟩
  · rw [if_neg (by omega), List.getElem?_set_ne (fun q => e q.symm), List.getElem?_set_ne (fun q => e q.symm)]
    exact h s h1 h2
theorem dhear (k : Int) (hk : 1 ≤ k ∧ k ≤ 5) (hd : Drv p d w) (h : Hd B d.hm n f w) (hn : n < 1048576) :
    Calls Tryz.prog 7 #[.pointer (some ⟨p, 0, none⟩), .agg (pcA (pc0 4 0 0 0 k))] w fun e w' => e = .returned (prA 0 0 0) ∧ Hd B d.hm (n + 1) (updF f k d.c) w' ∧ Chg (fun b => b = d.hm) w w' := by
  have hml := h.lt
  have htn : ∀ W, Hd B d.hm n f W → Tn B W d.hm := fun W hW => by
    obtain ⟨D, q⟩ := hW
    obtain ⟨es, cl, hh, _⟩ := q.map
    exact ⟨q.lo, _, hh, trivial⟩
  have := do_any (pc0 4 0 0 0 k) 4 20 rfl (by decide) (by decide) rfl (enters_of Tryz.func20 (by kernel_rfl) rfl) (p := p) (B := B) (w := w) (P := fun er m st w' => er = 0 ∧ m = 0 ∧ st = 0 ∧ Hd B d.hm (n + 1) (updF f k d.c) w' ∧ Chg (fun b => b = d.hm) w w')
    (fun W hb => (hear_any (pc0 4 0 0 0 k) hk (hd.belowN hb (Nat.le_refl _)) (h.below hb (Nat.le_refl _)) hn).mono (fun e w' q => ⟨_, _, _, q.1, ⟨rfl, rfl, rfl, q.2.1, chg_of_bl hb q.2.2⟩, Ik.of_chg q.2.2 (fun b _ e => by rw [show b = d.hm from e]; exact htn W (h.below hb (Nat.le_refl _)))⟩))
    (fun er m st w1 w2 q hbx hc => ⟨q.1, q.2.1, q.2.2.1, q.2.2.2.1.next hc (by show ¬ d.hm = _; omega), q.2.2.2.2.trans (hc.mono (fun b _ q => .inr (by omega)))⟩)
  refine this.mono ?_
  rintro e w' ⟨er, m, st, rfl, ⟨rfl, rfl, rfl, q1, q2⟩, _⟩
  exact ⟨rfl, q1, q2⟩
end
/-- Of a rising list the first at are below s, the others not. -/
def Cnt (r : List Int) (s : Int) (at' : Nat) : Prop := at' ≤ r.length ∧ (∀ i x, i < at' → r[i]? = some x → x < s) ∧ ∀ i x, at' ≤ i → r[i]? = some x → s ≤ x
theorem Cnt.hit {r : List Int} {s : Int} {at' : Nat} (hp : r.Pairwise (fun x y => x < y)) (h : Cnt r s at') (hs : s ∈ r) : at' < r.length ∧ r[at']? = some s ∧ Cnt r (s + 1) (at' + 1) := by
  obtain ⟨h1, h2, h3⟩ := h
  obtain ⟨i, hi⟩ := List.mem_iff_getElem?.1 hs
  have hil := (List.getElem?_eq_some_iff.1 hi).1
  have hlt : ∀ a b x y, a < b → r[a]? = some x → r[b]? = some y → x < y := fun a b x y hab ha hb => by
    obtain ⟨q1, rfl⟩ := List.getElem?_eq_some_iff.1 ha
    obtain ⟨q2, rfl⟩ := List.getElem?_eq_some_iff.1 hb
    exact List.pairwise_iff_getElem.1 hp a b q1 q2 hab
  have hai : ¬ i < at' := fun q => by have := h2 i s q hi; omega
  have hal : at' < r.length := by omega
  obtain ⟨y, hy⟩ : ∃ y, r[at']? = some y := ⟨_, List.getElem?_eq_getElem hal⟩
  have hia : i = at' := by
    rcases Nat.lt_or_ge at' i with q | q
    · have := hlt at' i y s q hy hi
      have := h3 at' y (Nat.le_refl _) hy
      omega
    · omega
  subst hia
  refine ⟨hal, hi, by omega, fun a x ha hx => ?_, fun a x ha hx => ?_⟩
  · rcases Nat.lt_or_ge a i with q | q
    · have := h2 a x q hx; omega
    · obtain rfl : a = i := by omega
      rw [hi] at hx; obtain rfl := Option.some.inj hx; omega
  · have := hlt i a s x (by omega) hi hx; omega
theorem Cnt.miss {r : List Int} {s : Int} {at' : Nat} (h : Cnt r s at') (hs : s ∉ r) : Cnt r (s + 1) at' := by
  obtain ⟨h1, h2, h3⟩ := h
  refine ⟨h1, fun i x hi hx => by have := h2 i x hi hx; omega, fun i x hi hx => ?_⟩
  have := h3 i x hi hx
  have : x ≠ s := fun q => hs (by rw [← q]; exact List.mem_of_getElem? hx)
  omega
theorem Cnt.all {r : List Int} {s : Int} {at' : Nat} (h : Cnt r s at') (hs : ∀ x ∈ r, x < s) : at' = r.length := by
  obtain ⟨h1, h2, h3⟩ := h
  rcases Nat.lt_or_ge at' r.length with q | q
  · obtain ⟨y, hy⟩ : ∃ y, r[at']? = some y := ⟨_, List.getElem?_eq_getElem q⟩
    have := h3 at' y (Nat.le_refl _) hy
    have := hs y (List.mem_of_getElem? hy)
    omega
  · omega
end Go.Proofs.YtefhinopppdjbaaGreat
