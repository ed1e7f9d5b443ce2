/- A box in memory: 'BxI': a Box struct in block d whose map in block m holds just the parts of ps, each in bytes of its own. -/
import Derived.Test.YtlajncjamafomaaG11
import Derived.Test.YtlajncjamafomaaG3
import Derived.Maps.OwnSet
import Derived.Maps.Keyed
import Derived.Maps.RangeWalk
import Derived.Carry
namespace Go.Proofs.Ytlajncjamafomaa
open Go.RowKit Go.Maps
set_option linter.unusedVariables false
set_option maxRecDepth 100000

/-- How a part's slice reads: as itself. -/
def elR : Value → Option (DataW Value × List MemPlace)
  | .slice a n c => some (.held (.slice a n c), [])
  | _ => none
theorem elR_inv {v : Value} {y : DataW Value × List MemPlace} (h : elR v = some y) : ∃ a n c, v = .slice a n c ∧ y = (.held v, []) := by
  unfold elR at h
  split at h
  · exact ⟨_, _, _, rfl, (Option.some.inj h).symm⟩
  · cases h
theorem Try.keyedN : Maps.Keyed Try.prog 64 := Maps.int_keyed Try.underlying64
def kN (i : Nat) : Lit := .int .u64 (i : Int)
theorem kN_inj {i j : Nat} (h : kN i = kN j) : i = j := by
  simp only [kN, Lit.int.injEq, true_and] at h
  omega
theorem keyN (i : Nat) (h : i < 18446744073709551616) : keyOf Try.prog 64 (.int .u64 (i : Int)) = some (kN i) :=
  Maps.keyOf_int_mk Try.underlying64 (by simp [Lit.wf, IntKind.min, IntKind.max, IntKind.signed, IntKind.bits]; omega)
theorem Try.zeroSl (w : World) : (zeroValue 22).run Try.prog w = .ok (.slice none 0 0) w := by kernel_rfl
theorem ownsMap_low {H : Type} {P : Program} {k : TypeId} {R : Value → Option (DataW H × List MemPlace)} {w : World} {b n : Nat} {D : DataW H} (h : w.ownsMap P k R b n D) : w.ownsMap P k R b (Maps.size D) D := by
  obtain ⟨es, clock, hb, F, hs, rfl⟩ := h
  refine ⟨es, clock, hb, F, ?_, rfl⟩
  rw [Maps.size_eq, length_sorted]
  simp
theorem ownsMap_chg {H : Type} {P : Program} {k : TypeId} {R : Value → Option (DataW H × List MemPlace)} {w w' : World} {b n : Nat} {D : DataW H} {S : Nat → Prop} (h : w.ownsMap P k R b n D) (hc : Chg S w w') (hb : ¬ S b) : w'.ownsMap P k R b n D := by
  obtain ⟨es, clock, hh, r⟩ := h
  exact ⟨es, clock, by rw [hc.block b (Array.getElem?_eq_some_iff.1 hh).1 hb]; exact hh, r⟩

theorem bx_new (w : World) (o : Obj) : (w.alloc o).heap[w.heap.size]? = some o := by
  show (w.heap.push _)[_]? = _
  simp

/-- The box behind a part that is there already or not. -/
def putP (ps : List (Nat × List UInt8)) (i : Nat) (p : List UInt8) : List (Nat × List UInt8) := if (lkP ps i).isSome then ps else insP ps i p

structure BxI (B C d m : Nat) (D : DataW Value) (s n k : Nat) (ps : List (Nat × List UInt8)) (fv : Nat → Value) (w : World) : Prop where
  cell : w.heap[d]? = some (.cells #[.int .u64 (s : Int), .int .u64 (n : Int), .int .u64 (k : Int), .map (some m)] 76 (0, 0))
  map : w.ownsMap Try.prog 64 elR m ps.length D
  has : ∀ i, Maps.has D (kN i) = (lkP ps i).isSome
  at_ : ∀ i l, lkP ps i = some l → D.atKey (kN i) (.held (.slice none 0 0)) = .held (fv i)
  size : Maps.size D = ps.length
  el : ∀ i l, lkP ps i = some l → Ow 0 w (fv i) l
  rs : RsP ps
  kb : ∀ x ∈ ps, x.1 < k ∧ x.2.length ≤ n
  k64 : k < 18446744073709551616
  n20 : n ≤ 1048576
  s32 : s < 4294967296
  lo : B ≤ d ∧ B ≤ m
  hi : d < C ∧ m < C
  cw : C ≤ w.heap.size
/-- A box. -/
def Bx (B C d s n k : Nat) (ps : List (Nat × List UInt8)) (w : World) : Prop := ∃ m D fv, BxI B C d m D s n k ps fv w

theorem ow_ne {B g : Nat} {w : World} {v : Value} {l : List UInt8} {cs : Array Value} {t : TypeId} {fr : Nat × Nat} (h : Ow B w v l) (hg : w.heap[g]? = some (.cells cs t fr)) (ht : t ≠ 5) (b : Nat) (e : v.ownBlock = some b) : b ≠ g := by
  rcases h.2 with ⟨rfl, _⟩ | ⟨g', cap, cur, rfl, _, hh, _⟩
  · cases e
  · obtain rfl : g' = b := Option.some.inj e
    rintro rfl
    rw [hh] at hg
    have := Option.some.inj hg
    simp only [Obj.cells.injEq] at this
    exact ht this.2.1.symm
theorem ow_ne_map {B g : Nat} {w : World} {v : Value} {l : List UInt8} {es : Array MapEntry} {c : Nat} (h : Ow B w v l) (hg : w.heap[g]? = some (.map es c)) (b : Nat) (e : v.ownBlock = some b) : b ≠ g := by
  rcases h.2 with ⟨rfl, _⟩ | ⟨g', cap, cur, rfl, _, hh, _⟩
  · cases e
  · obtain rfl : g' = b := Option.some.inj e
    rintro rfl
    rw [hh] at hg
    cases hg

section
variable {B C d m : Nat} {D : DataW Value} {s n k : Nat} {ps : List (Nat × List UInt8)} {fv : Nat → Value} {w w' : World}

theorem BxI.nd (h : BxI B C d m D s n k ps fv w) : d ≠ m := by
  obtain ⟨es, c, hb, _⟩ := h.map
  rintro rfl
  rw [h.cell] at hb
  cases hb
theorem BxI.next {S : Nat → Prop} (h : BxI B C d m D s n k ps fv w) (hc : Chg S w w') (hd : ¬ S d) (hm : ¬ S m) (hf : ∀ i l, lkP ps i = some l → ∀ b, (fv i).ownBlock = some b → ¬ S b) : BxI B C d m D s n k ps fv w' :=
  ⟨by rw [hc.block d (Array.getElem?_eq_some_iff.1 h.cell).1 hd]; exact h.cell, ownsMap_chg h.map hc hm, h.has, h.at_, h.size, fun i l e => (h.el i l e).keptC hc (hf i l e), h.rs, h.kb, h.k64, h.n20, h.s32, h.lo, h.hi, Nat.le_trans h.cw hc.size⟩
theorem BxI.below {E : Nat} (h : BxI B C d m D s n k ps fv w) (hb : Below E w w') (hE : w.heap.size ≤ E) : BxI B C d m D s n k ps fv w' :=
  h.next (Chg.of_below hb) (by have := h.hi; have := h.cw; omega) (by have := h.hi; have := h.cw; omega) (fun i l e b q => by have := (World.ownsRow.lt (h.el i l e) b q).2; omega)
theorem Bx.below {E : Nat} (h : Bx B C d s n k ps w) (hb : Below E w w') (hE : w.heap.size ≤ E) : Bx B C d s n k ps w' := by
  obtain ⟨m, D, fv, h⟩ := h
  exact ⟨m, D, fv, h.below hb hE⟩
/-- The box's own cells. -/
theorem BxI.cells (h : BxI B C d m D s n k ps fv w) : w.cell? ⟨d, 0, none⟩ = some (.int .u64 (s : Int)) ∧ w.cell? ⟨d, 1, none⟩ = some (.int .u64 (n : Int)) ∧ w.cell? ⟨d, 2, none⟩ = some (.int .u64 (k : Int)) ∧ w.cell? ⟨d, 3, none⟩ = some (.map (some m)) ∧ ∀ i, w.frozen? ⟨d, i, none⟩ = false :=
  ⟨by rw [cell_of_row _ _ _ _ _ _ h.cell]; rfl, by rw [cell_of_row _ _ _ _ _ _ h.cell]; rfl, by rw [cell_of_row _ _ _ _ _ _ h.cell]; rfl, by rw [cell_of_row _ _ _ _ _ _ h.cell]; rfl, fun i => frozen_of_row _ _ _ _ _ h.cell⟩
theorem BxI.shape (h : BxI B C d m D s n k ps fv w) {i : Nat} {l : List UInt8} (e : lkP ps i = some l) : ∃ a c, fv i = .slice a l.length c := by
  obtain ⟨ao, c, q, _⟩ := (h.el i l e).rd
  exact ⟨_, _, q⟩
theorem BxI.look_some (h : BxI B C d m D s n k ps fv w) {i : Nat} {l : List UInt8} (e : lkP ps i = some l) (hi : i < 18446744073709551616) :
    (Instr.lookup 74 (.map (some m)) (.int .u64 (i : Int)) true).run Try.prog w = .ok (.tuple #[fv i, .bool true]) w := by
  obtain ⟨v, qs, hr, hv⟩ := h.map.look_ok Try.keyedN Try.underlying74 (Try.zeroSl w) (zd := .held (.slice none 0 0)) (zp := []) rfl (keyN i hi)
  rw [h.at_ i l e] at hv
  rw [h.has i, e] at hr
  obtain ⟨a, x, c, rfl, q⟩ := elR_inv hv
  have := (Prod.mk.inj q).1
  simp only [DataW.held.injEq] at this
  rw [hr, this]
  rfl
theorem BxI.look_none (h : BxI B C d m D s n k ps fv w) {i : Nat} (e : lkP ps i = none) (hi : i < 18446744073709551616) :
    (Instr.lookup 74 (.map (some m)) (.int .u64 (i : Int)) true).run Try.prog w = .ok (.tuple #[.slice none 0 0, .bool false]) w := by
  obtain ⟨v, qs, hr, hv⟩ := h.map.look_ok Try.keyedN Try.underlying74 (Try.zeroSl w) (zd := .held (.slice none 0 0)) (zp := []) rfl (keyN i hi)
  have hn : Maps.has D (kN i) = false := by rw [h.has i, e]; rfl
  rw [Maps.atKey_of_not_has hn] at hv
  rw [hn] at hr
  obtain ⟨a, x, c, rfl, q⟩ := elR_inv hv
  have := (Prod.mk.inj q).1
  simp only [DataW.held.injEq] at this
  rw [hr, ← this]
theorem BxI.look1 (h : BxI B C d m D s n k ps fv w) {i : Nat} {l : List UInt8} (e : lkP ps i = some l) (hi : i < 18446744073709551616) :
    (Instr.lookup 74 (.map (some m)) (.int .u64 (i : Int)) false).run Try.prog w = .ok (fv i) w := by
  obtain ⟨v, qs, hr, hv⟩ := h.map.lookup (t := 74) Try.keyedN Try.underlying74 (Try.zeroSl w) (zd := .held (.slice none 0 0)) (zp := []) rfl (keyN i hi)
  rw [h.at_ i l e] at hv
  obtain ⟨a, x, c, rfl, q⟩ := elR_inv hv
  have := (Prod.mk.inj q).1
  simp only [DataW.held.injEq] at this
  rw [hr, this]

/-- A box whose parts lie in blocks of T. -/
def BxT (T : Nat → Prop) (B C d s n k : Nat) (ps : List (Nat × List UInt8)) (w : World) : Prop := ∃ m D fv, BxI B C d m D s n k ps fv w ∧ ∀ i l, lkP ps i = some l → ∀ b, (fv i).ownBlock = some b → T b
theorem BxT.bx {T : Nat → Prop} (h : BxT T B C d s n k ps w) : Bx B C d s n k ps w := by
  obtain ⟨m, D, fv, h, _⟩ := h
  exact ⟨m, D, fv, h⟩
theorem Bx.any (h : Bx B C d s n k ps w) : BxT (fun _ => True) B C d s n k ps w := by
  obtain ⟨m, D, fv, h⟩ := h
  exact ⟨m, D, fv, h, fun _ _ _ _ _ => trivial⟩
theorem BxT.mono {T T' : Nat → Prop} (h : BxT T B C d s n k ps w) (hT : ∀ b, b < w.heap.size → T b → T' b) : BxT T' B C d s n k ps w := by
  obtain ⟨m, D, fv, h, q⟩ := h
  exact ⟨m, D, fv, h, fun i l e b e2 => hT b (World.ownsRow.lt (h.el i l e) b e2).2 (q i l e b e2)⟩
theorem BxT.next {T S : Nat → Prop} (h : BxT T B C d s n k ps w) (hc : Chg S w w') (hS : ∀ b, b < C → ¬ S b) (hT : ∀ b, b < w.heap.size → T b → ¬ S b) : BxT T B C d s n k ps w' := by
  obtain ⟨m, D, fv, h, q⟩ := h
  exact ⟨m, D, fv, h.next hc (hS d h.hi.1) (hS m h.hi.2) (fun i l e b e2 => hT b (World.ownsRow.lt (h.el i l e) b e2).2 (q i l e b e2)), q⟩
theorem BxT.below {T : Nat → Prop} {E : Nat} (h : BxT T B C d s n k ps w) (hb : Below E w w') (hE : w.heap.size ≤ E) : BxT T B C d s n k ps w' := by
  obtain ⟨m, D, fv, h, q⟩ := h
  exact ⟨m, D, fv, h.below hb hE, q⟩
theorem BxT.cw {T : Nat → Prop} (h : BxT T B C d s n k ps w) : C ≤ w.heap.size := by
  obtain ⟨m, D, fv, h, q⟩ := h
  exact h.cw

/-- A part is put into the box. -/
theorem BxI.storeI (h : BxI B C d m D s n k ps fv w) {i k' : Nat} {p : List UInt8} {u : Value} (hk : lkP ps i = none ∨ lkP ps i = some p) (hi : i < k') (hkk : 0 < k → k' = k) (hk64 : k' < 18446744073709551616) (hp : p.length ≤ n) (hu : Ow 0 w u p) (hN : ps.length < 2199023255552) :
    ∃ w2, (Instr.mapUpdate 74 (.map (some m)) (.int .u64 (i : Int)) u).run Try.prog (w.setCell ⟨d, 2, none⟩ (.int .u64 (k' : Int))) = .ok () w2 ∧ BxI B C d m (D.put (kN i) (.held u)) s n k' (putP ps i p) (fun j => if j = i then u else fv j) w2 ∧ Chg (fun b => B ≤ b ∧ b < C) w w2 := by
  have hnd := h.nd
  have hc1 : Chg (fun b => b = d) w (w.setCell ⟨d, 2, none⟩ (.int .u64 (k' : Int))) := (Chg.refl (fun b => b = d) w).put d 2 _ rfl
  have hcell1 := heap_setCell_same _ d 2 _ _ (.int .u64 (k' : Int)) h.cell
  have hmap1 := ownsMap_chg h.map hc1 (fun e => hnd e.symm)
  obtain ⟨a, c, hus⟩ : ∃ a c, u = .slice a p.length c := by obtain ⟨ao, c, q, _⟩ := hu.rd; exact ⟨_, _, q⟩
  have hR : elR u = some (.held u, []) := by rw [hus]; rfl
  obtain ⟨w2, hr, hown, ht⟩ := hmap1.store Try.keyedN Try.underlying74 (by unfold maxLen; omega) (keyN i (by omega)) hR
  have hc2 : Chg (fun b => b = m) (w.setCell ⟨d, 2, none⟩ (.int .u64 (k' : Int))) w2 := Chg.of_grown ht.grown (fun b e _ => (Option.some.inj e).symm)
  have hch : Chg (fun b => b = d ∨ b = m) w w2 := (hc1.mono (fun b _ e => .inl e)).trans (hc2.mono (fun b _ e => .inl (.inr e)))
  have hnm : ∀ (v : Value) (l : List UInt8), Ow 0 w v l → Ow 0 w2 v l := fun v l ho => by
    obtain ⟨es, cl, hb, _⟩ := h.map
    refine ho.keptC hch (fun b e q => ?_)
    rcases q with q | q
    · exact ow_ne ho h.cell (by decide) b e q
    · exact ow_ne_map ho hb b e q
  have hsz : Maps.size (D.put (kN i) (.held u)) = (putP ps i p).length := by
    rw [Maps.size_put (h.map.tidy Try.keyedN), h.has i, h.size]
    unfold putP
    split
    · rfl
    · rw [insP_len]
  have hlk : ∀ j, lkP (putP ps i p) j = if j = i then some p else lkP ps j := fun j => by
    unfold putP
    rcases hk with hk | hk
    · rw [hk]
      simp only [Option.isSome_none, Bool.false_eq_true, if_false]
      exact lkP_ins p hk j
    · rw [hk]
      simp only [Option.isSome_some, if_true]
      by_cases e : j = i
      · subst e; rw [if_pos rfl, hk]
      · rw [if_neg e]
  have hown2 : w2.ownsMap Try.prog 64 elR m (putP ps i p).length (D.put (kN i) (.held u)) := by rw [← hsz]; exact ownsMap_low hown
  refine ⟨w2, hr, ?_, hch.mono (fun b _ q => ?_)⟩
  · refine ⟨?_, hown2, fun j => ?_, fun j l e => ?_, hsz, fun j l e => ?_, ?_, fun x hx => ?_, hk64, h.n20, h.s32, h.lo, h.hi, Nat.le_trans h.cw hch.size⟩
    · rw [hc2.block d (Array.getElem?_eq_some_iff.1 hcell1).1 hnd, hcell1]
      rfl
    · rw [hlk j]
      by_cases e : j = i
      · subst e
        rw [if_pos rfl, Maps.has_put_same h.map.isMap (by trivial)]
        rfl
      · rw [if_neg e, Maps.has_put_other (fun e2 => e (kN_inj e2)), h.has j]
    · rw [hlk j] at e
      by_cases q : j = i
      · subst q
        rw [Maps.atKey_put_same h.map.isMap (by trivial), if_pos rfl]
      · rw [if_neg q] at e
        rw [Maps.atKey_put_other (fun e2 => q (kN_inj e2)), h.at_ j l e, if_neg q]
    · rw [hlk j] at e
      by_cases q : j = i
      · rw [if_pos q] at e ⊢
        obtain rfl := Option.some.inj e
        exact hnm _ _ hu
      · rw [if_neg q] at e ⊢
        exact hnm _ _ (h.el j l e)
    · unfold putP
      rcases hk with hk | hk
      · rw [hk]; exact insP_rises h.rs p hk
      · rw [hk]; exact h.rs
    · have hold : ∀ y ∈ ps, y.1 < k' ∧ y.2.length ≤ n := fun y hy => by
        have := h.kb y hy
        have := hkk (by omega)
        omega
      unfold putP at hx
      split at hx
      · exact hold x hx
      · rcases (insP_mem ps i p x).1 hx with rfl | hx
        · exact ⟨hi, hp⟩
        · exact hold x hx
  · have := h.lo
    have := h.hi
    rcases q with rfl | rfl <;> omega
end

set_option maxHeartbeats 1000000 in
theorem newBox_ok (s n : Nat) (hs : s < 4294967296) (hn : n ≤ 1048576) (w : World) : Calls Try.prog 17 #[.int .u32 (s : Int), .int .i64 (n : Int)] w fun e w' => ∃ d, e = .returned (.tuple #[.pointer (some ⟨d, 0, none⟩), .int .i64 0]) ∧ Bx w.heap.size w'.heap.size d s n 0 [] w' ∧ Below w.heap.size w w' := by
  have g1 : ¬ (n : Int) < 0 := by omega
  have g2 : ¬ (n : Int) > 1048576 := by omega
  have hws : IntKind.u64.wrap (s : Int) = (s : Int) := by rw [IntKind.wrap_u64]; omega
  have hmm := @run_makeMap Try.prog
  have b1 : Below w.heap.size w (w.alloc (.map #[] 0)) := (Below.refl _ _).alloc (Nat.le_refl _) _
  have hmap := World.ownsMap_made w Try.prog 64 elR
  go_enter Try.func17, Try.ntmps17
  go_wp2_with fail
  go_ret2
  have hz : (w.alloc (.map #[] 0)).heap.size = w.heap.size + 1 := by simp
  refine ⟨_, rfl, ⟨w.heap.size, .map [], fun _ => .slice none 0 0, ?_⟩, b1.alloc (by omega) _⟩
  refine ⟨?_, hmap.alloc _, fun i => rfl, fun i l e => (by cases e), rfl, fun i l e => (by cases e), List.Pairwise.nil, fun x hx => (by cases hx), by omega, hn, hs, ⟨by omega, Nat.le_refl _⟩, ⟨by simp, by simp; omega⟩, Nat.le_refl _⟩
  have e := bx_new (w.alloc (.map #[] 0)) (.cells #[.int .u64 (s : Int), .int .u64 (n : Int), .int .u64 0, .map (some w.heap.size)] 76)
  rw [hz] at e
  exact e
theorem newBox_err (s : Nat) (z : Int) (hz : z < 0 ∨ 1048576 < z) (w : World) : Calls Try.prog 17 #[.int .u32 (s : Int), .int .i64 z] w fun e w' => e = .returned (.tuple #[.pointer none, .int .i64 1]) ∧ w' = w := by
  by_cases h : z < 0
  · go_enter Try.func17, Try.ntmps17
    go_wp2_with fail
    go_ret2
    exact ⟨rfl, rfl⟩
  · have h2 : 1048576 < z := by omega
    go_enter Try.func17, Try.ntmps17
    go_wp2_with fail
    go_ret2
    exact ⟨rfl, rfl⟩
end Go.Proofs.Ytlajncjamafomaa
