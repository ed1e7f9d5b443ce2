/- Crash of the document's disk. -/
import Derived.Test.YtkgpgfpclcibmaaG5
import Derived.Test.YtkgpgfpclcibmaaG3
import Derived.Deep.Cut
import Derived.Deep.CutRange
import Derived.Test.YtkgpgfpclcibmaaG4
import Derived.Test.YtkgpgfpclcibmaaG2
import Derived.Deep.RegionHeld3
namespace Go.Proofs.Ytkgpgfpclcibmaa
open Go.RowKit
set_option linter.unusedVariables false
set_option maxRecDepth 100000

theorem wrap_id (x : Int) (h : 0 ≤ x ∧ x ≤ 9223372036854775807) : IntKind.i64.wrap x = x := by
  unfold IntKind.wrap
  simp only [show IntKind.i64.bits = 64 from rfl, show IntKind.i64.signed = true from rfl, Bool.true_and, decide_eq_true_eq]
  split <;> omega
theorem alloc_block2 (w : World) (o : Obj) {q : Nat} : ((w.alloc o).drewN q).heap[w.heap.size]? = some o := by
  show (w.heap.push _)[_]? = _
  simp

section
variable {B r : Nat} {fv : Value} {P : List (Fl × Value)} {S S' : Nat → Prop} {L : List Fl} {left left' : Int} {dd : Bool} {w : World}

/-- Other bytes for a file. -/
theorem rdata_end {g n c k : Nat} {w2 w5 : World} {nm : Nm} {f : List UInt8 × Nat} {dv v5 : Value} {l : List UInt8} (h : RfI B r (.slice (some ⟨g, 0, none⟩) n c) P S left dd w2) (hP : P[k]? = some ((nm, f), dv)) (hc : Chg (fun b => w2.heap.size ≤ b) w2 w5) (ho5 : Ow w2.heap.size w5 v5 l) (hl : f.2 ≤ l.length) :
    RfI B r (.slice (some ⟨g, 0, none⟩) n c) (P.set k ((nm, (l, f.2)), v5)) (fun b => S b ∨ v5.ownBlock = some b) left dd (w5.setCell ⟨g, k * 3 + 1, none⟩ v5) ∧ Chg S w2 (w5.setCell ⟨g, k * 3 + 1, none⟩ v5) := by
  obtain ⟨d, m⟩ := f
  have hd := h.data _ (List.mem_of_getElem? hP)
  have hgS : S g := h.sf g rfl
  have hgl := (h.lo g hgS).2
  have hrl := h.lo r h.sr
  have hlt := World.ownsRow.lt ho5
  have h5 := h.next hc (fun b hs q => by have := (h.lo b hs).2; omega)
  simp only [] at hd
  refine ⟨h5.setAt (S' := fun b => S b ∨ v5.ownBlock = some b) (k := k) rfl (k * 3 + 1) v5 ((nm, (l, m)), v5) (flCs_setD P k nm d l m dv v5 hP) (fun b q => .inl q) ho5.rd hl hd.2.2 (fun b hb => ⟨.inr hb, fun e => by have := hlt b hb; omega, fun e => by have := hlt b hb; have e : g = b := Option.some.inj e; omega⟩) (fun b q => ?_), (hc.mono (fun b hb q => absurd hb (Nat.not_lt.2 q))).put g _ _ hgS⟩
  rcases q with q | q
  · exact h5.lo b q
  · have := hlt b q
    exact ⟨by omega, this.2⟩
/-- Its bytes and how many are kept. -/
theorem rtear_end {g n c k : Nat} {w2 w5 w6 : World} {nm : Nm} {f : List UInt8 × Nat} {dv v5 : Value} {l : List UInt8} {q : Nat} (h : RfI B r (.slice (some ⟨g, 0, none⟩) n c) P S left dd w2) (hP : P[k]? = some ((nm, f), dv)) (hc : Chg (fun b => w2.heap.size ≤ b) w2 w5) (ho5 : Ow w2.heap.size w5 v5 l) (hl : f.2 ≤ l.length) (hq : q ≤ l.length) (hw6 : ∃ j, w6 = (w5.setCell ⟨g, k * 3 + 1, none⟩ v5).drewN j) :
    RfI B r (.slice (some ⟨g, 0, none⟩) n c) (P.set k ((nm, (l, q)), v5)) (fun b => S b ∨ v5.ownBlock = some b) left dd (w6.setCell ⟨g, k * 3 + 2, none⟩ (.int .i64 (q : Int))) ∧ Chg S w2 (w6.setCell ⟨g, k * 3 + 2, none⟩ (.int .i64 (q : Int))) := by
  obtain ⟨h1, h2⟩ := rdata_end h hP hc ho5 hl
  obtain ⟨j, rfl⟩ := hw6
  replace h1 := h1.drN j
  replace h2 := h2.dN j
  have hkl := (List.getElem?_eq_some_iff.1 hP).1
  have hP1 : (P.set k ((nm, (l, f.2)), v5))[k]? = some ((nm, (l, f.2)), v5) := by rw [List.getElem?_set_self hkl]
  have hd := h1.data _ (List.mem_of_getElem? hP1)
  have hsd := h1.sd _ (List.mem_of_getElem? hP1)
  have h3 := h1.setAt (S' := fun b => S b ∨ v5.ownBlock = some b) (k := k) rfl (k * 3 + 2) (.int .i64 (q : Int)) ((nm, (l, q)), v5) (flCs_setK _ k nm l f.2 q v5 hP1) (fun b q => q) hd.1 hq hd.2.2 hsd h1.lo
  rw [List.set_set] at h3
  exact ⟨h3, h2.put g _ _ (h.sf g rfl)⟩

theorem crash_mid {wr w4 : World} {q : Nat} {g k r n : Nat} {dv u nmv : Value} (hb4 : Below ((wr.alloc (.cells #[nmv, dv, .int .i64 (n : Int)] 130)).drewN q).heap.size ((wr.alloc (.cells #[nmv, dv, .int .i64 (n : Int)] 130)).drewN q) w4) (hrl : r < wr.heap.size) (hgl : g < wr.heap.size) (c0 : wr.cell? ⟨r, 0, none⟩ = some u) (g1 : wr.cell? ⟨g, k * 3 + 1, none⟩ = some dv) (z1 : wr.frozen? ⟨g, k * 3 + 1, none⟩ = false) (g2 : wr.cell? ⟨g, k * 3 + 2, none⟩ = some (.int .i64 (n : Int))) (z2 : wr.frozen? ⟨g, k * 3 + 2, none⟩ = false) :
    (w4.cell? ⟨r, 0, none⟩ = some u ∧ w4.cell? ⟨g, k * 3 + 1, none⟩ = some dv ∧ w4.frozen? ⟨g, k * 3 + 1, none⟩ = false) ∧ w4.cell? ⟨wr.heap.size, 1, none⟩ = some dv ∧ w4.cell? ⟨wr.heap.size, 2, none⟩ = some (.int .i64 (n : Int)) ∧ w4.cell? ⟨g, k * 3 + 2, none⟩ = some (.int .i64 (n : Int)) ∧ w4.frozen? ⟨g, k * 3 + 2, none⟩ = false := by
  have hsz : ((wr.alloc (.cells #[nmv, dv, .int .i64 (n : Int)] 130)).drewN q).heap.size = wr.heap.size + 1 := by simp
  have hbl : ∀ b, b < wr.heap.size → w4.heap[b]? = wr.heap[b]? := fun b hb => (hb4.block b (by omega)).trans (Below.heap_alloc _ _ _ hb)
  have hF : w4.heap[wr.heap.size]? = some (.cells #[nmv, dv, .int .i64 (n : Int)] 130 (0, 0)) := (hb4.block _ (by omega)).trans (alloc_block2 _ _)
  refine ⟨held_cells hbl hrl hgl c0 g1 z1, by rw [cell_of_row _ _ _ _ _ _ hF]; rfl, by rw [cell_of_row _ _ _ _ _ _ hF]; rfl, ?_, ?_⟩
  · rw [World.cell?_of_block (hbl g hgl)]; exact g2
  · rw [World.frozen?_of_block (hbl g hgl)]; exact z2
theorem crash_mid2 {w4 : World} {g k r F n : Nat} {u v dv : Value} (hrg : r ≠ g) (hFg : F ≠ g) (c0 : w4.cell? ⟨r, 0, none⟩ = some u) (f2 : w4.cell? ⟨F, 2, none⟩ = some (.int .i64 (n : Int))) (g2 : w4.cell? ⟨g, k * 3 + 2, none⟩ = some (.int .i64 (n : Int))) (z2 : w4.frozen? ⟨g, k * 3 + 2, none⟩ = false) (g1 : w4.cell? ⟨g, k * 3 + 1, none⟩ = some dv) :
    True ∧ (w4.setCell ⟨g, k * 3 + 1, none⟩ v).cell? ⟨r, 0, none⟩ = some u ∧ (w4.setCell ⟨g, k * 3 + 1, none⟩ v).cell? ⟨F, 2, none⟩ = some (.int .i64 (n : Int)) ∧ (w4.setCell ⟨g, k * 3 + 1, none⟩ v).cell? ⟨g, k * 3 + 2, none⟩ = some (.int .i64 (n : Int)) ∧ (w4.setCell ⟨g, k * 3 + 1, none⟩ v).frozen? ⟨g, k * 3 + 2, none⟩ = false := by
  have hb : ∀ b, b ≠ g → (w4.setCell ⟨g, k * 3 + 1, none⟩ v).heap[b]? = w4.heap[b]? := fun b hb => heap_setCell_other w4 ⟨g, k * 3 + 1, none⟩ b v (fun e => hb (by simpa using e))
  refine ⟨trivial, ?_, ?_, ?_, ?_⟩
  · rw [World.cell?_of_block (hb r hrg)]; exact c0
  · rw [World.cell?_of_block (hb F hFg)]; exact f2
  · rw [World.cell?_setCell_other _ _ _ _ (by simp)]; exact g2
  · rw [World.frozen?_setCell]; exact z2
theorem crash_fin {g n c k q j : Nat} {wr w4 : World} {nm : Nm} {f : List UInt8 × Nat} {dv v4 : Value} {l : List UInt8} {o : Obj} (h : RfI B r (.slice (some ⟨g, 0, none⟩) n c) P S left dd wr) (hP : P[k]? = some ((nm, f), dv)) (hb4 : Below ((wr.alloc o).drewN j).heap.size ((wr.alloc o).drewN j) w4) (ho4 : Ow ((wr.alloc o).drewN j).heap.size w4 v4 l) (hl : f.2 ≤ l.length) (hq : q ≤ l.length) :
    ∀ w6, (∃ i, w6 = (w4.setCell ⟨g, k * 3 + 1, none⟩ v4).drewN i) → RfI B r (.slice (some ⟨g, 0, none⟩) n c) (P.set k ((nm, (l, q)), v4)) (fun b => S b ∨ v4.ownBlock = some b) left dd (w6.setCell ⟨g, k * 3 + 2, none⟩ (.int .i64 (q : Int))) ∧ Chg S wr (w6.setCell ⟨g, k * 3 + 2, none⟩ (.int .i64 (q : Int))) ∧ ∀ b, v4.ownBlock = some b → wr.heap.size ≤ b := by
  intro w6 hw6
  have hsz : ((wr.alloc o).drewN j).heap.size = wr.heap.size + 1 := by simp
  have hc : Chg (fun b => wr.heap.size ≤ b) wr w4 := (((Chg.refl _ wr).alloc o).dN j).trans ((Chg.of_below hb4).mono (fun b _ q => .inl (by omega)))
  have ho : Ow wr.heap.size w4 v4 l := ho4.mono (by omega)
  obtain ⟨h1, h2⟩ := rtear_end h hP hc ho hl hq hw6
  exact ⟨h1, h2, fun b hb => (World.ownsRow.lt ho b hb).1⟩

/-- The loop's state. -/
structure RCr (B r : Nat) (fv : Value) (S : Nat → Prop) (left : Int) (dd : Bool) (w : World) (N : Nat) (ks : List Int) (fin : List Fl) (k t : Nat) (S' : Nat → Prop) (P : List (Fl × Value)) (wr : World) : Prop where
  rf : RfI B r fv P S' left dd wr
  len : P.length = N
  ext : ∀ b, S' b → S b ∨ w.heap.size ≤ b
  chg : Chg S w wr
  fin : (P.take k).map (·.1) ++ crashL ((P.drop k).map (·.1)) ks t = fin
  sm : ∀ x ∈ P, x.1.2.1.length ≤ 16777216

theorem RCr.skip {N k t : Nat} {ks : List Int} {fin : List Fl} {wr wr' : World} {x : Fl × Value} (h : RCr B r fv S left dd w N ks fin k t S' P wr) (hx : P[k]? = some x) (hz : x.1.2.2 = x.1.2.1.length) (hb : Below wr.heap.size wr wr') : RCr B r fv S left dd w N ks fin (k + 1) t S' P wr' := by
  have hkl := (List.getElem?_eq_some_iff.1 hx).1
  have hxe : P[k] = x := (List.getElem?_eq_some_iff.1 hx).2
  refine ⟨h.rf.next (Chg.of_below hb) (fun b hs q => by have := (h.rf.lo b hs).2; omega), h.len, h.ext, h.chg.trans ((Chg.of_below hb).mono (fun b hb q => by omega)), ?_, h.sm⟩
  rw [← h.fin, List.drop_eq_getElem_cons hkl, List.take_succ_eq_append_getElem hkl, hxe]
  simp only [List.map_append, List.map_cons, List.map_nil, crashL, if_pos hz, List.append_assoc, List.cons_append, List.nil_append]
theorem RCr.tear {N k t : Nat} {ks : List Int} {fin : List Fl} {wr wr' : World} {nm : Nm} {f : List UInt8 × Nat} {dv v5 : Value} {S5 : Nat → Prop} {q : Nat} (h : RCr B r fv S left dd w N ks fin k t S' P wr) (hx : P[k]? = some ((nm, f), dv)) (hz : ¬ f.2 = f.1.length) (hq : stays (keepAt ks t) (f.1.length - f.2) = q)
    (h5 : RfI B r fv (P.set k ((nm, (f.1.take (f.2 + q), f.2 + q)), v5)) S5 left dd wr') (hS5 : ∀ b, S5 b → S' b ∨ w.heap.size ≤ b) (hc : Chg S' wr wr') : RCr B r fv S left dd w N ks fin (k + 1) (t + 1) S5 (P.set k ((nm, (f.1.take (f.2 + q), f.2 + q)), v5)) wr' := by
  have hkl := (List.getElem?_eq_some_iff.1 hx).1
  have hxe : P[k] = ((nm, f), dv) := (List.getElem?_eq_some_iff.1 hx).2
  refine ⟨h5, by rw [List.length_set]; exact h.len, fun b hb => ?_, h.chg.trans (hc.mono (fun b hb q => h.ext b q)), ?_, fun x hx' => ?_⟩
  · rcases hS5 b hb with q | q
    · exact h.ext b q
    · exact .inr q
  · have hkl2 : k < (P.set k ((nm, (f.1.take (f.2 + q), f.2 + q)), v5)).length := by rw [List.length_set]; exact hkl
    rw [← h.fin, List.drop_eq_getElem_cons hkl, List.take_succ_eq_append_getElem hkl2, hxe, List.take_set_of_le (Nat.le_refl _), List.drop_set_of_lt (by omega)]
    simp only [List.getElem_set_self, List.map_append, List.map_cons, List.map_nil, crashL, if_neg hz, List.append_assoc, List.cons_append, List.nil_append]
    unfold tornF
    rw [hq]
  · rcases List.mem_or_eq_of_mem_set hx' with e | e
    · exact h.sm x e
    · subst e
      have := h.sm _ (List.mem_of_getElem? hx)
      simp only [List.length_take] at this ⊢
      omega

set_option maxHeartbeats 4000000 in
theorem rcrash_any (h : Rf B r S L left dd w) (hL : L.length ≤ 1099511627776) (hsm : ∀ x ∈ L, x.2.1.length ≤ 16777216) {vk : Value} {ks : List Int} (hk : ∀ W, Below B w W → RdI W vk ks) :
    Calls Try.prog 47 #[.pointer (some ⟨r, 0, none⟩), vk] w fun e w' => (∃ v, e = .returned v) ∧ (∃ S', Rf B r S' (crashL L ks 0) (-1) false w' ∧ ∀ b, S' b → S b ∨ w.heap.size ≤ b) ∧ Chg S w w' := by
  have hlo0 : ∀ b, S b → B ≤ b := fun b hb => by obtain ⟨_, _, _, h⟩ := h; exact (h.lo b hb).1
  have hB0 : B ≤ w.heap.size := by obtain ⟨_, _, _, h⟩ := h; have := h.lo r h.sr; omega
  generalize hfin : crashL L ks 0 = fin
  obtain ⟨fv, P0, rfl, h⟩ := h
  rw [List.length_map] at hL
  have hI0 : RCr B r fv S left dd w P0.length ks fin 0 0 S P0 w := ⟨h, rfl, fun b hb => .inl hb, Chg.refl _ _, by simpa using hfin, fun x hx => hsm x.1 (List.mem_map_of_mem hx)⟩
  clear hfin hsm
  obtain ⟨ak, ck, rfl, k1, k2, k4⟩ := hk w (Below.refl _ _)
  unfold maxLen at k2
  clear k4
  generalize P0.length = N at *
  clear h
  go_enter Try.func47, Try.ntmps47
  go_wp2_with fail
  go_loopw [4, 5] (fun at_ i wr => ∃ (k t : Nat) (S' : Nat → Prop) (P : List (Fl × Value)), k ≤ N ∧ t ≤ k ∧ at_ = .int .i64 t ∧ i = .int .i64 k ∧ RCr B r fv S left dd w N ks fin k t S' P wr) (fun _ i _ => N - (intOf i).toNat)
  case atStart => exact ⟨0, 0, S, P0, by omega, by omega, rfl, rfl, hI0⟩
  case round =>
    obtain ⟨k, t, S', P, hkN, htk, rfl, rfl, hR⟩ := hrel
    have hkr : RdI wr (.slice ak ks.length ck) ks := hk _ (hR.chg.below hlo0 hB0)
    have hI := hR.rf
    obtain ⟨c0', c1, c2, cz⟩ := hI.cells
    have z1 := cz 1
    have z2 := cz 2
    have hlen := hR.len
    by_cases hlt : k < N
    · have hkl : k < P.length := by omega
      obtain ⟨⟨⟨nm, d, n⟩, dv⟩, hx⟩ : ∃ x, P[k]? = some x := ⟨P[k], List.getElem?_eq_getElem hkl⟩
      obtain ⟨g, c, rfl, _, h1, h2, c0, g0, g1, g2, gz, hd⟩ := hI.atK hx
      have gz1 := gz (k * 3 + 1)
      have gz2 := gz (k * 3 + 2)
      have hdd := (hI.data _ (List.mem_of_getElem? hx)).2.1
      have hsmx := hR.sm _ (List.mem_of_getElem? hx)
      have hsd := hI.sd _ (List.mem_of_getElem? hx)
      have hgl : g < wr.heap.size := (hI.lo g (hI.sf g rfl)).2
      have hrl : r < wr.heap.size := (hI.lo r hI.sr).2
      have hrg : r ≠ g := fun e => hI.rf (by rw [e]; rfl)
      have hsw := hR.chg.size
      simp only [] at hdd hsmx hsd g1 g2 hd
      obtain ⟨ad, cd, rfl, d1, d2, d3⟩ := id hd
      unfold maxLen at h2 d2
      clear d3 gz cz c1 c2 z1 z2 c0'
      obtain ⟨m, hm⟩ : ∃ m, d.length = n + m := ⟨d.length - n, by omega⟩
      generalize hdl : d.length = dl at *
      have hlo : (dl : Int) - (n : Int) = (m : Int) := by omega
      rw [hlen] at c0 h1
      have HR : Hid _ := And.intro hR hI
      clear hR hI hlen
      by_cases hm0 : m = 0
      · subst hm0
        have hmb : (((0 : Nat) : Int) == 0) = true := rfl
        have HZ : Hid (n = d.length) := by show n = d.length; omega
        clear hm hdl
        go_wp2_with fail
        exact ⟨⟨k + 1, t, S', P, by omega, by omega, rfl, by go_num, HR.out.1.skip hx HZ.out (Below.al wr _)⟩, by simp [intOf]; omega⟩
      · have hmb : ((m : Int) == 0) = false := by rw [beq_eq_false_iff_ne]; omega
        have hst : stays (keepAt ks t) (d.length - n) = min (keepAt ks t).toNat m := by unfold stays; rw [hdl, hm]; congr 1; omega
        have HZ : Hid (¬ n = d.length) := by show ¬ n = d.length; omega
        have hFr : r ≠ wr.heap.size := by omega
        have hFg : g ≠ wr.heap.size := by omega
        have hgF : wr.heap.size ≠ g := by omega
        have HM : Hid _ := And.intro hm hdl
        clear hm hdl
        have hkc : t < ks.length → ∃ a, ak = some a ∧ wr.cell? (a.add t) = some (.int .i64 (keepAt ks t)) := fun ht => by
          obtain ⟨ao, cc, eao, _, _, hkc⟩ := hkr
          obtain ⟨ka, eka, hkcell⟩ := hkc t ht
          simp only [Value.slice.injEq, true_and] at eao
          obtain ⟨rfl, rfl⟩ := eao
          exact ⟨ka, eka, by rw [hkcell]; unfold keepAt; simp [ht]⟩
        have hkz : ¬ t < ks.length → keepAt ks t = 0 := fun ht => by unfold keepAt; simp [Nat.not_lt.1 ht]
        clear hkr
        generalize hkp : keepAt ks t = p at *
        have HKP : Hid _ := hkp
        clear hkp
        go_upto_region 8 with fail
        go_cut [43] from 9 to 79 (fun s wx => s = .bool (decide (0 < p)) ∧ wx = (wr.alloc (.cells #[.string ⟨List.toArray nm⟩, .slice ad dl cd, .int .i64 (n : Int)] 130)))
        case first =>
          by_cases ht : t < ks.length
          · obtain ⟨a, rfl, hcell⟩ := hkc ht
            clear hkc hkz
            have hcl : (wr.alloc (.cells #[.string ⟨List.toArray nm⟩, .slice ad dl cd, .int .i64 (n : Int)] 130)).cell? (a.add t) = some (.int .i64 p) := by rw [World.cell?_alloc_lt _ _ _ (World.block_lt_of_cell? _ _ hcell)]; exact hcell
            go_wp2_with fail
            go_meet
            exact ⟨rfl, rfl⟩
          · have hp := hkz ht
            clear hkc hkz
            go_wp2_with fail
            go_meet
            exact ⟨by rw [hp]; rfl, rfl⟩
        case rest =>
          obtain ⟨rfl, rfl⟩ := hcut
          go_upto_if 43 with fail
          go_cut [8] from 9 to 79 (fun s wx => s = .int .i64 (max p 0) ∧ wx = (wr.alloc (.cells #[.string ⟨List.toArray nm⟩, .slice ad dl cd, .int .i64 (n : Int)] 130)))
          case first =>
            by_cases hp : 0 < p
            · have ht : t < ks.length := by
                by_cases q : t < ks.length
                · exact q
                · have := hkz q; omega
              obtain ⟨a, rfl, hcell⟩ := hkc ht
              clear hkc hkz
              have hcl : (wr.alloc (.cells #[.string ⟨List.toArray nm⟩, .slice ad dl cd, .int .i64 (n : Int)] 130)).cell? (a.add t) = some (.int .i64 p) := by rw [World.cell?_alloc_lt _ _ _ (World.block_lt_of_cell? _ _ hcell)]; exact hcell
              go_wp2_with fail
              go_meet
              exact ⟨by rw [show max p 0 = p by omega], rfl⟩
            · go_wp2_with fail
              go_meet
              exact ⟨by rw [show max p 0 = 0 by omega], rfl⟩
          case rest =>
            obtain ⟨rfl, rfl⟩ := hcut
            clear hkc hkz
            obtain ⟨q, hq⟩ : ∃ q, min p.toNat m = q := ⟨_, rfl⟩
            rw [hq] at hst
            have hqm : q ≤ m := by omega
            go_upto_if 50 with fail
            go_cut [8] from 9 to 79 (fun s wx => s = .int .i64 (q : Int) ∧ wx = (wr.alloc (.cells #[.string ⟨List.toArray nm⟩, .slice ad dl cd, .int .i64 (n : Int)] 130)))
            case first =>
              by_cases hc : (m : Int) < max p 0
              · go_wp2_with fail
                go_meet
                exact ⟨by rw [show m = q by omega], rfl⟩
              · go_wp2_with fail
                go_meet
                exact ⟨by rw [show max p 0 = (q : Int) by omega], rfl⟩
            case rest =>
              obtain ⟨rfl, rfl⟩ := hcut
              clear hq
              have hn1 : n + q ≤ dl := by have := HM.out.1; omega
              have hpre : Rd wr (.slice ad (n + q) cd) (d.take (n + q)) := hd.pre (n + q) (by rw [HM.out.2]; exact hn1)
              have hw1 : IntKind.i64.wrap ((n : Int) + (q : Int)) = ((n + q : Nat) : Int) := by rw [show ((n : Int) + (q : Int) : Int) = ((n + q : Nat) : Int) by omega]; exact wrap_id _ (by omega)
              have hw2 : n + q ≤ cd := by omega
              have HL : Hid ((d.take (n + q)).length = n + q) := by show _ = _; rw [List.length_take, HM.out.2]; omega
              have HQ : Hid _ := hst
              have hq16 : (d.take (n + q)).length ≤ 16777216 := by rw [HL.out]; omega
              clear hst hm0 hmb hw1
              have hsum : (n : Int) + (q : Int) = ((n + q : Nat) : Int) := by omega
              generalize hnq : n + q = nq at *
              have hwq : IntKind.i64.wrap (nq : Int) = (nq : Int) := wrap_id _ (by omega)
              have HN : Hid _ := hnq
              clear hnq
              go_upto_region 13 with fail
              go_cut [8] from 9 to 79 (fun s wx => s = .int .i64 (q : Int) ∧ ∃ (w4 : World) (a4 : Option Addr) (n4 c4 : Nat), Below ((wr.alloc (.cells #[.string ⟨List.toArray nm⟩, .slice ad dl cd, .int .i64 (n : Int)] 130)).drewN 1).heap.size ((wr.alloc (.cells #[.string ⟨List.toArray nm⟩, .slice ad dl cd, .int .i64 (n : Int)] 130)).drewN 1) w4 ∧ Ow ((wr.alloc (.cells #[.string ⟨List.toArray nm⟩, .slice ad dl cd, .int .i64 (n : Int)] 130)).drewN 1).heap.size w4 (.slice a4 n4 c4) (d.take nq) ∧ wx = w4.setCell ⟨g, k * 3 + 1, none⟩ (.slice a4 n4 c4))
              case first =>
                go_region_law
                  ((first
                  | (rw [if_pos (by rfl)]; go_simp; go_at_call 78; refine (rcopy_any ((hpre.alloc _).drewN _) (by omega)).mono ?_; rintro e w4 ⟨v4, rfl, ho4, hb4⟩; obtain ⟨a4, n4, c4, rfl⟩ := ownsRow_shape ho4; obtain ⟨⟨c4r, g4, z4⟩, f41, f42, g42, z42⟩ := crash_mid hb4 hrl hgl c0 g1 gz1 g2 gz2)
                  | fail))
                all_goals
                  go_wp2_with fail
                  go_meet
                  exact ⟨rfl, _, _, _, _, hb4, ho4, rfl⟩
              case rest =>
                obtain ⟨rfl, w4, a4, n4, c4, hb4, ho4, rfl⟩ := hcut
                obtain ⟨⟨c4r, g4, z4⟩, f41, f42, g42, z42⟩ := crash_mid hb4 hrl hgl c0 g1 gz1 g2 gz2
                obtain ⟨b5, r5, f5, g5, z5⟩ := crash_mid2 (v := .slice a4 n4 c4) hrg hgF c4r f42 g42 z42 g4
                have HE : Hid _ := crash_fin HR.out.2 hx hb4 ho4 (by rw [HL.out]; have := HN.out; simp only []; omega) (q := nq) (by rw [HL.out]; omega)
                clear c4r g4 z4 f41 f42 g42 z42 hb4 ho4
                generalize hw5 : w4.setCell ⟨g, k * 3 + 1, none⟩ (.slice a4 n4 c4) = w5 at *
                clear hw5
                go_wp2_with fail
                go_region
                all_goals go_wp2_with fail
                all_goals
                  obtain ⟨hE1, hE2, hE3⟩ := HE.out w5 ⟨0, rfl⟩
                  have hnq := HN.out
                  subst hnq
                  refine ⟨⟨k + 1, t + 1, _, _, by omega, by omega, by go_num, by go_num, HR.out.1.tear hx HZ.out (by rw [HKP.out]; exact HQ.out) (hE1.drN 1) (fun b hb => ?_) (hE2.dN 1)⟩, by simp [intOf]; omega⟩
                  rcases hb with hb | hb
                  · exact .inl hb
                  · exact .inr (Nat.le_trans hsw (hE3 b hb))
    · obtain rfl : k = N := by omega
      obtain ⟨a, c, rfl, h1, h2, h3, h4⟩ := hI.shape
      rw [hlen] at c0'
      have hsr := hI.sr
      have HI : Hid _ := And.intro hR hI
      have hfn := hR.fin
      rw [← hlen, List.take_length, List.drop_length] at hfn
      simp only [List.map_nil, crashL, List.append_nil] at hfn
      have hT : Rf B r S' fin left dd wr := ⟨_, _, hfn, hI⟩
      have HT : Hid _ := ((hT.setLeft (-1)).1.setDead false).1
      have HC : Hid _ := (hT.setLeft (-1)).2.trans (((hT.setLeft (-1)).1.setDead false).2.mono (fun b _ q => .inl q))
      clear hR hI hlen h4 cz hT hfn
      go_wp2_with fail
      go_end0
      exact ⟨⟨_, rfl⟩, ⟨_, HT.out, HI.out.1.ext⟩, HI.out.1.chg.trans (HC.out.mono (fun b _ q => HI.out.1.ext b q))⟩
end
end Go.Proofs.Ytkgpgfpclcibmaa

/- A disk and the document's disk side by side, with the same files. -/
namespace Go.Proofs.Ytkgpgfpclcibmaa
open Go.RowKit
set_option linter.unusedVariables false
set_option maxRecDepth 100000

/-- Alive, armed or dead, both alike. -/
def Mode (d : Nat) (may : Value) (left lf : Int) (dd : Bool) : Prop :=
  (may = alive d ∧ lf = -1 ∧ dd = false) ∨ (∃ K : Nat, K ≤ 9223372036854775807 ∧ may = armed d ∧ left = (K : Int) ∧ lf = (K : Int) ∧ dd = false) ∨ (may = dead d ∧ dd = true)
/-- A call that is let through. -/
def GoP (d : Nat) (may : Value) (left left' : Int) : Prop := (may = alive d ∧ left' = left) ∨ (may = armed d ∧ ∃ K : Nat, K ≤ 9223372036854775806 ∧ left = ((K + 1 : Nat) : Int) ∧ left' = (K : Int))
def Live (d : Nat) (may : Value) : Prop := may = alive d ∨ may = armed d
theorem Mode.parts {d : Nat} {may : Value} {left lf : Int} {dd : Bool} (h : Mode d may left lf dd) :
    (may = dead d ∧ dd = true) ∨ (dd = false ∧ Live d may ∧ ((may = armed d ∧ left = 0 ∧ lf = 0) ∨ ∃ left' lf', GoP d may left left' ∧ Goes lf lf' ∧ Mode d may left' lf' false)) := by
  rcases h with ⟨rfl, rfl, rfl⟩ | ⟨K, hK, rfl, rfl, rfl, rfl⟩ | ⟨rfl, rfl⟩
  · exact .inr ⟨rfl, .inl rfl, .inr ⟨left, -1, .inl ⟨rfl, rfl⟩, .inl ⟨rfl, rfl⟩, .inl ⟨rfl, rfl, rfl⟩⟩⟩
  · cases K with
    | zero => exact .inr ⟨rfl, .inr rfl, .inl ⟨rfl, rfl, rfl⟩⟩
    | succ K => exact .inr ⟨rfl, .inr rfl, .inr ⟨(K : Int), (K : Int), .inr ⟨rfl, K, by omega, rfl, rfl⟩, .inr ⟨by omega, by omega, by omega⟩, .inr (.inl ⟨K, by omega, rfl, rfl, rfl, rfl⟩)⟩⟩
  · exact .inl ⟨rfl, rfl⟩

/-- The two in memory, all by name. -/
structure PrI (B d r N n : Nat) (own : Nat → Option Role) (S : Nat → Prop) (L : List Fl) (may : Value) (left lf : Int) (dd : Bool) (T : Nat → Prop) (w : World) : Prop where
  dk : Dk B d n own (stOf L) (sumL L) may left w
  rf : Rf B r S L lf dd w
  up : Up L
  sum : sumL L ≤ 16777216
  nn : n ≤ N
  nl : L.length ≤ N
  mode : Mode d may left lf dd
  ap : ∀ b, own b ≠ none → ¬ S b
  t1 : ∀ b, own b ≠ none ∨ S b → T b
  t2 : ∀ b, T b → B ≤ b ∧ b < w.heap.size
/-- The two, in blocks of T. -/
def Pr (B d r N : Nat) (T : Nat → Prop) (w : World) : Prop := ∃ n own S L may left lf dd, PrI B d r N n own S L may left lf dd T w
/-- The blocks that were theirs, and new ones. -/
def Tn (T : Nat → Prop) (w w' : World) : Nat → Prop := fun b => T b ∨ (w.heap.size ≤ b ∧ b < w'.heap.size)

theorem Rf.lt {B r : Nat} {S : Nat → Prop} {L : List Fl} {lf : Int} {dd : Bool} {w : World} (h : Rf B r S L lf dd w) : ∀ b, S b → B ≤ b ∧ b < w.heap.size := by obtain ⟨_, _, _, h⟩ := h; exact h.lo
theorem Rf.kept {B r : Nat} {S : Nat → Prop} {L : List Fl} {lf : Int} {dd : Bool} {w : World} (h : Rf B r S L lf dd w) : ∀ x ∈ L, x.2.2 ≤ x.2.1.length := by
  obtain ⟨_, P, rfl, h⟩ := h
  intro x hx
  obtain ⟨y, hy, rfl⟩ := List.mem_map.1 hx
  exact (h.data y hy).2.1
theorem sumL_mem {L : List Fl} {x : Fl} (h : x ∈ L) : x.2.1.length ≤ sumL L := by
  induction L with
  | nil => cases h
  | cons y r ih =>
    have e : sumL (y :: r) = y.2.1.length + sumL r := by simp [sumL]
    rcases List.mem_cons.1 h with q | q
    · subst q; omega
    · have := ih q; omega
theorem sumL_at {L : List Fl} (hU : Up L) {nm : Nm} {f : List UInt8 × Nat} (h : stOf L nm = some f) : f.1.length ≤ sumL L := sumL_mem (x := (nm, f)) (List.mem_of_getElem? ((stOf_at hU nm f).1 h))

section
variable {B d r N n : Nat} {own own' : Nat → Option Role} {S S' : Nat → Prop} {L L' : List Fl} {may may' : Value} {left left' lf lf' : Int} {dd dd' : Bool} {T : Nat → Prop} {w w1 w1' w2 : World}

theorem PrI.next (h : PrI B d r N n own S L may left lf dd T w) {X : Nat → Prop} (hc : Chg X w w1) (hX : ∀ b, T b → ¬ X b) : PrI B d r N n own S L may left lf dd T w1 :=
  ⟨h.dk.next hc (fun b hb => hX b (h.t1 b (.inl hb))), h.rf.next hc (fun b hb => hX b (h.t1 b (.inr hb))), h.up, h.sum, h.nn, h.nl, h.mode, h.ap, h.t1, fun b hb => ⟨(h.t2 b hb).1, Nat.lt_of_lt_of_le (h.t2 b hb).2 hc.size⟩⟩
theorem Pr.next (h : Pr B d r N T w) {X : Nat → Prop} (hc : Chg X w w1) (hX : ∀ b, T b → ¬ X b) : Pr B d r N T w1 := by
  obtain ⟨n, own, S, L, may, left, lf, dd, h⟩ := h
  exact ⟨n, own, S, L, may, left, lf, dd, h.next hc hX⟩
theorem PrI.leB (h : PrI B d r N n own S L may left lf dd T w) : B ≤ w.heap.size := h.dk.leB
theorem PrI.below (h : PrI B d r N n own S L may left lf dd T w) (hb : Below w.heap.size w w1) : PrI B d r N n own S L may left lf dd T w1 := h.next (Chg.of_below hb) (fun b hb q => by have := (h.t2 b hb).2; omega)
theorem Pr.below (h : Pr B d r N T w) (hb : Below w.heap.size w w1) : Pr B d r N T w1 := by
  obtain ⟨n, own, S, L, may, left, lf, dd, h⟩ := h
  exact ⟨n, own, S, L, may, left, lf, dd, h.below hb⟩
theorem Pr.lt (h : Pr B d r N T w) : ∀ b, T b → B ≤ b ∧ b < w.heap.size := by obtain ⟨n, own, S, L, may, left, lf, dd, h⟩ := h; exact h.t2
theorem Pr.leB (h : Pr B d r N T w) : B ≤ w.heap.size := by obtain ⟨n, own, S, L, may, left, lf, dd, h⟩ := h; exact h.leB
theorem Pr.chg (h : Pr B d r N T w) (hc : Chg T w w1) : Below B w w1 := hc.below (fun b hb => (h.lt b hb).1) h.leB
theorem Pr.more (h : Pr B d r N T w) {N' : Nat} (hN : N ≤ N') : Pr B d r N' T w := by
  obtain ⟨n, own, S, L, may, left, lf, dd, h⟩ := h
  exact ⟨n, own, S, L, may, left, lf, dd, h.dk, h.rf, h.up, h.sum, Nat.le_trans h.nn hN, Nat.le_trans h.nl hN, h.mode, h.ap, h.t1, h.t2⟩

/-- Both have done their call. -/
theorem PrI.done (h : PrI B d r N n own S L may left lf dd T w) {n' N' : Nat} (hd : Dk B d n' own' (stOf L') (sumL L') may' left' w1) (ho : ∀ b, own' b ≠ none → own b ≠ none ∨ w.heap.size ≤ b) (hc1 : Chg (fun b => own b ≠ none) w w1) (hb : Below w1.heap.size w1 w1')
    (hr : Rf B r S' L' lf' dd' w2) (hS : ∀ b, S' b → S b ∨ w1'.heap.size ≤ b) (hc2 : Chg S w1' w2) (hU : Up L') (hs : sumL L' ≤ 16777216) (hn : n' ≤ N') (hl : L'.length ≤ N') (hm : Mode d may' left' lf' dd') : Chg T w w2 ∧ Pr B d r N' (Tn T w w2) w2 := by
  have hSl := h.rf.lt
  have z1 := hc1.size
  have z2 := hb.size
  have z3 := hc2.size
  have hlt1 := hd.lt
  have hnS : ∀ b, own' b ≠ none → ¬ S b := fun b hb q => by
    rcases ho b hb with q2 | q2
    · exact h.ap b q2 q
    · have := (hSl b q).2; omega
  have hd2 := (hd.below hb).next hc2 hnS
  refine ⟨(hc1.mono (fun b _ q => h.t1 b (.inl q))).trans (((Chg.of_below hb).mono (fun b _ q => Or.inr (by omega))).trans (hc2.mono (fun b hb2 q => .inl (.inl (h.t1 b (.inr q)))))), n', own', S', L', may', left', lf', dd', hd2, hr, hU, hs, hn, hl, hm, fun b q1 q2 => ?_, fun b q => ?_, fun b q => ?_⟩
  · rcases hS b q2 with q | q
    · exact hnS b q1 q
    · have := (hlt1 b q1).2; omega
  · rcases q with q | q
    · rcases ho b q with q2 | q2
      · exact .inl (h.t1 b (.inl q2))
      · exact .inr ⟨q2, (hd2.lt b q).2⟩
    · rcases hS b q with q2 | q2
      · exact .inl (h.t1 b (.inr q2))
      · exact .inr ⟨by omega, (hr.lt b q).2⟩
  · rcases q with q | q
    · exact ⟨(h.t2 b q).1, by have := (h.t2 b q).2; omega⟩
    · exact ⟨by have := h.leB; omega, q.2⟩
/-- Nothing but draws has turned. -/
theorem PrI.drawn (h : PrI B d r N n own S L may left lf dd T w) {N' : Nat} (hN : N ≤ N') (hb1 : Below w.heap.size w w1) (hb : Below w1.heap.size w1 w1') (hb2 : Below w1'.heap.size w1' w2) : Chg T w w2 ∧ Pr B d r N' (Tn T w w2) w2 := by
  have hb02 := Below.tr (Below.tr hb1 hb) hb2
  obtain ⟨a1, a2, a3, a4, a5, a6, a7, a8, a9, a10⟩ := h.below hb02
  refine ⟨(Chg.of_below hb02).mono (fun b hb q => by omega), n, own, S, L, may, left, lf, dd, a1, a2, a3, a4, Nat.le_trans a5 hN, Nat.le_trans a6 hN, a7, a8, fun b q => .inl (a9 b q), fun b q => ?_⟩
  rcases q with q | q
  · exact a10 b q
  · exact ⟨by have := h.leB; omega, q.2⟩
/-- The half of it: the document's disk behind the program's call. -/
theorem PrI.rf1 (h : PrI B d r N n own S L may left lf dd T w) (hc1 : Chg (fun b => own b ≠ none) w w1) (hb : Below w1.heap.size w1 w1') : Rf B r S L lf dd w1' :=
  (h.rf.next hc1 (fun b hb q => h.ap b q hb)).below hb

/-- The post of a call of the program's disk, with what the document's disk does then. -/
def Both (B d r N : Nat) (T : Nat → Prop) (w : World) (fn : FuncId) (args : Array Value) (ret : Ending) (w1 : World) : Prop :=
  ∃ e : Int, ret = .returned (.int .i64 e) ∧ Chg T w w1 ∧ ∀ w1', Below w1.heap.size w1 w1' → Calls Try.prog fn args w1' fun ret2 w2 => ret2 = .returned (.int .i64 e) ∧ Chg T w w2 ∧ Pr B d r N (Tn T w w2) w2

theorem sync_go {st : St} {sz : Nat} (h : Dk B d n own st sz may left w) (hg : GoP d may left left') (s : ByteArray) (hs : s.size ≤ maxLen) (f : List UInt8 × Nat) (e : st s.data.toList = some f) :
    Calls Try.prog 32 #[.pointer (some ⟨d, 0, none⟩), .string s] w fun e w' => e = .returned (.int .i64 0) ∧ (∃ own', Dk B d n own' (setF st s.data.toList (some (f.1, f.1.length))) sz may left' w' ∧ ∀ b, own' b ≠ none → own b ≠ none ∨ w.heap.size ≤ b) ∧ Chg (fun b => own b ≠ none) w w' := by
  rcases hg with ⟨rfl, rfl⟩ | ⟨rfl, K, hK, rfl, rfl⟩
  · exact sync_alive h s hs f e
  · exact sync_ok h hK s hs f e
theorem remove_go {st : St} {sz : Nat} (h : Dk B d n own st sz may left w) (hg : GoP d may left left') (s : ByteArray) (hs : s.size ≤ maxLen) (f : List UInt8 × Nat) (e : st s.data.toList = some f) (hf : f.1.length ≤ sz) (hz : sz ≤ 1099511627776) :
    Calls Try.prog 41 #[.pointer (some ⟨d, 0, none⟩), .string s] w fun e w' => e = .returned (.int .i64 0) ∧ (∃ own', Dk B d n own' (setF st s.data.toList none) (sz - f.1.length) may left' w' ∧ ∀ b, own' b ≠ none → own b ≠ none ∨ w.heap.size ≤ b) ∧ Chg (fun b => own b ≠ none) w w' := by
  rcases hg with ⟨rfl, rfl⟩ | ⟨rfl, K, hK, rfl, rfl⟩
  · exact remove_alive h s hs f e hf hz
  · exact remove_ok h hK s hs f e hf hz

theorem sync_pair (h : Pr B d r N T w) (s : ByteArray) (hs : s.size ≤ maxLen) :
    Calls Try.prog 32 #[.pointer (some ⟨d, 0, none⟩), .string s] w fun ret w1 => Both B d r (N + 1) T w 39 #[.pointer (some ⟨r, 0, none⟩), .string s] ret w1 := by
  obtain ⟨n, own, S, L, may, left, lf, dd, h⟩ := h
  rcases h.mode.parts with ⟨rfl, rfl⟩ | ⟨rfl, hlive, hgo⟩
  · refine (sync_dead h.dk s hs).mono ?_
    rintro _ w1 ⟨rfl, q, rfl⟩
    refine ⟨21, rfl, Chg.dNo _ _ _, fun w1' hb => (rsync_dead (h.rf1 (Chg.dNo _ _ _) hb) s).mono ?_⟩
    rintro _ w2 ⟨rfl, q2, rfl⟩
    exact ⟨rfl, h.drawn (by omega) (Below.dN w q) hb (Below.dN _ q2)⟩
  · cases e : stOf L s.data.toList with
    | none =>
      have hp : Calls Try.prog 32 #[.pointer (some ⟨d, 0, none⟩), .string s] w fun e w' => e = .returned (.int .i64 20) ∧ ∃ q, w' = w.drewN q := by
        have := h.dk
        rcases hlive with rfl | rfl
        · exact sync_no this s hs e
        · exact sync_err this s hs e
      refine hp.mono ?_
      rintro _ w1 ⟨rfl, q, rfl⟩
      refine ⟨20, rfl, Chg.dNo _ _ _, fun w1' hb => (rsync_no h.up (h.rf1 (Chg.dNo _ _ _) hb) s e).mono ?_⟩
      rintro _ w2 ⟨rfl, q2, rfl⟩
      exact ⟨rfl, h.drawn (by omega) (Below.dN w q) hb (Below.dN _ q2)⟩
    | some f =>
      rcases hgo with ⟨rfl, rfl, rfl⟩ | ⟨left', lf', hg1, hg2, hm⟩
      · refine (sync_dies h.dk s hs f e).mono ?_
        rintro _ w1 ⟨rfl, hd1, hc1⟩
        refine ⟨21, rfl, hc1.mono (fun b _ q => h.t1 b (.inl q)), fun w1' hb => (rsync_dies h.up (h.rf1 hc1 hb) s e).mono ?_⟩
        rintro _ w2 ⟨rfl, hr2, hc2⟩
        exact ⟨rfl, h.done hd1 (fun b q => .inl q) hc1 hb hr2 (fun b q => .inl q) hc2 h.up h.sum (by have := h.nn; omega) (by have := h.nl; omega) (.inr (.inr ⟨rfl, rfl⟩))⟩
      · have hat := (stOf_at h.up _ f).1 e
        have hsum := h.sum
        have hfl := sumL_at h.up e
        obtain ⟨hst, hup⟩ := setL_st (place L s.data.toList) s.data.toList (f.1, f.1.length) f h.up hat
        have hse : sumL (L.set (place L s.data.toList) (s.data.toList, (f.1, f.1.length))) = sumL L := by
          have := sumL_set L _ _ (s.data.toList, (f.1, f.1.length)) hat
          simp only [] at this
          omega
        refine (sync_go h.dk hg1 s hs f e).mono ?_
        rintro _ w1 ⟨rfl, ⟨own', hd1, ho1⟩, hc1⟩
        refine ⟨0, rfl, hc1.mono (fun b _ q => h.t1 b (.inl q)), fun w1' hb => (rsync_ok h.up (h.rf1 hc1 hb) hg2 s e (by omega)).mono ?_⟩
        rintro _ w2 ⟨rfl, hr2, hc2⟩
        refine ⟨rfl, h.done (by rw [hst, hse]; exact hd1) ho1 hc1 hb hr2 (fun b q => .inl q) hc2 hup (by omega) (by have := h.nn; omega) (by rw [List.length_set]; have := h.nl; omega) hm⟩
theorem remove_pair (h : Pr B d r N T w) (hN : N ≤ 1099511627000) (s : ByteArray) (hs : s.size ≤ maxLen) :
    Calls Try.prog 41 #[.pointer (some ⟨d, 0, none⟩), .string s] w fun ret w1 => Both B d r (N + 1) T w 42 #[.pointer (some ⟨r, 0, none⟩), .string s] ret w1 := by
  obtain ⟨n, own, S, L, may, left, lf, dd, h⟩ := h
  rcases h.mode.parts with ⟨rfl, rfl⟩ | ⟨rfl, hlive, hgo⟩
  · refine (remove_dead h.dk s hs).mono ?_
    rintro _ w1 ⟨rfl, q, rfl⟩
    refine ⟨21, rfl, Chg.dNo _ _ _, fun w1' hb => (rremove_dead (h.rf1 (Chg.dNo _ _ _) hb) s).mono ?_⟩
    rintro _ w2 ⟨rfl, q2, rfl⟩
    exact ⟨rfl, h.drawn (by omega) (Below.dN w q) hb (Below.dN _ q2)⟩
  · cases e : stOf L s.data.toList with
    | none =>
      have hp : Calls Try.prog 41 #[.pointer (some ⟨d, 0, none⟩), .string s] w fun e w' => e = .returned (.int .i64 20) ∧ ∃ q, w' = w.drewN q := by
        have := h.dk
        rcases hlive with rfl | rfl
        · exact remove_no this s hs e
        · exact remove_err this s hs e
      refine hp.mono ?_
      rintro _ w1 ⟨rfl, q, rfl⟩
      refine ⟨20, rfl, Chg.dNo _ _ _, fun w1' hb => (rremove_no h.up (h.rf1 (Chg.dNo _ _ _) hb) s e).mono ?_⟩
      rintro _ w2 ⟨rfl, q2, rfl⟩
      exact ⟨rfl, h.drawn (by omega) (Below.dN w q) hb (Below.dN _ q2)⟩
    | some f =>
      rcases hgo with ⟨rfl, rfl, rfl⟩ | ⟨left', lf', hg1, hg2, hm⟩
      · refine (remove_dies h.dk s hs f e).mono ?_
        rintro _ w1 ⟨rfl, hd1, hc1⟩
        refine ⟨21, rfl, hc1.mono (fun b _ q => h.t1 b (.inl q)), fun w1' hb => (rremove_dies h.up (h.rf1 hc1 hb) s e).mono ?_⟩
        rintro _ w2 ⟨rfl, hr2, hc2⟩
        exact ⟨rfl, h.done hd1 (fun b q => .inl q) hc1 hb hr2 (fun b q => .inl q) hc2 h.up h.sum (by have := h.nn; omega) (by have := h.nl; omega) (.inr (.inr ⟨rfl, rfl⟩))⟩
      · have hat := (stOf_at h.up _ f).1 e
        have hsum := h.sum
        have hfl := sumL_at h.up e
        obtain ⟨hst, hup⟩ := dropL_st (place L s.data.toList) s.data.toList f h.up hat
        have hse := sumL_drop L _ _ hat
        simp only [] at hse
        have hse' : sumL (dropL L (place L s.data.toList)) = sumL L - f.1.length := by omega
        have hll := dropL_len L _ (List.getElem?_eq_some_iff.1 hat).1
        have hnl := h.nl
        refine (remove_go h.dk hg1 s hs f e hfl (by omega)).mono ?_
        rintro _ w1 ⟨rfl, ⟨own', hd1, ho1⟩, hc1⟩
        refine ⟨0, rfl, hc1.mono (fun b _ q => h.t1 b (.inl q)), fun w1' hb => (rremove_ok h.up (h.rf1 hc1 hb) (by omega) hg2 s e).mono ?_⟩
        rintro _ w2 ⟨rfl, ⟨S', hr2, hS2⟩, hc2⟩
        refine ⟨rfl, h.done (by rw [hst, hse']; exact hd1) ho1 hc1 hb hr2 hS2 hc2 hup (by omega) (by have := h.nn; omega) (by omega) hm⟩
end
end Go.Proofs.Ytkgpgfpclcibmaa

/- A disk and the document's disk side by side: Write, Rename, Arm, Crash. -/
namespace Go.Proofs.Ytkgpgfpclcibmaa
open Go.RowKit
set_option linter.unusedVariables false
set_option maxRecDepth 100000

section
variable {B d r N n : Nat} {own own' : Nat → Option Role} {S S' : Nat → Prop} {L L' : List Fl} {may may' : Value} {left left' lf lf' : Int} {dd dd' : Bool} {T : Nat → Prop} {w w1 w1' w2 : World}

theorem write_goT {st : St} {sz : Nat} (h : Dk B d n own st sz may left w) (hg : GoP d may left left') (s : ByteArray) (hs1 : 1 ≤ s.size) (hs2 : s.size ≤ 64) (f : List UInt8 × Nat) (e : st s.data.toList = some f) {vb : Value} {l : List UInt8} (hr : ∀ W, Chg (fun b => own b ≠ none) w W → Rd W vb l) (hz : sz + l.length ≤ 16777216) (hf : f.1.length ≤ 16777216) :
    Calls Try.prog 31 #[.pointer (some ⟨d, 0, none⟩), .string s, vb] w fun e w' => e = .returned (.int .i64 0) ∧ (∃ own', Dk B d n own' (setF st s.data.toList (some (f.1 ++ l, f.2))) (sz + l.length) may left' w' ∧ ∀ b, own' b ≠ none → own b ≠ none ∨ w.heap.size ≤ b) ∧ Chg (fun b => own b ≠ none) w w' := by
  rcases hg with ⟨rfl, rfl⟩ | ⟨rfl, K, hK, rfl, rfl⟩
  · exact write_there h s hs1 hs2 f e (hr w (Chg.refl _ _)) hz hf
  · exact write_okT h hK s hs1 hs2 f e hr hz hf
theorem write_goN {st : St} {sz : Nat} (h : Dk B d n own st sz may left w) (hg : GoP d may left left') (s : ByteArray) (hs1 : 1 ≤ s.size) (hs2 : s.size ≤ 64) (e : st s.data.toList = none) {vb : Value} {l : List UInt8} (hr : ∀ W, Chg (fun b => own b ≠ none) w W → Rd W vb l) (hz : sz + l.length ≤ 16777216) (hn : n ≤ 1099511627776) :
    Calls Try.prog 31 #[.pointer (some ⟨d, 0, none⟩), .string s, vb] w fun e w' => e = .returned (.int .i64 0) ∧ (∃ own', Dk B d (n + 1) own' (setF st s.data.toList (some (l, 0))) (sz + l.length) may left' w' ∧ ∀ b, own' b ≠ none → own b ≠ none ∨ w.heap.size ≤ b) ∧ Chg (fun b => own b ≠ none) w w' := by
  rcases hg with ⟨rfl, rfl⟩ | ⟨rfl, K, hK, rfl, rfl⟩
  · exact write_new h s hs1 hs2 e (hr w (Chg.refl _ _)) hz hn
  · exact write_okN h hK s hs1 hs2 e hr hz hn

theorem write_pair (h : Pr B d r N T w) (hN : N ≤ 1099511626000) (s : ByteArray) (hs : s.size ≤ maxLen) {vp vb : Value} {l : List UInt8} (hp : ∀ W, Chg T w W → Rd W vp l) (hr : ∀ W, Below B w W → Rd W vb l) (hl : l.length ≤ 1099511627776) :
    Calls Try.prog 31 #[.pointer (some ⟨d, 0, none⟩), .string s, vp] w fun ret w1 => Both B d r (N + 1) T w 37 #[.pointer (some ⟨r, 0, none⟩), .string s, vb] ret w1 := by
  obtain ⟨n, own, S, L, may, left, lf, dd, h⟩ := h
  have hp0 := hp w (Chg.refl _ _)
  have hp1 : ∀ W, Chg (fun b => own b ≠ none) w W → Rd W vp l := fun W hc => hp W (hc.mono (fun b _ q => h.t1 b (.inl q)))
  have hB1 : ∀ {w1 w1'}, Chg (fun b => own b ≠ none) w w1 → Below w1.heap.size w1 w1' → Below B w w1' := fun hc hb => (h.dk.chg hc).trans (hb.mono (Nat.le_trans h.leB hc.size))
  have hsum := h.sum
  have hnn := h.nn
  have hnl := h.nl
  rcases h.mode.parts with ⟨rfl, rfl⟩ | ⟨rfl, hlive, hgo⟩
  · refine (write_dead h.dk s hp0 hl hsum).mono ?_
    rintro _ w1 ⟨rfl, q, rfl⟩
    refine ⟨21, rfl, Chg.dNo _ _ _, fun w1' hb => (rwrite_dead (h.rf1 (Chg.dNo _ _ _) hb) s vb).mono ?_⟩
    rintro _ w2 ⟨rfl, rfl⟩
    exact ⟨rfl, h.drawn (by omega) (Below.dN w q) hb (Below.refl _ _)⟩
  · by_cases he : wErr s l.length (sumL L) = 0
    · have hg : (1 ≤ s.size ∧ s.size ≤ 64) ∧ sumL L + l.length ≤ 16777216 := by
        unfold wErr at he
        by_cases q : 1 ≤ s.size ∧ s.size ≤ 64
        · rw [if_neg (by simpa using q)] at he
          by_cases q2 : 16777216 < sumL L + l.length
          · rw [if_pos q2] at he; cases he
          · exact ⟨q, by omega⟩
        · rw [if_pos q] at he; cases he
      rcases hgo with ⟨rfl, rfl, rfl⟩ | ⟨left', lf', hg1, hg2, hm⟩
      · refine (write_dies h.dk s hp0 hl hsum he).mono ?_
        rintro _ w1 ⟨rfl, hd1, hc1⟩
        refine ⟨21, rfl, hc1.mono (fun b _ q => h.t1 b (.inl q)), fun w1' hb => (rwrite_dies (h.rf1 hc1 hb) s hg.1 (hr _ (hB1 hc1 hb)) hl hg.2).mono ?_⟩
        rintro _ w2 ⟨rfl, hr2, hc2⟩
        exact ⟨rfl, h.done hd1 (fun b q => .inl q) hc1 hb hr2 (fun b q => .inl q) hc2 h.up h.sum (by omega) (by omega) (.inr (.inr ⟨rfl, rfl⟩))⟩
      · cases e : stOf L s.data.toList with
        | none =>
          obtain ⟨hst, hup⟩ := putL_st s.data.toList (l, 0) h.up e
          have hse : sumL (putL L s.data.toList (l, 0)) = sumL L + l.length := sumL_put _ _ _
          refine (write_goN h.dk hg1 s hg.1.1 hg.1.2 e hp1 hg.2 (by omega)).mono ?_
          rintro _ w1 ⟨rfl, ⟨own', hd1, ho1⟩, hc1⟩
          refine ⟨0, rfl, hc1.mono (fun b _ q => h.t1 b (.inl q)), fun w1' hb => (rwrite_new h.up (h.rf1 hc1 hb) hg2 s hg.1 e (by omega) (fun W hW => hr W ((hB1 hc1 hb).trans hW)) hl hg.2).mono ?_⟩
          rintro _ w2 ⟨rfl, ⟨S', hr2, hS2⟩, hc2⟩
          exact ⟨rfl, h.done (by rw [hst, hse]; exact hd1) ho1 hc1 hb hr2 hS2 hc2 hup (by omega) (by omega) (by rw [putL_len]; omega) hm⟩
        | some f =>
          have hat := (stOf_at h.up _ f).1 e
          have hfl := sumL_at h.up e
          obtain ⟨hst, hup⟩ := setL_st (place L s.data.toList) s.data.toList (f.1 ++ l, f.2) f h.up hat
          have hse : sumL (L.set (place L s.data.toList) (s.data.toList, (f.1 ++ l, f.2))) = sumL L + l.length := by
            have := sumL_set L _ _ (s.data.toList, (f.1 ++ l, f.2)) hat
            simp only [List.length_append] at this
            omega
          refine (write_goT h.dk hg1 s hg.1.1 hg.1.2 f e hp1 hg.2 (by omega)).mono ?_
          rintro _ w1 ⟨rfl, ⟨own', hd1, ho1⟩, hc1⟩
          refine ⟨0, rfl, hc1.mono (fun b _ q => h.t1 b (.inl q)), fun w1' hb => (rwrite_there h.up (h.rf1 hc1 hb) hg2 s hg.1 e (fun W hW => hr W ((hB1 hc1 hb).trans hW)) hl hg.2 (by omega)).mono ?_⟩
          rintro _ w2 ⟨rfl, ⟨S', hr2, hS2⟩, hc2⟩
          exact ⟨rfl, h.done (by rw [hst, hse]; exact hd1) ho1 hc1 hb hr2 hS2 hc2 hup (by omega) (by omega) (by rw [List.length_set]; omega) hm⟩
    · have hpn : Calls Try.prog 31 #[.pointer (some ⟨d, 0, none⟩), .string s, vp] w fun e w' => e = .returned (.int .i64 (wErr s l.length (sumL L) : Int)) ∧ ∃ q, w' = w.drewN q := by
        have := h.dk
        rcases hlive with rfl | rfl
        · exact write_no this s hp0 hl hsum he
        · exact write_err this s hp0 hl hsum he
      refine hpn.mono ?_
      rintro _ w1 ⟨rfl, q, rfl⟩
      refine ⟨_, rfl, Chg.dNo _ _ _, fun w1' hb => ?_⟩
      have hrf := h.rf1 (Chg.dNo _ w q) hb
      unfold wErr at he ⊢
      by_cases q1 : 1 ≤ s.size ∧ s.size ≤ 64
      · rw [if_neg (by simpa using q1)] at he ⊢
        by_cases q2 : 16777216 < sumL L + l.length
        · rw [if_pos q2]
          refine (rwrite_full hrf s q1 (hr _ (hB1 (Chg.dNo _ _ _) hb)) hl hsum q2).mono ?_
          rintro _ w2 ⟨rfl, rfl⟩
          exact ⟨rfl, h.drawn (by omega) (Below.dN w q) hb (Below.refl _ _)⟩
        · rw [if_neg q2] at he; exact absurd rfl he
      · rw [if_pos q1]
        refine (rwrite_arg hrf s vb q1 (by unfold maxLen at hs; omega)).mono ?_
        rintro _ w2 ⟨rfl, rfl⟩
        exact ⟨rfl, h.drawn (by omega) (Below.dN w q) hb (Below.refl _ _)⟩

theorem rename_goN {st : St} {sz : Nat} (h : Dk B d n own st sz may left w) (hg : GoP d may left left') (s t : ByteArray) (hs : s.size ≤ maxLen) (ht1 : 1 ≤ t.size) (ht2 : t.size ≤ 64) (f : List UInt8 × Nat) (e : st s.data.toList = some f) (et : setF st s.data.toList none t.data.toList = none) (hn : n ≤ 1099511627776) :
    Calls Try.prog 43 #[.pointer (some ⟨d, 0, none⟩), .string s, .string t] w fun e w' => e = .returned (.int .i64 0) ∧ (∃ own', Dk B d (n + 1) own' (setF (setF st s.data.toList none) t.data.toList (some f)) sz may left' w' ∧ ∀ b, own' b ≠ none → own b ≠ none ∨ w.heap.size ≤ b) ∧ Chg (fun b => own b ≠ none) w w' := by
  rcases hg with ⟨rfl, rfl⟩ | ⟨rfl, K, hK, rfl, rfl⟩
  · exact rename_new h s t hs ht1 ht2 f e et hn
  · exact rename_okN h hK s t hs ht1 ht2 f e et hn
theorem rename_goO {st : St} {sz : Nat} (h : Dk B d n own st sz may left w) (hg : GoP d may left left') (s t : ByteArray) (hs : s.size ≤ maxLen) (ht1 : 1 ≤ t.size) (ht2 : t.size ≤ 64) (f f2 : List UInt8 × Nat) (e : st s.data.toList = some f) (et : setF st s.data.toList none t.data.toList = some f2) (hn : n ≤ 1099511627776) (hf2 : f2.1.length ≤ sz) (hz : sz ≤ 1099511627776) :
    Calls Try.prog 43 #[.pointer (some ⟨d, 0, none⟩), .string s, .string t] w fun e w' => e = .returned (.int .i64 0) ∧ (∃ own', Dk B d (n + 1) own' (setF (setF st s.data.toList none) t.data.toList (some f)) (sz - f2.1.length) may left' w' ∧ ∀ b, own' b ≠ none → own b ≠ none ∨ w.heap.size ≤ b) ∧ Chg (fun b => own b ≠ none) w w' := by
  rcases hg with ⟨rfl, rfl⟩ | ⟨rfl, K, hK, rfl, rfl⟩
  · exact rename_over h s t hs ht1 ht2 f f2 e et hn hf2 hz
  · exact rename_okO h hK s t hs ht1 ht2 f f2 e et hn hf2 hz

theorem rename_pair (h : Pr B d r N T w) (hN : N ≤ 1099511626000) (s t : ByteArray) (hs : s.size ≤ maxLen) (ht : t.size ≤ maxLen) :
    Calls Try.prog 43 #[.pointer (some ⟨d, 0, none⟩), .string s, .string t] w fun ret w1 => Both B d r (N + 1) T w 44 #[.pointer (some ⟨r, 0, none⟩), .string s, .string t] ret w1 := by
  obtain ⟨n, own, S, L, may, left, lf, dd, h⟩ := h
  have hsum := h.sum
  have hnn := h.nn
  have hnl := h.nl
  rcases h.mode.parts with ⟨rfl, rfl⟩ | ⟨rfl, hlive, hgo⟩
  · refine (rename_dead h.dk s t hs).mono ?_
    rintro _ w1 ⟨rfl, q, rfl⟩
    refine ⟨21, rfl, Chg.dNo _ _ _, fun w1' hb => (rrename_dead (h.rf1 (Chg.dNo _ _ _) hb) s t).mono ?_⟩
    rintro _ w2 ⟨rfl, q2, rfl⟩
    exact ⟨rfl, h.drawn (by omega) (Below.dN w q) hb (Below.dN _ q2)⟩
  · by_cases he : rErr (stOf L) s t = 0
    · obtain ⟨f, e, hg⟩ : ∃ f, stOf L s.data.toList = some f ∧ 1 ≤ t.size ∧ t.size ≤ 64 := by
        unfold rErr at he
        cases e : stOf L s.data.toList with
        | none => rw [if_pos e] at he; cases he
        | some f =>
          rw [if_neg (by rw [e]; simp)] at he
          by_cases q : 1 ≤ t.size ∧ t.size ≤ 64
          · exact ⟨f, rfl, q⟩
          · rw [if_pos q] at he; cases he
      rcases hgo with ⟨rfl, rfl, rfl⟩ | ⟨left', lf', hg1, hg2, hm⟩
      · refine (rename_dies h.dk s t hs he).mono ?_
        rintro _ w1 ⟨rfl, hd1, hc1⟩
        refine ⟨21, rfl, hc1.mono (fun b _ q => h.t1 b (.inl q)), fun w1' hb => (rrename_dies h.up (h.rf1 hc1 hb) s t e hg).mono ?_⟩
        rintro _ w2 ⟨rfl, hr2, hc2⟩
        exact ⟨rfl, h.done hd1 (fun b q => .inl q) hc1 hb hr2 (fun b q => .inl q) hc2 h.up h.sum (by omega) (by omega) (.inr (.inr ⟨rfl, rfl⟩))⟩
      · obtain ⟨hst, hup, hlen, hdr, hso, hsn⟩ := renL_st (t := t.data.toList) h.up e
        cases et : setF (stOf L) s.data.toList none t.data.toList with
        | none =>
          have hse := hsn et
          refine (rename_goN h.dk hg1 s t hs hg.1 hg.2 f e et (by omega)).mono ?_
          rintro _ w1 ⟨rfl, ⟨own', hd1, ho1⟩, hc1⟩
          refine ⟨0, rfl, hc1.mono (fun b _ q => h.t1 b (.inl q)), fun w1' hb => (rrename_new h.up (h.rf1 hc1 hb) (by omega) hg2 s t e hg (by rw [hdr]; exact et)).mono ?_⟩
          rintro _ w2 ⟨rfl, ⟨S', hr2, hS2⟩, hc2⟩
          exact ⟨rfl, h.done (by rw [hst, hse]; exact hd1) ho1 hc1 hb hr2 hS2 hc2 hup (by omega) (by omega) (by omega) hm⟩
        | some f2 =>
          have hse := hso f2 et
          have hse' : sumL (renL L s.data.toList t.data.toList f) = sumL L - f2.1.length := by omega
          refine (rename_goO h.dk hg1 s t hs hg.1 hg.2 f f2 e et (by omega) (by omega) (by omega)).mono ?_
          rintro _ w1 ⟨rfl, ⟨own', hd1, ho1⟩, hc1⟩
          refine ⟨0, rfl, hc1.mono (fun b _ q => h.t1 b (.inl q)), fun w1' hb => (rrename_over h.up (h.rf1 hc1 hb) (by omega) hg2 s t e hg (f2 := f2) (by rw [hdr]; exact et)).mono ?_⟩
          rintro _ w2 ⟨rfl, ⟨S', hr2, hS2⟩, hc2⟩
          exact ⟨rfl, h.done (by rw [hst, hse']; exact hd1) ho1 hc1 hb hr2 hS2 hc2 hup (by omega) (by omega) (by omega) hm⟩
    · have hpn : Calls Try.prog 43 #[.pointer (some ⟨d, 0, none⟩), .string s, .string t] w fun e w' => e = .returned (.int .i64 (rErr (stOf L) s t : Int)) ∧ ∃ q, w' = w.drewN q := by
        have := h.dk
        rcases hlive with rfl | rfl
        · exact rename_no this s t hs he
        · exact rename_err this s t hs he
      refine hpn.mono ?_
      rintro _ w1 ⟨rfl, q, rfl⟩
      refine ⟨_, rfl, Chg.dNo _ _ _, fun w1' hb => ?_⟩
      have hrf := h.rf1 (Chg.dNo _ w q) hb
      unfold rErr at he ⊢
      cases e : stOf L s.data.toList with
      | none =>
        rw [if_pos rfl]
        refine (rrename_no h.up hrf s t e).mono ?_
        rintro _ w2 ⟨rfl, q2, rfl⟩
        exact ⟨rfl, h.drawn (by omega) (Below.dN w q) hb (Below.dN _ q2)⟩
      | some f =>
        rw [if_neg (by simp)]
        rw [if_neg (by rw [e]; simp)] at he
        by_cases q1 : 1 ≤ t.size ∧ t.size ≤ 64
        · rw [if_neg (by simpa using q1)] at he; exact absurd rfl he
        · rw [if_pos q1]
          refine (rrename_arg h.up hrf s t e q1 (by unfold maxLen at ht; omega)).mono ?_
          rintro _ w2 ⟨rfl, q2, rfl⟩
          exact ⟨rfl, h.drawn (by omega) (Below.dN w q) hb (Below.dN _ q2)⟩

/-- The post of a call without an answer. -/
def BothN (B d r N : Nat) (T : Nat → Prop) (w : World) (fn : FuncId) (args : Array Value) (ret : Ending) (w1 : World) : Prop :=
  (∃ v, ret = .returned v) ∧ Chg T w w1 ∧ ∀ w1', Below w1.heap.size w1 w1' → Calls Try.prog fn args w1' fun ret2 w2 => (∃ v, ret2 = .returned v) ∧ Chg T w w2 ∧ Pr B d r N (Tn T w w2) w2

theorem arm_pair (h : Pr B d r N T w) (k : Int) (hk : -9223372036854775808 ≤ k ∧ k ≤ 9223372036854775807) :
    Calls Try.prog 45 #[.pointer (some ⟨d, 0, none⟩), .int .i64 k] w fun ret w1 => BothN B d r (N + 1) T w 46 #[.pointer (some ⟨r, 0, none⟩), .int .i64 k] ret w1 := by
  obtain ⟨n, own, S, L, may, left, lf, dd, h⟩ := h
  have hnn := h.nn
  have hnl := h.nl
  rcases h.mode.parts with ⟨rfl, rfl⟩ | ⟨rfl, hlive, hgo⟩
  · refine (arm_dead h.dk k).mono ?_
    rintro _ w1 ⟨hv, q, rfl⟩
    refine ⟨hv, Chg.dNo _ _ _, fun w1' hb => (rarm_any (h.rf1 (Chg.dNo _ _ _) hb) k hk).mono ?_⟩
    rintro _ w2 ⟨hv2, hr2, hc2⟩
    exact ⟨hv2, h.done (h.dk.drN q) (fun b q => .inl q) (Chg.dNo _ _ _) hb hr2 (fun b q => .inl q) hc2 h.up h.sum (by omega) (by omega) (.inr (.inr ⟨rfl, rfl⟩))⟩
  · have hp : Calls Try.prog 45 #[.pointer (some ⟨d, 0, none⟩), .int .i64 k] w fun e w' => (∃ v, e = .returned v) ∧ Dk B d n own (stOf L) (sumL L) (armed d) (max k 0) w' ∧ Chg (fun b => own b ≠ none) w w' := by
      have := h.dk
      rcases hlive with rfl | rfl
      · exact arm_alive this k hk
      · exact arm_armed this k hk
    refine hp.mono ?_
    rintro _ w1 ⟨hv, hd1, hc1⟩
    refine ⟨hv, hc1.mono (fun b _ q => h.t1 b (.inl q)), fun w1' hb => (rarm_any (h.rf1 hc1 hb) k hk).mono ?_⟩
    rintro _ w2 ⟨hv2, hr2, hc2⟩
    have hm : max k 0 = ((max k 0).toNat : Int) := by omega
    exact ⟨hv2, h.done hd1 (fun b q => .inl q) hc1 hb hr2 (fun b q => .inl q) hc2 h.up h.sum (by omega) (by omega) (.inr (.inl ⟨(max k 0).toNat, by omega, rfl, hm, hm, rfl⟩))⟩

theorem crash_pair (h : Pr B d r N T w) (hN : N ≤ 1099511626000) {vp vk : Value} {ks : List Int} (hp : RdI w vp ks) (hpo : ∀ b, vp.ownBlock = some b → ¬ T b) (hk : ∀ W, Below B w W → RdI W vk ks) (hki : ∀ k ∈ ks, -9223372036854775808 ≤ k ∧ k ≤ 9223372036854775807) :
    Calls Try.prog 33 #[.pointer (some ⟨d, 0, none⟩), vp] w fun ret w1 => BothN B d r (N + 1) T w 47 #[.pointer (some ⟨r, 0, none⟩), vk] ret w1 := by
  obtain ⟨n, own, S, L, may, left, lf, dd, h⟩ := h
  have hnn := h.nn
  have hnl := h.nl
  have hsum := h.sum
  have hkept := h.rf.kept
  have hcr := crashF_is h.up hkept ks
  have hnm := namesL_of h.up
  refine (crash_any h.dk hnm (by omega) (sumL_of h.up) (fun nm f e => by have := sumL_at h.up e; omega) (by omega) (by unfold namesL; rw [List.length_map]; omega) hp (fun b hb => by
    by_cases q : own b = none
    · exact q
    · exact absurd (h.t1 b (.inl q)) (hpo b hb)) hki).mono ?_
  rw [hcr]
  rintro _ w1 ⟨hv, ⟨own', hd1, ho1⟩, hc1⟩
  refine ⟨hv, hc1.mono (fun b _ q => h.t1 b (.inl q)), fun w1' hb => (rcrash_any (h.rf1 hc1 hb) (by omega) (fun x hx => by have := sumL_mem hx; omega) (fun W hW => hk W (((h.dk.chg hc1).trans (hb.mono (Nat.le_trans h.leB hc1.size))).trans hW))).mono ?_⟩
  rintro _ w2 ⟨hv2, ⟨S', hr2, hS2⟩, hc2⟩
  exact ⟨hv2, h.done hd1 ho1 hc1 hb hr2 hS2 hc2 (crashL_up h.up ks 0) (by have := crashL_sum L hkept ks 0; omega) (by omega) (by rw [crashL_len]; omega) (.inl ⟨rfl, rfl, rfl⟩)⟩
end
end Go.Proofs.Ytkgpgfpclcibmaa

/- look: what the two disks tell is the same. -/
namespace Go.Proofs.Ytkgpgfpclcibmaa
open Go.RowKit
set_option linter.unusedVariables false
set_option maxRecDepth 100000

section
variable {B d r N n : Nat} {own : Nat → Option Role} {S : Nat → Prop} {L : List Fl} {may : Value} {left lf : Int} {dd : Bool} {T : Nat → Prop} {w : World}

/-- What is told of the files' names and size. -/
def toldN (L : List Fl) (dd : Bool) : List Nm := if dd = true then [] else namesL L
def toldS (L : List Fl) (dd : Bool) : Nat := if dd = true then 0 else sumL L

theorem names_pr (h : PrI B d r N n own S L may left lf dd T w) (hN : N ≤ 1099511627000) :
    Calls Try.prog 50 #[.pointer (some ⟨d, 0, none⟩)] w fun e w' => ∃ v, e = .returned v ∧ RdS w' v (toldN L dd) ∧ Below w.heap.size w w' := by
  have hnn := h.nn
  rcases h.mode with ⟨rfl, rfl, rfl⟩ | ⟨K, hK, rfl, rfl, rfl, rfl⟩ | ⟨rfl, rfl⟩
  · refine (namesQ_alive h.dk (namesL_of h.up) (by omega)).mono ?_
    rintro _ w' ⟨v, rfl, ho, hb⟩
    exact ⟨v, rfl, RdS.of ho, hb⟩
  · refine (namesQ_armed h.dk (namesL_of h.up) (by omega)).mono ?_
    rintro _ w' ⟨v, rfl, ho, hb⟩
    exact ⟨v, rfl, RdS.of ho, hb⟩
  · refine (namesQ_dead h.dk).mono ?_
    rintro _ w' ⟨rfl, q, rfl⟩
    exact ⟨_, rfl, RdS.nil _, Below.dN w q⟩
theorem rnames_pr (h : PrI B d r N n own S L may left lf dd T w) (hN : N ≤ 1099511627000) :
    Calls Try.prog 51 #[.pointer (some ⟨r, 0, none⟩)] w fun e w' => ∃ v, e = .returned v ∧ RdS w' v (toldN L dd) ∧ Below w.heap.size w w' := by
  have hnl := h.nl
  cases dd with
  | false =>
    refine (rnames_any h.rf (by omega)).mono ?_
    rintro _ w' ⟨v, rfl, ho, hb⟩
    exact ⟨v, rfl, RdS.of ho, hb⟩
  | true =>
    refine (rnames_dead h.rf).mono ?_
    rintro _ w' ⟨rfl, rfl⟩
    exact ⟨_, rfl, RdS.nil _, Below.refl _ _⟩
theorem size_pr (h : PrI B d r N n own S L may left lf dd T w) :
    Calls Try.prog 52 #[.pointer (some ⟨d, 0, none⟩)] w fun e w' => e = .returned (.int .i64 (toldS L dd : Int)) ∧ ∃ q, w' = w.drewN q := by
  rcases h.mode with ⟨rfl, rfl, rfl⟩ | ⟨K, hK, rfl, rfl, rfl, rfl⟩ | ⟨rfl, rfl⟩
  · exact size_alive h.dk
  · exact size_armed h.dk
  · exact size_dead h.dk
theorem rsize_pr (h : PrI B d r N n own S L may left lf dd T w) :
    Calls Try.prog 53 #[.pointer (some ⟨r, 0, none⟩)] w fun e w' => e = .returned (.int .i64 (toldS L dd : Int)) ∧ w' = w := by
  have hs := h.sum
  cases dd with
  | false => exact rsize_any h.rf (by omega)
  | true => exact rsize_dead h.rf
theorem dead_pr (h : PrI B d r N n own S L may left lf dd T w) :
    Calls Try.prog 54 #[.pointer (some ⟨d, 0, none⟩)] w fun e w' => e = .returned (.bool dd) ∧ ∃ q, w' = w.drewN q := by
  rcases h.mode with ⟨rfl, rfl, rfl⟩ | ⟨K, hK, rfl, rfl, rfl, rfl⟩ | ⟨rfl, rfl⟩
  · exact dead_alive h.dk
  · exact deadQ_armed h.dk
  · exact deadQ_dead h.dk
/-- What Read of both tells. -/
def toldR (L : List Fl) (dd : Bool) (nm : Nm) : List UInt8 × Int := if dd = true then ([], 21) else match stOf L nm with | none => ([], 20) | some f => (f.1, 0)
theorem read_pr (h : PrI B d r N n own S L may left lf dd T w) (s : ByteArray) (hs : s.size ≤ maxLen) :
    Calls Try.prog 34 #[.pointer (some ⟨d, 0, none⟩), .string s] w fun e w' => ∃ v, e = .returned (.tuple #[v, .int .i64 (toldR L dd s.data.toList).2]) ∧ Ow w.heap.size w' v (toldR L dd s.data.toList).1 ∧ Below w.heap.size w w' := by
  have hsum := h.sum
  rcases h.mode.parts with ⟨rfl, rfl⟩ | ⟨rfl, hlive, _⟩
  · refine (read_dead h.dk s hs).mono ?_
    rintro _ w' ⟨rfl, q, rfl⟩
    exact ⟨_, rfl, Ow.nil _ _, Below.dN w q⟩
  · unfold toldR
    simp only [Bool.false_eq_true, if_false]
    cases e : stOf L s.data.toList with
    | none =>
      have hp : Calls Try.prog 34 #[.pointer (some ⟨d, 0, none⟩), .string s] w fun e w' => e = .returned (.tuple #[.slice none 0 0, .int .i64 20]) ∧ ∃ q, w' = w.drewN q := by
        have := h.dk
        rcases hlive with rfl | rfl
        · exact read_no this s hs e
        · exact read_noA this s hs e
      refine hp.mono ?_
      rintro _ w' ⟨rfl, q, rfl⟩
      exact ⟨_, rfl, Ow.nil _ _, Below.dN w q⟩
    | some f =>
      have hfl := sumL_at h.up e
      have := h.dk
      rcases hlive with rfl | rfl
      · exact read_alive this s hs f e (by omega)
      · exact read_armed this s hs f e (by omega)
theorem rread_pr (h : PrI B d r N n own S L may left lf dd T w) (s : ByteArray) :
    Calls Try.prog 40 #[.pointer (some ⟨r, 0, none⟩), .string s] w fun e w' => ∃ v, e = .returned (.tuple #[v, .int .i64 (toldR L dd s.data.toList).2]) ∧ Rd w' v (toldR L dd s.data.toList).1 ∧ Below w.heap.size w w' := by
  have hsum := h.sum
  cases dd with
  | true =>
    refine (rread_dead h.rf s).mono ?_
    rintro _ w' ⟨rfl, q, rfl⟩
    exact ⟨_, rfl, Rd.nil _, Below.dN w q⟩
  | false =>
    unfold toldR
    simp only [Bool.false_eq_true, if_false]
    cases e : stOf L s.data.toList with
    | none =>
      refine (rread_no h.up h.rf s e).mono ?_
      rintro _ w' ⟨rfl, q, rfl⟩
      exact ⟨_, rfl, Rd.nil _, Below.dN w q⟩
    | some f =>
      have hfl := sumL_at h.up e
      refine (rread_ok h.up h.rf s f e (by omega)).mono ?_
      rintro _ w' ⟨v, rfl, ho, hb⟩
      exact ⟨v, rfl, ho.rd, hb⟩
theorem toldN_short (h : PrI B d r N n own S L may left lf dd T w) (nm : Nm) (hm : nm ∈ toldN L dd) : nm.length ≤ 64 := by
  unfold toldN at hm
  cases dd with
  | true => simp at hm
  | false =>
    simp only [Bool.false_eq_true, if_false] at hm
    obtain ⟨fv, P, rfl, hI⟩ := h.rf
    unfold namesL at hm
    rw [List.map_map] at hm
    obtain ⟨x, hx, rfl⟩ := List.mem_map.1 hm
    exact (hI.data x hx).2.2

theorem ow_fill {B1 : Nat} {w : World} {v : Value} {l : List UInt8} (h : Ow B1 w v l) (j : Nat) (hj : j < l.length) : ∃ g c, v = .slice (some ⟨g, 0, none⟩) l.length c ∧ l.length ≤ c ∧ c ≤ maxLen ∧ B1 ≤ g ∧ (∃ u, w.cell? ⟨g, j, none⟩ = some u) ∧ w.frozen? ⟨g, j, none⟩ = false ∧ Ow B1 (w.setCell ⟨g, j, none⟩ (.int .u8 119)) v (l.set j 119) := by
  obtain ⟨g, c, rfl, hc⟩ := own_cell0 h j hj
  have hlt := World.ownsRow.lt h g rfl
  have hfz : w.frozen? ⟨g, j, none⟩ = false := by
    rcases h.2 with ⟨q, q0⟩ | ⟨g', cap, cur, q, hB, hg, _⟩
    · cases q
    · simp only [Value.slice.injEq, Option.some.injEq, Addr.mk.injEq, and_true, true_and] at q
      rw [q.1]
      exact frozen_of_row _ _ _ _ _ hg
  have hle : l.length ≤ c ∧ c ≤ maxLen := by
    rcases h.2 with ⟨q, q0⟩ | ⟨g', cap, cur, q, hB, hg, q1, q2, _⟩
    · cases q
    · simp only [Value.slice.injEq, true_and] at q
      rw [q.2]; exact ⟨q1, q2⟩
  refine ⟨g, c, rfl, hle.1, hle.2, hlt.1, ⟨_, by rw [hc, cel_get l j hj]⟩, hfz, ?_⟩
  have := ownsRow_set h (g := g) rfl j (.int .u8 119)
  unfold Ow
  rw [List.length_set]
  have e : (cel l).set j (.int .u8 119) = cel (l.set j 119) := by simp [cel, List.map_set]
  rw [← e]
  exact this

theorem same_eq {va vb : Value} {l : List UInt8} {w : World} (ha : Rd w va l) (hb : Rd w vb l) : Calls Try.prog 30 #[va, vb] w fun e w' => e = .returned (.bool true) ∧ ∃ n, w' = w.drewN n := by
  refine (same_any ha hb).mono ?_
  rintro _ w' ⟨rfl, q⟩
  exact ⟨by rw [decide_eq_true rfl], q⟩
theorem numD_any (e : Int) (w : World) : Calls Try.prog 17 #[.int .i64 e] w fun r w' => r = .returned (.int .i64 e) ∧ w' = w := by
  go_enter Try.func17, Try.ntmps17
  go_wp2
  go_ret
  exact ⟨rfl, rfl⟩

set_option maxHeartbeats 2000000 in
theorem look_any (h : PrI B d r N n own S L may left lf dd T w) (hN : N ≤ 1099511627000) :
    Calls Try.prog 13 #[.pointer (some ⟨d, 0, none⟩), .pointer (some ⟨r, 0, none⟩)] w fun e w' => e = .returned (.bool true) ∧ Below w.heap.size w w' := by
  go_enter Try.func13, Try.ntmps13
  go_upto_region 1 with fail
  go_cut [33] from 12 to 78 (fun s wx => s = .bool false ∧ Below w.heap.size w wx)
  case first =>
    go_region_with (first
      | (go_at_call 50; refine (names_pr (h.below (Below.dN w _)) hN).mono ?_; rintro e w1 ⟨v1, rfl, hS1, hb1⟩; have hB1 := Below.tr (Below.dN w _) hb1)
      | (go_at_call 51; refine (rnames_pr (h.below hB1) hN).mono ?_; rintro e w2 ⟨v2, rfl, hS2, hb2⟩; have hB2 := Below.tr hB1 hb2; have cD := (h.below hB2).rf.cells.2.1)
      | (go_at_call 49; refine (sameTexts_any (hS1.below hb2) hS2).mono ?_; rintro e w3 ⟨rfl, q3, rfl⟩)
      | (go_at_call 52; refine (size_pr (h.below (Below.tr hB2 (Below.dN w2 _)))).mono ?_; rintro e w4 ⟨rfl, q4, rfl⟩)
      | (go_at_call 53; refine (rsize_pr (h.below (Below.tr hB2 (Below.dN w2 _)))).mono ?_; rintro e w5 ⟨rfl, rfl⟩)
      | (go_at_call 54; refine (dead_pr (h.below (Below.tr hB2 (Below.dN w2 _)))).mono ?_; rintro e w6 ⟨rfl, q6, rfl⟩)
      | fail)
    all_goals
      go_wp2_with fail
      go_meet
      exact ⟨by simp, Below.tr hB2 (Below.dN w2 _)⟩
  case rest =>
    obtain ⟨rfl, hBx⟩ := hcut
    have hx := h.below hBx
    go_wp2_with fail
    refine (rnames_pr hx hN).mono ?_
    rintro e w2 ⟨v2, rfl, hS2, hb2⟩
    have hB2 := Below.tr hBx hb2
    have h2 := h.below hB2
    have hshort := toldN_short h2
    clear hx hb2
    obtain ⟨an, cn, rfl, n1, n2, n4⟩ := hS2
    unfold maxLen at n2
    generalize toldN L dd = M at *
    go_wp2_with fail
    go_loopw [6] (fun i wr => ∃ k : Nat, k ≤ M.length ∧ i = .int .i64 k ∧ Below w2.heap.size w2 wr) (fun i _ => M.length - (intOf i).toNat)
    case atStart => exact ⟨0, Nat.zero_le _, rfl, Below.refl _ _⟩
    case round =>
      obtain ⟨k, hk, rfl, hbr⟩ := hrel
      by_cases hlt : k < M.length
      · obtain ⟨a, rfl, hc⟩ := n4 k hlt
        have hcr : wr.cell? (a.add k) = some (.string ⟨M[k].toArray⟩) := by rw [hbr.cell (World.block_lt_of_cell? _ _ hc)]; exact hc
        have hsz : (⟨M[k].toArray⟩ : ByteArray).size ≤ maxLen := by
          have := hshort M[k] (List.getElem_mem hlt)
          show M[k].toArray.size ≤ _
          simp only [List.size_toArray, maxLen]
          omega
        have hwr := h2.below hbr
        generalize M[k] = nm at *
        generalize (⟨nm.toArray⟩ : ByteArray) = s at *
        clear n4 hc
        go_wp2_with fail
        refine (read_pr hwr s hsz).mono ?_
        rintro e w3 ⟨v3, rfl, ho3, hb3⟩
        have hcr3 : w3.cell? (a.add k) = some (.string s) := by rw [hb3.cell (World.block_lt_of_cell? _ _ hcr)]; exact hcr
        go_wp2_with fail
        refine (rread_pr (hwr.below hb3) s).mono ?_
        rintro e w4 ⟨v4, rfl, hr4, hb4⟩
        generalize (toldR L dd s.data.toList).2 = E at *
        generalize (toldR L dd s.data.toList).1 = l at *
        have ho4 := ho3.below hb4 (Nat.le_refl _)
        go_wp2_with fail
        refine (same_eq ho4.rd hr4).mono ?_
        rintro e w5 ⟨rfl, q5, rfl⟩
        go_wp2_with (first | (go_at_call 17; refine (numD_any _ _).mono ?_; rintro e w6 ⟨rfl, rfl⟩) | fail)
        have hB4 := Below.tr hbr (Below.tr hb3 hb4)
        obtain ⟨a3, c3, rfl, e1, e2, _⟩ := id ho4.rd
        unfold maxLen at e2
        have hrl := hbr.size
        have hoB := ho4
        clear ho4 ho3
        generalize wr.heap.size = B1 at hoB hrl
        go_loopw [11] (fun j wi => ∃ (j0 : Nat) (l' : List UInt8), j0 ≤ l.length ∧ j = .int .i64 j0 ∧ l'.length = l.length ∧ Ow B1 wi (.slice a3 l.length c3) l' ∧ Below w2.heap.size w2 wi) (fun j _ => l.length - (intOf j).toNat)
        case atStart => exact ⟨0, l, Nat.zero_le _, rfl, rfl, hoB.drewN q5, Below.drN hB4 q5⟩
        case round =>
          obtain ⟨j, l', hj, rfl, hl', ho, hbi⟩ := hrel
          by_cases hjl : j < l.length
          · obtain ⟨g, c, eg, _, _, hBg, ⟨u, hcu⟩, hfz, hset⟩ := ow_fill ho j (by omega)
            simp only [Value.slice.injEq] at eg
            obtain ⟨rfl, _, rfl⟩ := eg
            have hnb : Below w2.heap.size w2 (wr.setCell ⟨g, j, none⟩ (.int .u8 119)) := hbi.trans (((Chg.refl (fun b => b = g) wr).put g j _ rfl).below (fun b q => by omega) hbi.size)
            have H : Hid _ := And.intro hset hnb
            have HL : Hid _ := hl'
            clear hset hnb ho hl'
            go_wp2_with fail
            exact ⟨⟨j + 1, l'.set j 119, by omega, by go_num, by rw [List.length_set]; exact HL.out, H.out.1, H.out.2⟩, by simp [intOf]; omega⟩
          · obtain rfl : j = l.length := by omega
            clear hl' ho
            go_wp2_with fail
            exact ⟨⟨k + 1, by omega, by go_num, hbi⟩, by simp [intOf]; omega⟩
      · obtain rfl : k = M.length := by omega
        go_wp2_with fail
        go_ret
        exact ⟨rfl, Below.tr hB2 hbr⟩
end
end Go.Proofs.Ytkgpgfpclcibmaa

/- one: a step of both disks, and what they answer is the same. -/
namespace Go.Proofs.Ytkgpgfpclcibmaa
open Go.RowKit
set_option linter.unusedVariables false
set_option maxRecDepth 100000

/-- What a step is handed, and what is known of it. -/
structure Fit (B : Nat) (x : SV2) (w : World) : Prop where
  rd : ∀ W, Below B w W → Rd W (.slice x.ad x.data.length x.cd) x.data
  ri : ∀ W, Below B w W → RdI W (.slice x.ak x.keep.length x.ck) x.keep
  l2 : x.nm.size ≤ maxLen
  l3 : x.to.size ≤ maxLen
  ln : -9223372036854775808 ≤ x.num ∧ x.num ≤ 9223372036854775807
  lk : ∀ k ∈ x.keep, -9223372036854775808 ≤ k ∧ k ≤ 9223372036854775807
  ld : x.data.length ≤ 1048576
  lq : x.keep.length ≤ 1048576
  kn : x.ak = none → x.ck = 0
theorem Fit.next {B : Nat} {x : SV2} {w w' : World} (h : Fit B x w) (hb : Below B w w') : Fit B x w' := ⟨fun W hW => h.rd W (hb.trans hW), fun W hW => h.ri W (hb.trans hW), h.l2, h.l3, h.ln, h.lk, h.ld, h.lq, h.kn⟩
/-- A step's cells. -/
def svA (x : SV2) : Array Value := #[.int .i64 x.act, .int .i64 x.num, .string x.nm, .string x.to, .slice x.ad x.data.length x.cd, .slice x.ak x.keep.length x.ck]

section
variable {B d r N : Nat} {T T' : Nat → Prop} {w w1 w2 wb : World} {x : SV2}

theorem Pr.wider (h : Pr B d r N T w) (hT : ∀ b, T b → T' b) (h2 : ∀ b, T' b → B ≤ b ∧ b < w.heap.size) : Pr B d r N T' w := by
  obtain ⟨n, own, S, L, may, left, lf, dd, h⟩ := h
  exact ⟨n, own, S, L, may, left, lf, dd, h.dk, h.rf, h.up, h.sum, h.nn, h.nl, h.mode, h.ap, fun b q => hT b (h.t1 b q), h2⟩
/-- Behind the call, as the caller sees it. -/
theorem Pr.fin (h : Pr B d r N T w) {N' : Nat} (hb : Below w.heap.size w wb) (hc : Chg T wb w2) (hP : Pr B d r N' (Tn T wb w2) w2) : Chg T w w2 ∧ Pr B d r N' (Tn T w w2) w2 := by
  have z1 := hb.size
  have z2 := hc.size
  have hB := h.leB
  refine ⟨((Chg.of_below hb).mono (fun b hb q => by omega)).trans (hc.mono (fun b _ q => .inl q)), hP.wider (fun b q => ?_) (fun b q => ?_)⟩
  · rcases q with q | q
    · exact .inl q
    · exact .inr ⟨by omega, q.2⟩
  · rcases q with q | q
    · exact ⟨(h.lt b q).1, by have := (h.lt b q).2; omega⟩
    · exact ⟨by omega, q.2⟩
theorem Pr.finB (h : Pr B d r N T w) {N' : Nat} (hN : N ≤ N') (hb : Below w.heap.size w w2) : Chg T w w2 ∧ Pr B d r N' (Tn T w w2) w2 := by
  have z1 := hb.size
  have hB := h.leB
  refine ⟨(Chg.of_below hb).mono (fun b hb q => by omega), ((h.below hb).more hN).wider (fun b q => .inl q) (fun b q => ?_)⟩
  rcases q with q | q
  · exact ⟨(h.lt b q).1, by have := (h.lt b q).2; omega⟩
  · exact ⟨by omega, q.2⟩
theorem box_cell {F i : Nat} {u : Value} (hc : Chg T w w1) (hT : ¬ T F) (hF : F < w.heap.size) (c : w.cell? ⟨F, i, none⟩ = some u) : w1.cell? ⟨F, i, none⟩ = some u := by
  rw [World.cell?_of_block (hc.block F hF hT)]; exact c
theorem box_at (w : World) (cs : Array Value) (t : TypeId) (i : Nat) : (w.alloc (.cells cs t)).cell? ⟨w.heap.size, i, none⟩ = cs[i]? := by rw [World.cell?_alloc_at _ _ _ _ rfl]
theorem Pr.after {N' : Nat} (h0 : Pr B d r N T w) (h : Chg T w w2 ∧ Pr B d r N' (Tn T w w2) w2) {w3 : World} (hb : Below w2.heap.size w2 w3) : Chg T w w3 ∧ Pr B d r N' (Tn T w w3) w3 := by
  have z1 := h.1.size
  have z2 := hb.size
  have hB := h0.leB
  refine ⟨h.1.trans ((Chg.of_below hb).mono (fun b hb q => by omega)), (h.2.below hb).wider (fun b q => ?_) (fun b q => ?_)⟩
  · rcases q with q | q
    · exact .inl q
    · exact .inr ⟨q.1, by omega⟩
  · rcases q with q | q
    · exact ⟨(h0.lt b q).1, by have := (h0.lt b q).2; omega⟩
    · exact ⟨by omega, q.2⟩
end
end Go.Proofs.Ytkgpgfpclcibmaa

/- one: a step of both disks, and what they answer is the same: Arm. -/
namespace Go.Proofs.Ytkgpgfpclcibmaa
open Go.RowKit
set_option linter.unusedVariables false
set_option maxRecDepth 100000

section
variable {B d r N : Nat} {T : Nat → Prop} {w : World} {x : SV2}

set_option maxHeartbeats 2000000 in
theorem one_arm (h : Pr B d r N T w) (hN : N ≤ 1099511626000) (hx : Fit B x w) (ha : x.act = 5) :
    Calls Try.prog 12 #[.pointer (some ⟨d, 0, none⟩), .pointer (some ⟨r, 0, none⟩), .agg (svA x)] w fun e w' => e = .returned (.bool true) ∧ Chg T w w' ∧ Pr B d r (N + 1) (Tn T w w') w' := by
  have hTF : ¬ T w.heap.size := fun q => by have := (h.lt _ q).2; omega
  have hFl : w.heap.size < (w.alloc (.cells (svA x) 32)).heap.size := by simp
  have hal : Below w.heap.size w (w.alloc (.cells (svA x) 32)) := Below.al w _
  have hPb := h.below hal
  have hxb := hx.next (hal.mono h.leB)
  have z0 : (w.alloc (.cells (svA x) 32)).cell? ⟨w.heap.size, 0, none⟩ = some (.int .i64 x.act) := by rw [box_at]; rfl
  have z1 : (w.alloc (.cells (svA x) 32)).cell? ⟨w.heap.size, 1, none⟩ = some (.int .i64 x.num) := by rw [box_at]; rfl
  obtain ⟨act, num, nm, tn, data, ad, cd, keep, ak, ck⟩ := x
  obtain ⟨xrd, xri, l2, l3, ln, lk, ld, lq, kn⟩ := hxb
  simp only [] at *
  subst ha
  unfold svA at *
  simp only [] at *
  generalize hwb : w.alloc (.cells #[.int .i64 5, .int .i64 num, .string nm, .string tn, .slice ad data.length cd, .slice ak keep.length ck] 32) = wb at *
  have hF : Hid _ := And.intro h hal
  clear h hal hx
  go_enter Try.func12, Try.ntmps12
  go_wp2_with fail
  generalize hF0 : w.heap.size = F at *
  clear hwb
  refine (arm_pair hPb num ln).mono ?_
  rintro e w1 ⟨⟨v1, rfl⟩, hc1, hnext⟩
  have y1 := box_cell (i := 1) hc1 hTF hFl z1
  have y0 := box_cell (i := 0) hc1 hTF hFl z0
  go_wp2_with fail
  refine (hnext _ (Below.refl _ _)).mono ?_
  rintro e w2 ⟨⟨v2, rfl⟩, hc2, hP2⟩
  have H2 : Hid _ := hF.out.1.fin (by rw [hF0]; exact hF.out.2) hc2 hP2
  obtain ⟨n, own, S, L, may, left, lf, dd, hI⟩ := hP2
  go_wp2_with fail
  refine (look_any hI (by omega)).mono ?_
  rintro e w3 ⟨rfl, hb3⟩
  go_wp2_with fail
  go_ret
  exact ⟨rfl, hF.out.1.after H2.out hb3⟩
end
end Go.Proofs.Ytkgpgfpclcibmaa

/- one: a step of both disks, and what they answer is the same: Crash. -/
namespace Go.Proofs.Ytkgpgfpclcibmaa
open Go.RowKit
set_option linter.unusedVariables false
set_option maxRecDepth 100000

section
variable {B d r N : Nat} {T : Nat → Prop} {w : World} {x : SV2}

theorem Try.infoInt : (Try.prog.info? 3).map (fun i => (i.zero, i.size, i.bytes)) = some (some (.int .i64 0), 1, 8) := by kernel_rfl
/-- 'append([]int(nil), x...)'. -/
theorem wpList_appI {w : World} {ops : Array Oper} {rest : List Oper} {o : Oper} {a : Act} {Q : Exit → Act → World → Prop} (hgd : o.guard = none) (s x : Operand)
    (ho : o.op = .call { callee := .builtin .append, args := #[s, x], argTypes := #[30, 30] }) (hs : a.eval s = .slice none 0 0) (ao : Option Addr) (ks : List Int) (c : Nat) (hx : a.eval x = .slice ao ks.length c) (hm : RdI w (.slice ao ks.length c) ks) (hn : ao = none → c = 0) (hlen : ks.length ≤ 1048576)
    (h : ∀ v' w', RdI w' v' ks → (∀ b, v'.ownBlock = some b → w.heap.size ≤ b) → Below w.heap.size w w' → wpList Try.prog ops Q rest (a.put o.dst v') w') : wpList Try.prog ops Q (o :: rest) a w := by
  obtain ⟨i, hi, hz0, hz1, hz2⟩ := info_parts Try.infoInt
  obtain ⟨ao', c', e, h1, h2, h4⟩ := hm
  simp only [Value.slice.injEq, true_and] at e
  obtain ⟨rfl, rfl⟩ := e
  cases ao with
  | none =>
    obtain rfl := hn rfl
    have hks : ks = [] := List.length_eq_zero_iff.1 (by omega)
    subst hks
    refine wpList_append_own_none hgd s x 30 ho w.heap.size 3 i 1 Try.underlying30 hi _ 0 [] hs (World.ownsRow_nil _ _ _ _) hx ?_
    exact h _ w ⟨none, 0, rfl, by simp, by simp, fun i hi => by simp at hi⟩ (fun b e => by cases e) (Below.refl _ _)
  | some ad =>
    refine wpList_append_own w hgd s x 30 ho w.heap.size 3 i _ 1 8 Try.underlying30 hi hz0 hz1 hz2 rfl (by decide) (.slice none 0 0) 0 [] hs (World.ownsRow_nil _ _ _ _) ad ks.length c (ks.map (Value.int .i64)) hx (by simp) ?_ ?_ (by unfold maxLen; omega) (by omega) (Nat.le_refl _) ?_
    · intro j u hu
      rw [List.getElem?_map] at hu
      obtain ⟨y, hy, rfl⟩ := Option.map_eq_some_iff.1 hu
      obtain ⟨hj, e⟩ := List.getElem?_eq_some_iff.1 hy
      obtain ⟨a', ea, hc⟩ := h4 j hj
      obtain rfl := Option.some.inj ea
      rw [hc, e]
    · intro u hu
      obtain ⟨_, _, rfl⟩ := List.mem_map.1 hu
      rfl
    · intro v' w' ho' hg' _
      refine h v' w' ?_ (fun b e => (World.ownsRow.lt ho' b e).1) ((Below.refl _ w).grown hg' (Nat.le_refl _) (fun k e => by cases e))
      rcases ho'.2 with ⟨q, q0⟩ | ⟨g, cap, cur, q, hB, hg, q1, q2, q3, q4⟩
      · have hks : ks = [] := List.length_eq_zero_iff.1 (by omega)
        subst hks
        rw [q]
        exact ⟨none, 0, rfl, by simp, by simp, fun i hi => by simp at hi⟩
      · rw [Nat.zero_add] at q q1
        refine ⟨some ⟨g, 0, none⟩, cap, q, q1, q2, fun j hj => ⟨_, rfl, ?_⟩⟩
        exact ho'.cells (g := g) (by rw [q]; rfl) j _ (by simp [hj])
theorem RdI.chg {w w' : World} {v : Value} {ks : List Int} (h : RdI w v ks) {X : Nat → Prop} (hc : Chg X w w') (hb : ∀ b, v.ownBlock = some b → ¬ X b) : RdI w' v ks := h.keptC hc hb

set_option maxHeartbeats 2000000 in
theorem one_crash (h : Pr B d r N T w) (hN : N ≤ 1099511626000) (hx : Fit B x w) (ha : x.act = 6) :
    Calls Try.prog 12 #[.pointer (some ⟨d, 0, none⟩), .pointer (some ⟨r, 0, none⟩), .agg (svA x)] w fun e w' => e = .returned (.bool true) ∧ Chg T w w' ∧ Pr B d r (N + 1) (Tn T w w') w' := by
  have hTF : ¬ T w.heap.size := fun q => by have := (h.lt _ q).2; omega
  have hFl : w.heap.size < (w.alloc (.cells (svA x) 32)).heap.size := by simp
  have hal : Below w.heap.size w (w.alloc (.cells (svA x) 32)) := Below.al w _
  have hPb := h.below hal
  have hxb := hx.next (hal.mono h.leB)
  have z0 : (w.alloc (.cells (svA x) 32)).cell? ⟨w.heap.size, 0, none⟩ = some (.int .i64 x.act) := by rw [box_at]; rfl
  have z5 : (w.alloc (.cells (svA x) 32)).cell? ⟨w.heap.size, 5, none⟩ = some (.slice x.ak x.keep.length x.ck) := by rw [box_at]; rfl
  obtain ⟨act, num, nm, tn, data, ad, cd, keep, ak, ck⟩ := x
  obtain ⟨xrd, xri, l2, l3, ln, lk, ld, lq, kn⟩ := hxb
  simp only [] at *
  subst ha
  unfold svA at *
  simp only [] at *
  generalize hwb : w.alloc (.cells #[.int .i64 6, .int .i64 num, .string nm, .string tn, .slice ad data.length cd, .slice ak keep.length ck] 32) = wb at *
  have hF : Hid _ := And.intro h hal
  clear h hal hx
  go_enter Try.func12, Try.ntmps12
  go_wp2_with (first | (at_builtin; refine wpList_appI rfl _ _ rfl rfl ak keep ck rfl (xri wb (Below.refl _ _)) kn lq ?_; intro v1 w1 hk1 hv1 hb1) | fail)
  generalize hF0 : w.heap.size = F at *
  clear hwb
  have hBw : B ≤ wb.heap.size := hPb.leB
  have hP1 := hPb.below hb1
  have hB1 := hb1.mono hBw
  have hv1T : ∀ b, v1.ownBlock = some b → ¬ T b := fun b e q => by have := hv1 b e; have := (hPb.lt b q).2; omega
  have y5 : w1.cell? ⟨F, 5, none⟩ = some (.slice ak keep.length ck) := by rw [hb1.cell hFl]; exact z5
  refine (crash_pair hP1 hN hk1 hv1T (fun W hW => xri W (hB1.trans hW)) lk).mono ?_
  rintro e w2 ⟨⟨v2, rfl⟩, hc2, hnext⟩
  have hs1 := hb1.size
  have t5 := box_cell (i := 5) hc2 hTF (by omega) y5
  go_wp2_with fail
  refine (hnext _ (Below.refl _ _)).mono ?_
  rintro e w3 ⟨⟨v3, rfl⟩, hc3, hP3⟩
  have s5 := box_cell (i := 5) hc3 hTF (by omega) y5
  have H3 : Hid _ := hF.out.1.fin (by rw [hF0]; exact hF.out.2.trans (hb1.mono (by omega))) hc3 hP3
  have hk3 := hk1.chg hc3 hv1T
  have hB3 := hB1.trans (hP1.chg hc3)
  obtain ⟨n, own, S, L, may, left, lf, dd, hI⟩ := hP3
  go_wp2_with fail
  refine (sameInts_any hk3 (xri _ hB3)).mono ?_
  rintro e w4 ⟨rfl, q4, rfl⟩
  go_wp2_with (first | (go_at_call 13; refine (look_any (hI.below (Below.dN w3 _)) (by omega)).mono ?_; rintro e w5 ⟨rfl, hb5⟩) | fail)
  go_ret
  exact ⟨rfl, hF.out.1.after H3.out (Below.tr (Below.dN w3 q4) hb5)⟩
end
end Go.Proofs.Ytkgpgfpclcibmaa

/- one: a step of both disks, and what they answer is the same: Read. -/
namespace Go.Proofs.Ytkgpgfpclcibmaa
open Go.RowKit
set_option linter.unusedVariables false
set_option maxRecDepth 100000

section
variable {B d r N : Nat} {T : Nat → Prop} {w : World} {x : SV2}

set_option maxHeartbeats 2000000 in
theorem one_read (h : Pr B d r N T w) (hN : N ≤ 1099511626000) (hx : Fit B x w) (ha : x.act = 2) :
    Calls Try.prog 12 #[.pointer (some ⟨d, 0, none⟩), .pointer (some ⟨r, 0, none⟩), .agg (svA x)] w fun e w' => e = .returned (.bool true) ∧ Chg T w w' ∧ Pr B d r (N + 1) (Tn T w w') w' := by
  have hTF : ¬ T w.heap.size := fun q => by have := (h.lt _ q).2; omega
  have hFl : w.heap.size < (w.alloc (.cells (svA x) 32)).heap.size := by simp
  have hal : Below w.heap.size w (w.alloc (.cells (svA x) 32)) := Below.al w _
  have hPb := h.below hal
  have hxb := hx.next (hal.mono h.leB)
  have z0 : (w.alloc (.cells (svA x) 32)).cell? ⟨w.heap.size, 0, none⟩ = some (.int .i64 x.act) := by rw [box_at]; rfl
  have z2 : (w.alloc (.cells (svA x) 32)).cell? ⟨w.heap.size, 2, none⟩ = some (.string x.nm) := by rw [box_at]; rfl
  obtain ⟨act, num, nm, tn, data, ad, cd, keep, ak, ck⟩ := x
  obtain ⟨xrd, xri, l2, l3, ln, lk, ld, lq, kn⟩ := hxb
  simp only [] at *
  subst ha
  unfold svA at *
  simp only [] at *
  generalize hwb : w.alloc (.cells #[.int .i64 2, .int .i64 num, .string nm, .string tn, .slice ad data.length cd, .slice ak keep.length ck] 32) = wb at *
  have hF : Hid _ := And.intro h hal
  clear h hal hx
  go_enter Try.func12, Try.ntmps12
  go_wp2_with fail
  generalize hF0 : w.heap.size = F at *
  clear hwb
  obtain ⟨n, own, S, L, may, left, lf, dd, hI⟩ := hPb
  refine (read_pr hI nm l2).mono ?_
  rintro e w1 ⟨v1, rfl, ho1, hb1⟩
  have y2 : w1.cell? ⟨F, 2, none⟩ = some (.string nm) := by rw [hb1.cell hFl]; exact z2
  go_wp2_with fail
  refine (rread_pr (hI.below hb1) nm).mono ?_
  rintro e w2 ⟨v2, rfl, hr2, hb2⟩
  generalize (toldR L dd nm.data.toList).2 = E at *
  generalize (toldR L dd nm.data.toList).1 = l at *
  go_wp2_with fail
  refine (same_eq (ho1.below hb2 (Nat.le_refl _)).rd hr2).mono ?_
  rintro e w3 ⟨rfl, q3, rfl⟩
  go_wp2_with (first | (go_at_call 17; refine (numD_any _ _).mono ?_; rintro e w9 ⟨rfl, rfl⟩) | fail)
  go_ret
  have hb02 := Below.tr (Below.tr hb1 hb2) (Below.dN w2 q3)
  exact ⟨by simp, hF.out.1.finB (by omega) (by rw [hF0]; exact hF.out.2.trans (hb02.mono (by omega)))⟩
end
end Go.Proofs.Ytkgpgfpclcibmaa

/- one: a step of both disks, and what they answer is the same: what only looks. -/
namespace Go.Proofs.Ytkgpgfpclcibmaa
open Go.RowKit
set_option linter.unusedVariables false
set_option maxRecDepth 100000

section
variable {B d r N : Nat} {T : Nat → Prop} {w : World} {x : SV2}

set_option maxHeartbeats 2000000 in
theorem one_look (h : Pr B d r N T w) (hN : N ≤ 1099511626000) (hx : Fit B x w) (ha : ∀ k : Int, 0 ≤ k ∧ k ≤ 6 → x.act ≠ k) :
    Calls Try.prog 12 #[.pointer (some ⟨d, 0, none⟩), .pointer (some ⟨r, 0, none⟩), .agg (svA x)] w fun e w' => e = .returned (.bool true) ∧ Chg T w w' ∧ Pr B d r (N + 1) (Tn T w w') w' := by
  have hTF : ¬ T w.heap.size := fun q => by have := (h.lt _ q).2; omega
  have hFl : w.heap.size < (w.alloc (.cells (svA x) 32)).heap.size := by simp
  have hal : Below w.heap.size w (w.alloc (.cells (svA x) 32)) := Below.al w _
  have hPb := h.below hal
  have hxb := hx.next (hal.mono h.leB)
  have z0 : (w.alloc (.cells (svA x) 32)).cell? ⟨w.heap.size, 0, none⟩ = some (.int .i64 x.act) := by rw [box_at]; rfl
  obtain ⟨act, num, nm, tn, data, ad, cd, keep, ak, ck⟩ := x
  obtain ⟨xrd, xri, l2, l3, ln, lk, ld, lq, kn⟩ := hxb
  simp only [] at *
  unfold svA at *
  simp only [] at *
  generalize hwb : w.alloc (.cells #[.int .i64 act, .int .i64 num, .string nm, .string tn, .slice ad data.length cd, .slice ak keep.length ck] 32) = wb at *
  have hF : Hid _ := And.intro h hal
  clear h hal hx
  have e0 : (act == 0) = false := by rw [beq_eq_false_iff_ne]; exact ha 0 (by omega)
  have e1 : (act == 1) = false := by rw [beq_eq_false_iff_ne]; exact ha 1 (by omega)
  have e2 : (act == 2) = false := by rw [beq_eq_false_iff_ne]; exact ha 2 (by omega)
  have e3 : (act == 3) = false := by rw [beq_eq_false_iff_ne]; exact ha 3 (by omega)
  have e4 : (act == 4) = false := by rw [beq_eq_false_iff_ne]; exact ha 4 (by omega)
  have e5 : (act == 5) = false := by rw [beq_eq_false_iff_ne]; exact ha 5 (by omega)
  have e6 : (act == 6) = false := by rw [beq_eq_false_iff_ne]; exact ha 6 (by omega)
  clear ha
  go_enter Try.func12, Try.ntmps12
  go_wp2_with fail
  generalize hF0 : w.heap.size = F at *
  clear hwb
  obtain ⟨n, own, S, L, may, left, lf, dd, hI⟩ := hPb
  refine (look_any hI (by omega)).mono ?_
  rintro e w3 ⟨rfl, hb3⟩
  go_wp2_with fail
  go_ret
  exact ⟨rfl, hF.out.1.finB (by omega) (by rw [hF0]; exact hF.out.2.trans (hb3.mono (by omega)))⟩
end
end Go.Proofs.Ytkgpgfpclcibmaa

/- one: a step of both disks, and what they answer is the same: Rename. -/
namespace Go.Proofs.Ytkgpgfpclcibmaa
open Go.RowKit
set_option linter.unusedVariables false
set_option maxRecDepth 100000

section
variable {B d r N : Nat} {T : Nat → Prop} {w : World} {x : SV2}

set_option maxHeartbeats 2000000 in
theorem one_rename (h : Pr B d r N T w) (hN : N ≤ 1099511626000) (hx : Fit B x w) (ha : x.act = 4) :
    Calls Try.prog 12 #[.pointer (some ⟨d, 0, none⟩), .pointer (some ⟨r, 0, none⟩), .agg (svA x)] w fun e w' => e = .returned (.bool true) ∧ Chg T w w' ∧ Pr B d r (N + 1) (Tn T w w') w' := by
  have hTF : ¬ T w.heap.size := fun q => by have := (h.lt _ q).2; omega
  have hFl : w.heap.size < (w.alloc (.cells (svA x) 32)).heap.size := by simp
  have hal : Below w.heap.size w (w.alloc (.cells (svA x) 32)) := Below.al w _
  have hPb := h.below hal
  have z0 : (w.alloc (.cells (svA x) 32)).cell? ⟨w.heap.size, 0, none⟩ = some (.int .i64 x.act) := by rw [box_at]; rfl
  have z2 : (w.alloc (.cells (svA x) 32)).cell? ⟨w.heap.size, 2, none⟩ = some (.string x.nm) := by rw [box_at]; rfl
  have z3 : (w.alloc (.cells (svA x) 32)).cell? ⟨w.heap.size, 3, none⟩ = some (.string x.to) := by rw [box_at]; rfl
  obtain ⟨act, num, nm, tn, data, ad, cd, keep, ak, ck⟩ := x
  obtain ⟨_, _, l2, l3, _, _, _, _, _⟩ := hx
  simp only [] at *
  subst ha
  unfold svA at *
  simp only [] at *
  generalize hwb : w.alloc (.cells #[.int .i64 4, .int .i64 num, .string nm, .string tn, .slice ad data.length cd, .slice ak keep.length ck] 32) = wb at *
  have hF : Hid _ := And.intro h hal
  clear h hal
  go_enter Try.func12, Try.ntmps12
  go_wp2_with fail
  generalize hF0 : w.heap.size = F at *
  clear hwb
  go_region_held3 (fun w' => w'.cell? ⟨F, 2, none⟩ = some (.string nm) ∧ w'.cell? ⟨F, 3, none⟩ = some (.string tn)) (go_keep) (first
    | (go_at_call 43; refine (rename_pair (hPb.below (Below.dN wb _)) hN nm tn l2 l3).mono ?_; rintro e w1 ⟨e1, rfl, hc1, hnext⟩; replace hc1 := (Chg.dNo T wb _).trans (hc1.mono (fun b _ q => .inl q)); have y2 := box_cell (i := 2) hc1 hTF hFl z2; have y3 := box_cell (i := 3) hc1 hTF hFl z3)
    | (go_at_call 17; refine (numD_any _ _).mono ?_; rintro e w9 ⟨rfl, rfl⟩)
    | (go_at_call 44; refine (hnext _ (Below.refl _ _)).mono ?_; rintro e w2 ⟨rfl, hc2, hP2⟩; have hc20 := (Chg.dNo T wb _).trans (hc2.mono (fun b _ q => .inl q)); have v2 := box_cell (i := 2) hc20 hTF hFl z2; have v3 := box_cell (i := 3) hc20 hTF hFl z3)
    | fail)
  go_wp2_with fail
  go_ret
  exact ⟨by simp, hF.out.1.fin (by rw [hF0]; exact Below.drN hF.out.2 _) hc2 hP2⟩
end
end Go.Proofs.Ytkgpgfpclcibmaa

/- one: a step of both disks, and what they answer is the same: Remove. -/
namespace Go.Proofs.Ytkgpgfpclcibmaa
open Go.RowKit
set_option linter.unusedVariables false
set_option maxRecDepth 100000

section
variable {B d r N : Nat} {T : Nat → Prop} {w : World} {x : SV2}

set_option maxHeartbeats 2000000 in
theorem one_remove (h : Pr B d r N T w) (hN : N ≤ 1099511626000) (hx : Fit B x w) (ha : x.act = 3) :
    Calls Try.prog 12 #[.pointer (some ⟨d, 0, none⟩), .pointer (some ⟨r, 0, none⟩), .agg (svA x)] w fun e w' => e = .returned (.bool true) ∧ Chg T w w' ∧ Pr B d r (N + 1) (Tn T w w') w' := by
  have hTF : ¬ T w.heap.size := fun q => by have := (h.lt _ q).2; omega
  have hFl : w.heap.size < (w.alloc (.cells (svA x) 32)).heap.size := by simp
  have hal : Below w.heap.size w (w.alloc (.cells (svA x) 32)) := Below.al w _
  have hPb := h.below hal
  have z0 : (w.alloc (.cells (svA x) 32)).cell? ⟨w.heap.size, 0, none⟩ = some (.int .i64 x.act) := by rw [box_at]; rfl
  have z2 : (w.alloc (.cells (svA x) 32)).cell? ⟨w.heap.size, 2, none⟩ = some (.string x.nm) := by rw [box_at]; rfl
  obtain ⟨act, num, nm, tn, data, ad, cd, keep, ak, ck⟩ := x
  obtain ⟨_, _, l2, l3, _, _, _, _, _⟩ := hx
  simp only [] at *
  subst ha
  unfold svA at *
  simp only [] at *
  generalize hwb : w.alloc (.cells #[.int .i64 3, .int .i64 num, .string nm, .string tn, .slice ad data.length cd, .slice ak keep.length ck] 32) = wb at *
  have hF : Hid _ := And.intro h hal
  clear h hal
  go_enter Try.func12, Try.ntmps12
  go_wp2_with fail
  generalize hF0 : w.heap.size = F at *
  clear hwb
  go_region_held3 (fun w' => w'.cell? ⟨F, 2, none⟩ = some (.string nm)) (go_keep) (first
    | (go_at_call 41; refine (remove_pair (hPb.below (Below.dN wb _)) (by omega) nm l2).mono ?_; rintro e w1 ⟨e1, rfl, hc1, hnext⟩; replace hc1 := (Chg.dNo T wb _).trans (hc1.mono (fun b _ q => .inl q)); have y2 := box_cell (i := 2) hc1 hTF hFl z2)
    | (go_at_call 17; refine (numD_any _ _).mono ?_; rintro e w9 ⟨rfl, rfl⟩)
    | (go_at_call 42; refine (hnext _ (Below.refl _ _)).mono ?_; rintro e w2 ⟨rfl, hc2, hP2⟩; have hc20 := (Chg.dNo T wb _).trans (hc2.mono (fun b _ q => .inl q)); have v2 := box_cell (i := 2) hc20 hTF hFl z2)
    | fail)
  go_wp2_with fail
  go_ret
  exact ⟨by simp, hF.out.1.fin (by rw [hF0]; exact Below.drN hF.out.2 _) hc2 hP2⟩
end
end Go.Proofs.Ytkgpgfpclcibmaa

/- one: a step of both disks, and what they answer is the same: Sync. -/
namespace Go.Proofs.Ytkgpgfpclcibmaa
open Go.RowKit
set_option linter.unusedVariables false
set_option maxRecDepth 100000

section
variable {B d r N : Nat} {T : Nat → Prop} {w : World} {x : SV2}

set_option maxHeartbeats 2000000 in
theorem one_sync (h : Pr B d r N T w) (hN : N ≤ 1099511626000) (hx : Fit B x w) (ha : x.act = 1) :
    Calls Try.prog 12 #[.pointer (some ⟨d, 0, none⟩), .pointer (some ⟨r, 0, none⟩), .agg (svA x)] w fun e w' => e = .returned (.bool true) ∧ Chg T w w' ∧ Pr B d r (N + 1) (Tn T w w') w' := by
  have hTF : ¬ T w.heap.size := fun q => by have := (h.lt _ q).2; omega
  have hFl : w.heap.size < (w.alloc (.cells (svA x) 32)).heap.size := by simp
  have hal : Below w.heap.size w (w.alloc (.cells (svA x) 32)) := Below.al w _
  have hPb := h.below hal
  have z0 : (w.alloc (.cells (svA x) 32)).cell? ⟨w.heap.size, 0, none⟩ = some (.int .i64 x.act) := by rw [box_at]; rfl
  have z2 : (w.alloc (.cells (svA x) 32)).cell? ⟨w.heap.size, 2, none⟩ = some (.string x.nm) := by rw [box_at]; rfl
  obtain ⟨act, num, nm, tn, data, ad, cd, keep, ak, ck⟩ := x
  obtain ⟨_, _, l2, l3, _, _, _, _, _⟩ := hx
  simp only [] at *
  subst ha
  unfold svA at *
  simp only [] at *
  generalize hwb : w.alloc (.cells #[.int .i64 1, .int .i64 num, .string nm, .string tn, .slice ad data.length cd, .slice ak keep.length ck] 32) = wb at *
  have hF : Hid _ := And.intro h hal
  clear h hal
  go_enter Try.func12, Try.ntmps12
  go_wp2_with fail
  generalize hF0 : w.heap.size = F at *
  clear hwb
  go_region_held3 (fun w' => w'.cell? ⟨F, 2, none⟩ = some (.string nm)) (go_keep) (first
    | (go_at_call 32; refine (sync_pair (hPb.below (Below.dN wb _)) nm l2).mono ?_; rintro e w1 ⟨e1, rfl, hc1, hnext⟩; replace hc1 := (Chg.dNo T wb _).trans (hc1.mono (fun b _ q => .inl q)); have y2 := box_cell (i := 2) hc1 hTF hFl z2)
    | (go_at_call 17; refine (numD_any _ _).mono ?_; rintro e w9 ⟨rfl, rfl⟩)
    | (go_at_call 39; refine (hnext _ (Below.refl _ _)).mono ?_; rintro e w2 ⟨rfl, hc2, hP2⟩; have hc20 := (Chg.dNo T wb _).trans (hc2.mono (fun b _ q => .inl q)); have v2 := box_cell (i := 2) hc20 hTF hFl z2)
    | fail)
  go_wp2_with fail
  go_ret
  exact ⟨by simp, hF.out.1.fin (by rw [hF0]; exact Below.drN hF.out.2 _) hc2 hP2⟩
end
end Go.Proofs.Ytkgpgfpclcibmaa
