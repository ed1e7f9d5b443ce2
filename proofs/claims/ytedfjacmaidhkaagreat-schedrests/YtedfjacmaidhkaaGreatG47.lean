/- Steps itself. -/
import Derived.Test.YtedfjacmaidhkaaGreatG46
import Derived.Test.YtedfjacmaidhkaaGreatG5
namespace Go.Proofs.YtedfjacmaidhkaaGreat
open Go.RowKit Go.Maps
set_option linter.unusedVariables false
set_option linter.unusedSimpArgs false
set_option maxRecDepth 100000

/-- Its first number. -/
def StpA (w : World) (m : Int) (e : Ending) (w' : World) : Prop := ∃ g, e = .returned (.slice (some ⟨g, 0, none⟩) 2 2) ∧ w'.cell? ⟨g, 0, none⟩ = some (.int .i64 m) ∧ w.heap.size ≤ g ∧ Below w.heap.size w w'
set_option maxHeartbeats 8000000 in
theorem steps_any (o : Or) {id cf vr : Int} {sv0 ev0 : Value} {pa : Option Addr} {pc : Nat} {ps : List Pe} {w : World} (hp : RdPe w (.slice pa ps.length pc) ps) (hl : ps.length ≤ 1000) (hs1 : sv0.oneCell' = true) (he1 : ev0.oneCell' = true) (hk : o.kind = 1 ∨ o.kind = 2 ∨ (o.kind = 3 ∧ o.store ≠ 0 ∧ o.peer ≠ 0 ∧ ps.any (namF o.store o.peer) = true)) :
    Calls Tryz.prog 14 #[.agg #[.int .i64 o.kind, .int .u64 (o.reg : Int), .int .i64 o.store, .int .u64 (o.peer : Int), .int .u64 (o.other : Int)], .agg #[.int .u64 id, sv0, ev0, .int .u64 cf, .int .u64 vr, .slice pa ps.length pc]] w fun e w' => StpA w (if o.kind = 1 then (ps.length : Int) + 1 else if o.kind = 2 then (ps.length : Int) else (ps.length : Int) - 1) e w' := by
  obtain ⟨hk2, hk3, hb0⟩ := two_bx w (.cells #[.int .i64 o.kind, .int .u64 (o.reg : Int), .int .i64 o.store, .int .u64 (o.peer : Int), .int .u64 (o.other : Int)] 32) (.cells #[.int .u64 id, sv0, ev0, .int .u64 cf, .int .u64 vr, .slice pa ps.length pc] 40)
  have hmf : ∀ (fn : Fn) (first cap : Array Value) (w : World), (Instr.makeFunc fn first cap).run Tryz.prog w = .ok (.func fn first cap) w := fun _ _ _ _ => rfl
  have HP : Hid (∀ W, Below w.heap.size w W → RdPe W (.slice pa ps.length pc) ps) := fun W hW => hp.below hW (Nat.le_refl _)
  clear hp
  generalize hm : (if o.kind = 1 then (ps.length : Int) + 1 else if o.kind = 2 then (ps.length : Int) else (ps.length : Int) - 1) = m
  have HM : Hid _ := hm
  clear hm
  go_enter Tryz.func14, Tryz.ntmps14
  go_upto_region 1 with fail
  generalize World.alloc (World.alloc w _) _ = w0 at *
  have HR5 : Hid (∀ W, Below w0.heap.size w0 W → W.cell? ⟨w.heap.size + 1, 5, none⟩ = some (.slice pa ps.length pc)) := fun W hW => (cells6 (keep_blk hk3 hW)).2.2.2.2.2.1
  have HO : Hid (∀ W, Below w0.heap.size w0 W → W.heap[w.heap.size]? = some (.cells #[.int .i64 o.kind, .int .u64 (o.reg : Int), .int .i64 o.store, .int .u64 (o.peer : Int), .int .u64 (o.other : Int)] 32 (0, 0))) := fun W hW => keep_blk hk2 hW
  have HB0 : Hid (Below w.heap.size w w0) := hb0
  have hs0 : w.heap.size ≤ w0.heap.size := hb0.size
  clear hk2 hk3 hb0
  generalize hbo : w.heap.size = bo at *
  refine wp_region_heldN (S := fun W => Below w0.heap.size w0 W) (L := []) (by kernel_rfl) ?_
  have hS0 : Below w0.heap.size w0 w0.drew := (Below.refl _ _).drew
  generalize w0.drew = wd at *
  refine wpAnyN_take (i := 0) (v := .pointer (some ⟨bo + 1, 5, none⟩)) rfl (by kernel_rfl) (by kernel_rfl) (by kernel_rfl) (by kernel_rfl) (fun _ _ _ h => h) (.inl ⟨by kernel_rfl, fun W hW => by kernel_rfl⟩) hS0 ?_
  refine wpAnyN_take (i := 1) (v := .slice pa ps.length pc) rfl (by kernel_rfl) (by kernel_rfl) (by kernel_rfl) (by kernel_rfl) (fun _ _ _ h => h) (.inl ⟨by kernel_rfl, fun W hW => by have c := HR5.out W hW; go_simp⟩) hS0 ?_
  refine wpAnyN_take (i := 2) (v := .int .i64 (ps.length : Int)) rfl (by kernel_rfl) (by kernel_rfl) (by kernel_rfl) (by kernel_rfl) (fun _ _ _ h => h) (.inl ⟨by kernel_rfl, fun W hW => by go_simp⟩) hS0 ?_
  refine wpAnyN_take (i := 3) (v := .pointer (some ⟨bo + 1, 5, none⟩)) rfl (by kernel_rfl) (by kernel_rfl) (by kernel_rfl) (by kernel_rfl) (fun _ _ _ h => h) (.inl ⟨by kernel_rfl, fun W hW => by kernel_rfl⟩) hS0 ?_
  refine wpAnyN_take (i := 4) (v := .slice pa ps.length pc) rfl (by kernel_rfl) (by kernel_rfl) (by kernel_rfl) (by kernel_rfl) (fun _ _ _ h => h) (.inl ⟨by kernel_rfl, fun W hW => by have c := HR5.out W hW; go_simp⟩) hS0 ?_
  refine wpAnyN_one (i := 5) (by kernel_rfl) rfl (fun K hK => ?_)
  rw [if_pos (by kernel_rfl)]
  go_simp
  have hal := ob_al wd (.cells #[.func (.func 26) #[] #[]] 78)
  have hS1 := hS0.trans (hal.mono hS0.size)
  have hon := only_any (HP.out _ (HB0.out.trans (hS1.mono hs0))) (rdis_1 (heap_new wd (.cells #[.func (.func 26) #[] #[]] 78)) (is_votes _)) (by omega)
  refine hK _ _ (fun _ => hS1) ?_
  clear hK K
  refine wpAnyN_one (i := 6) (by kernel_rfl) rfl (fun K hK => ?_)
  rw [if_pos (by kernel_rfl)]
  go_simp
  refine hon.mono ?_
  rintro e w1 ⟨v1, rfl, ho1, hb1⟩
  obtain ⟨a1, d1, rfl, -⟩ := ho1.rd.shape
  have hS2 := hS1.trans (hb1.mono hS1.size)
  generalize (onlyF ps [fun q => !q.2.2]).length = nv at *
  refine hK _ _ (fun _ => hS2) ?_
  clear hK K hon ho1
  refine wpAnyN_take (i := 7) (v := .int .i64 (nv : Int)) rfl (by kernel_rfl) (by kernel_rfl) (by kernel_rfl) (by kernel_rfl) (fun _ _ _ h => h) (.inl ⟨by kernel_rfl, fun W hW => by go_simp⟩) hS2 ?_
  refine wpAnyN_take (i := 8) (v := .int .i64 (ps.length : Int)) rfl (by kernel_rfl) (by kernel_rfl) (by kernel_rfl) (by kernel_rfl) (fun _ _ _ h => h) (.inl ⟨by kernel_rfl, fun W hW => by go_simp⟩) hS2 ?_
  refine wpAnyN_take (i := 9) (v := .int .i64 (nv : Int)) rfl (by kernel_rfl) (by kernel_rfl) (by kernel_rfl) (by kernel_rfl) (fun _ _ _ h => h) (.inl ⟨by kernel_rfl, fun W hW => by go_simp⟩) hS2 ?_
  refine ⟨by kernel_rfl, ?_⟩
  go_simp
  have HBE : Hid (Below bo w w1) := HB0.out.trans (hS2.mono hs0)
  have hob := HO.out w1 hS2
  have HR6 : Hid (w1.cell? ⟨bo + 1, 5, none⟩ = some (.slice pa ps.length pc)) := HR5.out w1 hS2
  have HP1 : Hid (RdPe w1 (.slice pa ps.length pc) ps) := HP.out _ HBE.out
  have HOB : Hid _ := hob
  obtain ⟨y0, y1, y2, y3, y4, _⟩ := cells5 hob
  clear hob HO HR5 HP hal hb1
  have fin : ∀ (W : World) (m nv' : Int), Below bo w W → StpA w m (.returned (.slice (some ⟨W.heap.size, 0, none⟩) 2 2)) (W.alloc (.cells #[.int .i64 m, .int .i64 nv'] 3)) := fun W m nv' hW => by
    have hk := heap_new W (.cells #[.int .i64 m, .int .i64 nv'] 3)
    refine ⟨_, rfl, by rw [cell_of_row _ _ _ _ _ _ hk]; rfl, hW.size, ?_⟩
    rw [hbo]
    exact hW.trans ((ob_al W _).mono (by have := hW.size; omega))
  have FIN : Hid _ := fin
  clear fin
  rcases hk with hk | hk | ⟨hk, q1, q2, q3⟩
  · have em : m = (ps.length : Int) + 1 := by rw [← HM.out, if_pos hk]
    obtain ⟨k, rg, st, pee, oth⟩ := o
    simp only [] at hk y0 y1 y2 y3 y4 ⊢
    subst hk
    subst em
    go_wp2_with fail
    go_ret
    exact FIN.out _ _ _ HBE.out
  · have em : m = (ps.length : Int) := by rw [← HM.out, if_neg (by rw [hk]; decide), if_pos hk]
    obtain ⟨k, rg, st, pee, oth⟩ := o
    simp only [] at hk y0 y1 y2 y3 y4 ⊢
    subst hk
    subst em
    go_wp2_with fail
    go_ret
    exact FIN.out _ _ _ HBE.out
  · have em : m = (ps.length : Int) - 1 := by rw [← HM.out, if_neg (by rw [hk]; decide), if_neg (by rw [hk]; decide)]
    obtain ⟨k, rg, st, pee, oth⟩ := o
    simp only [] at hk y0 y1 y2 y3 y4 q1 q2 q3 ⊢
    subst hk
    subst em
    have hix := ixSt_any 3 st rg pee oth q1 q2 HP1.out HOB.out q3
    have z5 := HR6.out
    go_wp2_with fail
    refine hix.mono ?_
    rintro e w2 ⟨r, rfl, hr, hb2⟩
    have HBE2 : Hid (Below bo w w2) := HBE.out.trans (hb2.mono (by have := HBE.out.size; omega))
    have z6 : w2.cell? ⟨bo + 1, 5, none⟩ = some (.slice pa ps.length pc) := by
      rw [hb2.cell (by have := World.block_lt_of_cell? w1 _ HR6.out; exact this)]
      exact HR6.out
    obtain ⟨ao', c', e, _, _, _, h4⟩ := HP1.out.below hb2 (Nat.le_refl _)
    simp only [Value.slice.injEq, true_and] at e
    obtain ⟨rfl, rfl⟩ := e
    obtain ⟨a, rfl, hc⟩ := h4 r _ (List.getElem?_eq_getElem hr)
    clear h4
    obtain ⟨c0, c1, c2⟩ := hc
    generalize ps[r] = pe at *
    obtain ⟨p0, p1, p2⟩ := pe
    simp only [] at c0 c1 c2
    have hvt := fun W => votes_any (p0 := p0) (p1 := p1) (p2 := p2) W
    have hr0 : (r : Int) < (ps.length : Int) := by omega
    clear hix z5 y0 y1 y2 y3 y4 hb2
    cases p2 with
    | false =>
      go_wp2_with fail
      refine (hvt _).mono ?_
      rintro e w3 ⟨rfl, hb3⟩
      have HBE3 : Hid (Below bo w w3) := HBE2.out.trans (hb3.mono (by have := HBE2.out.size; omega))
      clear hvt c0 c1 c2 z6
      go_wp2_with fail
      go_ret
      exact FIN.out _ _ _ HBE3.out
    | true =>
      go_wp2_with fail
      refine (hvt _).mono ?_
      rintro e w3 ⟨rfl, hb3⟩
      have HBE3 : Hid (Below bo w w3) := HBE2.out.trans (hb3.mono (by have := HBE2.out.size; omega))
      clear hvt c0 c1 c2 z6
      go_wp2_with fail
      go_ret
      exact FIN.out _ _ _ HBE3.out
end Go.Proofs.YtedfjacmaidhkaaGreat
