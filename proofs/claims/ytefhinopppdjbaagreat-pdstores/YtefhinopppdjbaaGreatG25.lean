/- release, register. -/
import Derived.Test.YtefhinopppdjbaaGreatG24
import Derived.Deep.RegionHeld3
namespace Go.Proofs.YtefhinopppdjbaaGreat
open Go.RowKit
set_option linter.unusedVariables false
set_option linter.unusedSimpArgs false
set_option maxRecDepth 100000

/-- No timestamp twice. -/
def Ndp (H : List EN) : Prop := (H.map (·.1)).Nodup
def outE (T : UInt64) (H : List EN) : List EN := H.filter (fun e => decide (e.1 ≠ T))
theorem out_none {T : UInt64} {H : List EN} (h : ∀ x ∈ H, x.1 ≠ T) : outE T H = H := List.filter_eq_self.2 (fun x hx => by simpa using h x hx)
theorem out_erase {T : UInt64} {H : List EN} (hn : Ndp H) {i : Nat} {x : EN} (hi : H[i]? = some x) (hx : x.1 = T) : H.eraseIdx i = outE T H := by
  induction H generalizing i with
  | nil => simp at hi
  | cons a t ih =>
    unfold Ndp at hn
    simp only [List.map_cons, List.nodup_cons] at hn
    cases i with
    | zero =>
      simp at hi
      subst hi
      simp only [List.eraseIdx_cons_zero, outE]
      rw [List.filter_cons_of_neg (by simp [hx])]
      refine (List.filter_eq_self.2 (fun y hy => ?_)).symm
      simp only [ne_eq, decide_not, Bool.not_eq_true', decide_eq_false_iff_not]
      intro q
      exact hn.1 (by rw [hx, ← q]; exact List.mem_map_of_mem hy)
    | succ i =>
      simp only [List.getElem?_cons_succ] at hi
      have := ih hn.2 hi
      simp only [List.eraseIdx_cons_succ, outE]
      rw [List.filter_cons_of_pos, this]
      · rfl
      · simp only [ne_eq, decide_not, Bool.not_eq_true', decide_eq_false_iff_not]
        intro q
        refine hn.1 ?_
        rw [q, ← hx]
        exact List.mem_map_of_mem (List.mem_of_getElem? hi)
def mxU (a b : UInt64) : UInt64 := if a.toNat < b.toNat then b else a
theorem mxU_nat (a b : UInt64) : max (a.toNat : Int) (b.toNat : Int) = ((mxU a b).toNat : Int) := by
  unfold mxU; split <;> omega
theorem e2s_set1 (H : List EN) (i : Nat) (e : EN) (u : UInt64) (h : H[i]? = some e) : (e2s H).set (i * 2 + 1) (.int .u64 (u.toNat : Int)) = e2s (H.set i (e.1, u)) := by
  rw [← e2s_set]
  congr 1
  obtain ⟨h0, _⟩ := e2s_at H i e h
  apply List.ext_getElem?
  intro k
  rw [List.getElem?_set]
  split
  · rename_i q
    subst q
    rw [h0, if_pos (List.getElem?_eq_some_iff.1 h0).1]
  · rfl
section
variable {B p : Nat} {d : DC} {w w' : World} {H : List EN}
theorem Rg.set1 {g n c : Nat} (h : Rg B p d w H) (hd : d.ev = (some ⟨g, 0, none⟩, n, c)) {k : Nat} {e : EN} (he : H[k]? = some e) (u : UInt64) : Rg B p d (w.setCell ⟨g, k * 2 + 1, none⟩ (.int .u64 (u.toNat : Int))) (H.set k (e.1, u)) ∧ Chg (RgS p d) w (w.setCell ⟨g, k * 2 + 1, none⟩ (.int .u64 (u.toNat : Int))) := by
  have hv : (sv d.ev).ownBlock = some g := by rw [hd]; rfl
  have hgp : g ≠ p := fun q => h.ne (by rw [← q]; exact hv)
  have hch : Chg (fun b => b = g) w (w.setCell ⟨g, k * 2 + 1, none⟩ (.int .u64 (u.toNat : Int))) := (Chg.refl (fun b => b = g) w).put g _ _ rfl
  refine ⟨⟨h.drv.next hch (fun q => hgp q.symm), ?_, h.lo⟩, hch.mono (fun b _ q => .inr (by rw [hv]; exact congrArg some (Eq.symm q)))⟩
  rw [List.length_set, ← e2s_set1 H k e u he]
  exact row_put h.row hv _ _
theorem Rg.ner (h : Rg B p d w H) {c : PC} {x r : Nat} (hb : Bxd c x r w) {b : Nat} (q : (sv d.ev).ownBlock = some b) : b ≠ r ∧ b ≠ x := by
  obtain ⟨_, cs, fr, e⟩ := row_blk h.row q
  constructor
  · rintro rfl
    rw [hb.res] at e
    have := Option.some.inj e
    simp only [Obj.cells.injEq] at this
    exact absurd this.2.1 (by decide)
  · rintro rfl
    rw [hb.box] at e
    have := Option.some.inj e
    simp only [Obj.cells.injEq] at this
    exact absurd this.2.1 (by decide)
/-- A turn behind a command's beginning, to the command's end. -/
theorem Tu.fin {W w1 wz : World} {x : Option Addr × Nat × Nat} {H' : List EN} {c : PC} {xx : Nat} (hB0 : Below w.heap.size w W) (hT : Tu B p d W w1 x H') (hb : Bxd c xx (w.heap.size + 1) w1) (hp : p < w.heap.size) (hc : Chg (fun b => b = w.heap.size + 1) w1 wz) : Tu B p d w wz x H' := by
  refine ⟨hT.rg.kept hc (by show ¬ p = _; omega) (fun b q1 q2 => (hT.rg.ner hb q1).1 q2), hT.hp, fin_chg hB0 hT.ch hc, ?_⟩
  rcases hT.bl with q | ⟨b, q1, q2⟩
  · exact .inl q
  · exact .inr ⟨b, q1, Nat.le_trans hB0.size q2⟩
theorem Bxd.tu {W w1 : World} {x : Option Addr × Nat × Nat} {H' : List EN} {c : PC} {xx r : Nat} (h : Rg B p d W H) (hb : Bxd c xx r W) (hT : Tu B p d W w1 x H') : Bxd c xx r w1 := hb.ik (h.ik hT.ch)
theorem Tu.ofBelow {w1 : World} (h : Rg B p d w H) (hH : M.Hp elt H H.length) (hb : Below w.heap.size w w1) : Tu B p d w w1 d.ev H := ⟨h.below hb (Nat.le_refl _), hH, chg_bl hb, .inl rfl⟩
theorem Tu.after {w1 w2 : World} {x : Option Addr × Nat × Nat} {H' : List EN} (hb : Below w.heap.size w w1) (hT : Tu B p d w1 w2 x H') : Tu B p d w w2 x H' := by
  refine ⟨hT.rg, hT.hp, (chg_bl hb).trans (hT.ch.mono (fun b _ q => .inl q)), ?_⟩
  rcases hT.bl with q | ⟨b, q1, q2⟩
  · exact .inl q
  · exact .inr ⟨b, q1, Nat.le_trans hb.size q2⟩
set_option maxHeartbeats 2000000 in
theorem release_any (c : PC) (T : UInt64) (hT : c.ts = T.toNat) (h : Rg B p d w H) (hH : M.Hp elt H H.length) (hN : Ndp H) (hl : H.length ≤ 1099511627776) :
    Calls Tryz.prog 23 #[.pointer (some ⟨p, 0, none⟩), .agg (pcA c)] w fun e w' => e = .returned (prA 0 0 0) ∧ ∃ x H', Tu B p d w w' x H' ∧ H'.Perm (outE T H) := by
  have hbx := Bxd.new c w
  have hB0 := (two_new w (.cells (pcA c) 38) (.cells #[.int .i64 0, .int .u64 0, .int .i64 0] 29)).2.2
  have hpx := h.drv.lt
  have hr := h.below hB0 (Nat.le_refl _)
  go_enter Tryz.func23, Tryz.ntmps23
  go_upto_region 1 with fail
  generalize World.alloc (World.alloc w _) _ = W at *
  have c2 : W.cell? ⟨w.heap.size, 2, none⟩ = some (.int .u64 (T.toNat : Int)) := by rw [← hT]; exact hbx.at_ rfl
  have p6 : W.cell? ⟨p, 6, none⟩ = some (.slice d.ev.1 d.ev.2.1 d.ev.2.2) := hr.drv.at_ rfl
  have hfd := find_any (hr.drewN 1) hl T
  unfold sv at hfd
  go_wp2_with fail
  go_region_held3 (fun w' => w'.cell? ⟨w.heap.size, 2, none⟩ = some (.int .u64 (T.toNat : Int)) ∧ w'.cell? ⟨p, 6, none⟩ = some (.slice d.ev.1 d.ev.2.1 d.ev.2.2)) (go_keep) (first
    | (go_at_call 44; refine hfd.mono ?_; rintro e w1 ⟨iv, rfl, hf, hb1⟩; have hb1' : Below W.heap.size W w1 := (Below.dN W 1).trans (hb1.mono (Nat.le_refl _)); have k2 : w1.cell? ⟨w.heap.size, 2, none⟩ = some (.int .u64 (T.toNat : Int)) := (by rw [hb1'.cell (World.block_lt_of_cell? W _ c2)]; exact c2); have k6 : w1.cell? ⟨p, 6, none⟩ = some (.slice d.ev.1 d.ev.2.1 d.ev.2.2) := (by rw [hb1'.cell (World.block_lt_of_cell? W _ p6)]; exact p6))
    | fail)
  have hr1 := hr.below hb1' (Nat.le_refl _)
  have hbx1 := hbx.ik (hr.ik (chg_bl hb1'))
  rcases hf with ⟨i, x, rfl, hi, hx⟩ | ⟨rfl, hno⟩
  · have hil : i < H.length := (List.getElem?_eq_some_iff.1 hi).1
    have hrm := hremove_any hr1 hH hil hl
    have HPM : Hid (H.eraseIdx i = outE T H) := out_erase hN hi hx
    have hi0 : (0 : Int) ≤ (i : Int) := by omega
    clear hi hx hfd
    go_wp2_with fail
    refine hrm.mono ?_
    rintro e w2 ⟨⟨u, rfl⟩, x2, H2, hT2, hp2⟩
    have hbx2 := Bxd.tu hr1 hbx1 hT2
    obtain ⟨r0, r1, r2, f5, f6, f7⟩ := hbx2.rs
    rw [HPM.out] at hp2
    have HP2 : Hid _ := hp2
    clear hp2 hrm
    go_wp2_with fail
    obtain ⟨⟨k0, k1, k2⟩, hc⟩ := pr_fin hbx2.res (.int .i64 0) (.int .u64 0) (.int .i64 0)
    have hTz := Tu.fin hB0 (Tu.after hb1' hT2) hbx2 hpx hc
    clear hc
    generalize World.setCell _ ⟨_, 2, none⟩ _ = wz at *
    refine bodyPost_ret (v := prA 0 0 0) (by simp [results, Tryz.results23, go_sem, k0, k1, k2]; try rfl) rfl ?_
    exact ⟨rfl, x2, H2, hTz, HP2.out⟩
  · obtain ⟨r0, r1, r2, f5, f6, f7⟩ := hbx1.rs
    have HPM : Hid (outE T H = H) := out_none hno
    clear hno hfd
    go_wp2_with fail
    obtain ⟨⟨k0, k1, k2⟩, hc⟩ := pr_fin hbx1.res (.int .i64 0) (.int .u64 0) (.int .i64 0)
    have hTz := Tu.fin hB0 (Tu.ofBelow hr hH hb1') hbx1 hpx hc
    clear hc
    generalize World.setCell _ ⟨_, 2, none⟩ _ = wz at *
    refine bodyPost_ret (v := prA 0 0 0) (by simp [results, Tryz.results23, go_sem, k0, k1, k2]; try rfl) rfl ?_
    exact ⟨rfl, d.ev, H, hTz, by rw [HPM.out]⟩
end
end Go.Proofs.YtefhinopppdjbaaGreat
