/- Wait: an edge more, or the way that would be closed to a circle. -/
import Derived.Test.YtipnghaphfgalaaG28
import Derived.Test.YtipnghaphfgalaaG29
import Derived.Test.YtipnghaphfgalaaG34
namespace Go.Proofs.Ytipnghaphfgalaa
open Go.RowKit
set_option linter.unusedVariables false
set_option maxRecDepth 100000

section
variable {B : Nat} {v : Value} {E : List Ed} {w : World}
theorem insert_any (h : OwE B w v E) (hl : E.length ≤ 4096) (hB : B ≤ w.heap.size) {i : Nat} (hi : i ≤ E.length) (p : Nat) (e : Ed) (hp : EdAt w ⟨p, 0, none⟩ e) (hpv : v.ownBlock ≠ some p) (hps : w.shape? p = some (31, 2)) (hpf : ∀ j, w.frozen? ⟨p, j, none⟩ = false) :
    Calls Try.prog 21 #[v, .int .i64 (i : Int), .slice (some ⟨p, 0, none⟩) 1 1] w (InsP B w v E i e) := by
  rcases Nat.lt_or_ge i E.length with q | q
  · rcases h.blk with ⟨_, rfl⟩ | ⟨g, c, rfl, k1, k2, _⟩
    · simp at q
    · by_cases hr : E.length + 1 ≤ c
      · exact insert_room h hl q hr p e hp (fun q2 => hpv (by rw [q2]; rfl)) hps hpf
      · exact insert_grow h hl q (by omega) p e hp hB
  · obtain rfl : i = E.length := by omega
    exact insert_end h hl hB p e hp
end

/-- What a graph's edges are behind Wait(a, b): nothing changes, or one more. -/
def wtE (E : List Ed) (a b : UInt64) (ro : Option (List UInt64)) : List Ed := match ro with
  | some _ => E
  | none => if W.is E (a, b) then E else if 4096 ≤ E.length then E else W.ins E (a, b)
def wtN (E : List Ed) (a b : UInt64) (ro : Option (List UInt64)) : Int := match ro with
  | some _ => 120
  | none => if W.is E (a, b) then 0 else if 4096 ≤ E.length then 2 else 0
/-- The graph's own blocks. -/
def GS (x : Nat) (v : Value) (b : Nat) : Prop := b = x ∨ v.ownBlock = some b
def WaitP (B x : Nat) (v : Value) (E : List Ed) (a b : UInt64) (w : World) (r : Ending) (w' : World) : Prop :=
  ∃ vr v' ro, r = .returned (.tuple #[vr, .int .i64 (wtN E a b ro)]) ∧ W.Bfs E a [[b]] [b] ro ∧ Ou w.heap.size w' vr (ro.getD []) ∧ (∀ z, ro = some z → z ≠ [] ∧ z.length ≤ 4097) ∧ Gr B x v' (wtE E a b ro) w' ∧ Chg (GS x v) w w' ∧ (v'.ownBlock = v.ownBlock ∨ ∃ b, v'.ownBlock = some b ∧ w.heap.size ≤ b) ∧ (∀ b, vr.ownBlock = some b → v'.ownBlock ≠ some b)
set_option maxHeartbeats 2000000 in
theorem wait_any {B x : Nat} {v : Value} {E : List Ed} {w : World} (h : Gr B x v E w) (a b : UInt64) :
    Calls Try.prog 9 #[.pointer (some ⟨x, 0, none⟩), .int .u64 (a.toNat : Int), .int .u64 (b.toNat : Int)] w (WaitP B x v E a b w) := by
  have hway := way_any h b a
  have hlen := h.len
  have hxl := h.xlt
  have hvl := fun g e => (h.row.lt g e).2
  generalize hP : WaitP B x v E a b w = POST
  have HP : Hid (WaitP B x v E a b w = POST) := hP
  clear hP
  go_enter Try.func9, Try.ntmps9
  go_wp2_with fail
  refine hway.mono ?_
  rintro r w1 ⟨vr, ro, rfl, hbfs, hou, hz, hzn, hb1⟩
  have h1 := h.below hb1 (Nat.le_refl _)
  have hch1 : Chg (GS x v) w w1 := (Chg.of_below hb1).mono (fun b q1 q2 => by omega)
  have hap : ∀ g, vr.ownBlock = some g → v.ownBlock ≠ some g := fun g e q => by have := (hou.lt g e).1; have := hvl g q; omega
  cases ro with
  | some z =>
    obtain ⟨hz1, hz2⟩ := hz z rfl
    obtain ⟨g, c, eg, _⟩ := (show Ou w.heap.size w1 vr z from hou).some_ hz1
    have hzp : (0 : Int) < (z.length : Int) := by have := List.length_pos_iff.2 hz1; omega
    have HF : Hid (POST (.returned (.tuple #[vr, .int .i64 120])) w1) := by
      show POST _ _
      rw [← HP.out]
      exact ⟨vr, v, some z, rfl, hbfs, hou, hz, h1, hch1, .inl rfl, hap⟩
    subst eg
    clear hway h h1 hou hap hz hch1
    generalize z.length = nz at *
    go_wp2_with fail
    exact HF.out
  | none =>
    obtain rfl := hzn rfl
    have hfd := gfind_any h1 (a, b)
    simp only [] at hfd
    have hple := W.pl_le E (a, b)
    have HI : Hid (W.ins E (a, b) = E.take (W.pl E (a, b)) ++ (a, b) :: E.drop (W.pl E (a, b))) := rfl
    have hNI : Hid (W.is E (a, b) = false → (a, b) ∉ E) := fun q => (W.is_false h.ris _).1 q
    have HE0 : Hid (wtE E a b none = if W.is E (a, b) then E else if 4096 ≤ E.length then E else W.ins E (a, b)) := rfl
    have HN0 : Hid (wtN E a b none = if W.is E (a, b) then 0 else if 4096 ≤ E.length then 2 else 0) := rfl
    generalize W.pl E (a, b) = i at *
    generalize W.is E (a, b) = t at *
    go_wp2_with fail
    refine hfd.mono ?_
    rintro r w2 ⟨rfl, hb2⟩
    have h2 := h1.below hb2 (Nat.le_refl _)
    have hch2 : Chg (GS x v) w w2 := hch1.trans ((Chg.of_below hb2).mono (fun b q1 q2 => by omega))
    cases t with
    | true =>
      have HF : Hid (POST (.returned (.tuple #[.slice none 0 0, .int .i64 0])) w2) := by
        show POST _ _
        rw [← HP.out]
        have e1 : wtE E a b none = E := by rw [HE0.out]; rfl
        have e2 : wtN E a b none = 0 := by rw [HN0.out]; rfl
        exact ⟨_, v, none, by rw [e2], hbfs, Ou.nil _ _, (fun z q => by cases q), by rw [e1]; exact h2, hch2, .inl rfl, fun g e => by cases e⟩
      clear hway h h1 hfd h2 hou hch1 hch2 hz
      go_wp2_with fail
      exact HF.out
    | false =>
      obtain ⟨c0, cz⟩ := h2.vx
      obtain ⟨va, vc, ev, hv1, hv2⟩ := h2.row.rd.shape
      by_cases hfull : 4096 ≤ E.length
      · have HF : Hid (POST (.returned (.tuple #[.slice none 0 0, .int .i64 2])) w2) := by
          show POST _ _
          rw [← HP.out]
          have e1 : wtE E a b none = E := by rw [HE0.out, if_neg (by simp), if_pos hfull]
          have e2 : wtN E a b none = 2 := by rw [HN0.out, if_neg (by simp), if_pos hfull]
          exact ⟨_, v, none, by rw [e2], hbfs, Ou.nil _ _, (fun z q => by cases q), by rw [e1]; exact h2, hch2, .inl rfl, fun g e => by cases e⟩
        have hfi : (4096 : Int) ≤ (E.length : Int) := by omega
        subst ev
        clear hway h h1 hfd h2 hou hch1 hch2 hz
        go_wp2_with fail
        exact HF.out
      · have hfi : ¬ (4096 : Int) ≤ (E.length : Int) := by omega
        have hbA := w_al w2 (.cells #[.int .u64 (a.toNat : Int), .int .u64 (b.toNat : Int)] 31)
        have hnew := heap_alloc_new w2 (.cells #[.int .u64 (a.toNat : Int), .int .u64 (b.toNat : Int)] 31)
        obtain ⟨x0, x1, xf⟩ := box2 hnew
        have h3 := h2.below hbA (Nat.le_refl _)
        have hins := insert_any (B := B) h3.row h3.len (by have := h2.lo; have := h2.xlt; have := hbA.size; omega) hple w2.heap.size (a, b) ⟨x0, x1⟩ (fun q => by have := (h2.row.lt _ q).2; omega) (by unfold World.shape?; rw [hnew]; rfl) xf
        have hxl2 := h2.xlt
        have hxl3 := h3.xlt
        have HFIN : Hid (∀ (v4 : Value) (w4 : World), OwE B w4 v4 (E.take i ++ (a, b) :: E.drop i) → Chg (fun g => v.ownBlock = some g) (w2.alloc (.cells #[.int .u64 (a.toNat : Int), .int .u64 (b.toNat : Int)] 31)) w4 → (v4.ownBlock = v.ownBlock ∨ ∃ g, v4.ownBlock = some g ∧ (w2.alloc (.cells #[.int .u64 (a.toNat : Int), .int .u64 (b.toNat : Int)] 31)).heap.size ≤ g) → POST (.returned (.tuple #[.slice none 0 0, .int .i64 0])) (w4.setCell ⟨x, 0, none⟩ v4)) := fun v4 w4 ho hc hv => by
          rw [← HP.out]
          have e1 : wtE E a b none = W.ins E (a, b) := by rw [HE0.out, if_neg (by simp), if_neg hfull]
          have e2 : wtN E a b none = 0 := by rw [HN0.out, if_neg (by simp), if_neg hfull]
          have hss : w.heap.size ≤ w2.heap.size := hch2.size
          have hxv : v4.ownBlock ≠ some x := by
            rcases hv with q | ⟨g, q, hg⟩
            · rw [q]; exact h.ne
            · rw [q]; intro q2; have := Option.some.inj q2; have := hbA.size; omega
          have hcx : w4.heap[x]? = some (.cells #[v] 52 (0, 0)) := by rw [hc.block x hxl3 h.ne]; exact h3.cell
          have hcp : Chg (fun b => b = x) w4 (w4.setCell ⟨x, 0, none⟩ v4) := (Chg.refl (fun b => b = x) w4).put x _ _ rfl
          refine ⟨_, v4, none, by rw [e2], hbfs, Ou.nil _ _, (fun z q => by cases q), ?_, ?_, ?_, fun g e => by cases e⟩
          · rw [e1]
            refine ⟨by rw [heap_setCell_same _ _ 0 _ _ _ hcx]; rfl, ?_, hxv, h.lo, W.ris_ins h.ris (hNI.out rfl), by rw [W.ins_len]; omega⟩
            rw [HI.out]
            exact ho.keptC hcp (fun g e q => hxv (by rw [e, q]))
          · exact ((hch2.trans ((Chg.of_below hbA).mono (fun b q1 q2 => by omega))).trans (hc.mono (fun b _ q => .inl (.inr q)))).trans (hcp.mono (fun b _ q => .inl (.inl q)))
          · rcases hv with q | ⟨g, q, hg⟩
            · exact .inl q
            · exact .inr ⟨g, q, by have := hbA.size; omega⟩
        have HK : Hid (∀ w4, Chg (fun g => v.ownBlock = some g) (w2.alloc (.cells #[.int .u64 (a.toNat : Int), .int .u64 (b.toNat : Int)] 31)) w4 → w4.cell? ⟨x, 0, none⟩ = some v ∧ w4.frozen? ⟨x, 0, none⟩ = false) := fun w4 hc => by
          have hcx : w4.heap[x]? = some (.cells #[v] 52 (0, 0)) := by rw [hc.block x hxl3 h.ne]; exact h3.cell
          exact ⟨by rw [cell_of_row _ _ _ _ _ _ hcx]; rfl, frozen_of_row _ _ _ _ _ hcx⟩
        subst ev
        clear hway h h1 hfd h2 hou hch1 hch2 hz h3 hnew x0 x1 xf hbA
        go_wp2_with fail
        refine hins.mono ?_
        rintro r w4 ⟨v4, rfl, ho4, hc4, hv4⟩
        obtain ⟨y0, yf⟩ := HK.out w4 hc4
        have HE4 : Hid _ := HFIN.out v4 w4 ho4 hc4 hv4
        obtain ⟨q1, q2, q3, -⟩ := ho4.rd.shape
        subst q3
        clear ho4 hc4 hv4 hins
        generalize (E.take i ++ (a, b) :: E.drop i).length = ln at *
        go_wp2_with fail
        exact HE4.out
end Go.Proofs.Ytipnghaphfgalaa
