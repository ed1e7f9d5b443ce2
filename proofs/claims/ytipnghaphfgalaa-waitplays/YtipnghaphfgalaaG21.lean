/- The heap's own Push and Pop. -/
import Derived.Test.YtipnghaphfgalaaG20
import Derived.Deep.RegionLaw
namespace Go.Proofs.Ytipnghaphfgalaa
open Go.RowKit
set_option linter.unusedVariables false
set_option maxRecDepth 100000

theorem Try.infoW : (Try.prog.info? 27).map (fun i => (i.zero, i.size, i.bytes)) = some (some (.slice none 0 0), 1, 24) := by kernel_rfl
theorem step_appH {ops : Array Oper} {o : Oper} {a : Act} {w : World} {K : Act → World → Prop} {Q : Exit → Act → World → Prop} {E : Prop} (hgd : o.guard = none) (s x : Operand)
    (ho : o.op = .call { callee := .builtin .append, args := #[s, x], argTypes := #[64, 64] })
    (B : Nat) (v : Value) (l : List HE) (hs : a.eval s = v) (hown : w.ownsRow B 27 1 v l.length (l.map (·.1))) (ad : Addr) (c : Nat) (e : HE) (hx : a.eval x = .slice (some ad) 1 c) (he : ∃ p q r, e.1 = .slice p q r) (h0 : w.cell? ad = some e.1) (hB : B ≤ w.heap.size) (hlen : l.length + 1 ≤ 1099511627776)
    (hK : ∀ v' w', w'.ownsRow B 27 1 v' (l ++ [e]).length ((l ++ [e]).map (·.1)) → w.grownBy w' v.ownBlock → (v'.ownBlock = v.ownBlock ∨ v'.ownBlock = some w.heap.size) → K (a.put o.dst v') w') : if Region.wanted o (yielded ops a.tmps) = true then Oper.wp Try.prog o a w K Q else E := by
  have hw : Region.wanted o (yielded ops a.tmps) = true := by simp [Region.wanted, hgd]
  rw [if_pos hw]
  obtain ⟨v', w', hr, q2, q3, q4⟩ := run_app1 (P := Try.prog) w B 64 o.type 27 _ 24 Try.underlying64 Try.infoW rfl v l.length (l.map (·.1)) hown ad c e.1 h0 (by obtain ⟨p, q, r, q1⟩ := he; rw [q1]; rfl) (by unfold maxLen; omega) (by omega) hB
  unfold Oper.wp execOp
  simp only [ho, resolve, invoke, builtin, Sem.run_bind, Sem.run_pure, Result.andThen_ok, List.map_toArray, List.map_cons, List.map_nil, hs, hx, hr]
  exact hK v' w' (by rw [List.length_append, List.map_append]; exact q2) q3 q4

section
variable {w0 : World} {x : Nat} {v : Value} {w w' : World} {H A : List HE}
theorem Hq.push {e : HE} (h : Hq w0 x v w H (e :: A)) {w1 w5 : World} {v' : Value} (hb : Below w.heap.size w w1) (hg : w1.grownBy w5 v.ownBlock) (hrow : w5.ownsRow w0.heap.size 27 1 v' (H ++ [e]).length ((H ++ [e]).map (·.1))) (hv : v'.ownBlock = v.ownBlock ∨ v'.ownBlock = some w1.heap.size) : Hq w0 x v' (w5.setCell ⟨x, 0, none⟩ v') (H ++ [e]) A ∧ Chg (fun b => b = x ∨ v.ownBlock = some b) w (w5.setCell ⟨x, 0, none⟩ v') := by
  have hxl := h.xlt
  have hs1 := hb.size
  have hc1 : Chg (fun b => v.ownBlock = some b) w w1 := (Chg.of_below hb).mono (fun b q1 q2 => by omega)
  have hc : Chg (fun b => v.ownBlock = some b) w w5 := hc1.trans (Chg.of_grown hg (fun b e _ => .inl e))
  have hxv : v'.ownBlock ≠ some x := by
    rcases hv with q | q
    · rw [q]; exact h.ne
    · rw [q]; intro q2; have := Option.some.inj q2; omega
  obtain ⟨t, hcx⟩ := h.cx
  have hcx5 : w5.heap[x]? = some (.cells #[v] t (0, 0)) := by rw [hc.block x hxl h.ne]; exact hcx
  have hch : Chg (fun b => b = x) w5 (w5.setCell ⟨x, 0, none⟩ v') := (Chg.refl (fun b => b = x) w5).put x _ _ rfl
  have hall : Chg (fun b => b = x ∨ v.ownBlock = some b) w (w5.setCell ⟨x, 0, none⟩ v') := (hc.mono (fun b _ q => Or.inr q)).trans (hch.mono (fun b _ q => .inl (.inl q)))
  have hx := h.hx
  have hp : (A ++ (H ++ [e])).Perm ((e :: A) ++ H) := by
    rw [← List.append_assoc]
    exact List.perm_append_comm (l₁ := A ++ H) (l₂ := [e])
  refine ⟨⟨⟨(hch.os.trans hc.os).trans h.base.os, (hch.tape.trans hc.tape).trans h.base.tape, (hch.output.trans hc.output).trans h.base.output, Nat.le_trans h.base.size (Nat.le_trans hc.size hch.size), fun b hb' => ?_⟩, h.hx, ⟨t, ?_⟩, ?_, hxv, fun d hd => ?_, ?_⟩, hall⟩
  · have hbs := h.base.size
    have hcs := hc.size
    rw [hch.block b (by omega) (fun q => by omega), hc.block b (by omega) (fun q => by have := (World.ownsRow.lt h.row b q).1; omega)]
    exact h.base.block b hb'
  · rw [heap_setCell_same _ _ 0 _ _ _ hcx5]; rfl
  · exact ownsRow_keptC hrow hch (fun b q1 q2 => hxv (by rw [q1, q2]))
  · obtain ⟨q1, q2, q3, q4, q5⟩ := h.els d (hp.mem_iff.1 hd)
    refine ⟨q1.keptC hall (fun b e1 e2 => ?_), q2, q3, q4, ?_⟩
    · rcases e2 with e2 | e2
      · exact q4 (by rw [e1, e2])
      · exact q5 (by rw [e1, e2])
    · rcases hv with q | q
      · rw [q]; exact q5
      · rw [q]
        intro q6
        have := (q1.lt _ q6).2
        omega
  · exact (List.Perm.pairwise_iff (fun q => Ne.symm q) hp).2 h.dis

theorem run_isway (W : World) (p : Option Addr) (q r : Nat) : (Instr.typeAssert (.iface 27 (.slice p q r)) 20 27 false).run Try.prog W = .ok (.slice p q r) W := by kernel_rfl
set_option maxHeartbeats 1000000 in
theorem push1_any {e : HE} (h : Hq w0 x v w H (e :: A)) (hlen : H.length + 1 ≤ 1099511627776) :
    Calls Try.prog 72 #[.pointer (some ⟨x, 0, none⟩), .iface 27 e.1] w fun r w' => (∃ u, r = .returned u) ∧ ∃ v', Hq w0 x v' w' (H ++ [e]) A ∧ Chg (fun b => b = x ∨ v.ownBlock = some b) w w' ∧ (v'.ownBlock = v.ownBlock ∨ ∃ b, v'.ownBlock = some b ∧ w.heap.size ≤ b) := by
  obtain ⟨vx, fx⟩ := h.vx
  have hxl := h.xlt
  have fx0 := fx 0
  have hbs := h.base.size
  have HP : Hid _ := fun {w1 w5 : World} {v' : Value} => h.push (w1 := w1) (w5 := w5) (v' := v')
  have hbA : Below w.heap.size w (w.alloc (.cells #[e.1] 27)).drew := Below.tr (w_al w _) (Below.dN _ 1)
  have hrow : (w.alloc (.cells #[e.1] 27)).drew.ownsRow w0.heap.size 27 1 v H.length (H.map (·.1)) := ownsRow_belP h.row hbA (Nat.le_refl _)
  have hsz : (w.alloc (.cells #[e.1] 27)).drew.heap.size = w.heap.size + 1 := by simp
  have hB : w0.heap.size ≤ (w.alloc (.cells #[e.1] 27)).drew.heap.size := by omega
  have hA0 : (w.alloc (.cells #[e.1] 27)).drew.cell? ⟨w.heap.size, 0, none⟩ = some e.1 := by
    show (w.alloc (.cells #[e.1] 27)).cell? _ = _
    rw [World.cell?_alloc_at _ _ _ _ rfl]; rfl
  have hne := h.ne
  have hmid : ∀ w5, (w.alloc (.cells #[e.1] 27)).drew.grownBy w5 v.ownBlock → w5.cell? ⟨x, 0, none⟩ = some v ∧ w5.frozen? ⟨x, 0, none⟩ = false := fun w5 hg => by
    have e1 : w5.heap[x]? = w.heap[x]? := (hg.block x (by omega) (fun q => hne q.symm)).trans (hbA.block x hxl)
    exact ⟨by rw [World.cell?_of_block e1]; exact vx, by rw [World.frozen?_of_block e1]; exact fx0⟩
  have hfin : ∀ v' : Value, (v'.ownBlock = v.ownBlock ∨ v'.ownBlock = some (w.alloc (.cells #[e.1] 27)).drew.heap.size) → (v'.ownBlock = v.ownBlock ∨ ∃ b, v'.ownBlock = some b ∧ w.heap.size ≤ b) := fun v' q => by
    rcases q with q | q
    · exact .inl q
    · exact .inr ⟨_, q, by omega⟩
  have HFN : Hid _ := hfin
  clear hfin
  obtain ⟨av, nv, cv, ev⟩ := row_shape h.row
  obtain ⟨_, _, ee⟩ := (h.els e (by simp)).1.shape
  obtain ⟨u, l⟩ := e
  simp only [] at *
  subst ee
  clear h fx
  subst ev
  have hasr := run_isway
  generalize l.length = ln at *
  go_enter Try.func72, Try.ntmps72
  go_wp2_with fail
  go_region_law
    ((first
    | (refine step_appH rfl _ _ rfl w0.heap.size (.slice av nv cv) H rfl hrow ⟨w.heap.size, 0, none⟩ 1 (_, l) rfl ⟨_, _, _, rfl⟩ hA0 hB hlen ?_; intro v5 w5 ho5 hg5 hv5; obtain ⟨a5, n5, c5, rfl⟩ := row_shape ho5; obtain ⟨q1, q2⟩ := hmid w5 hg5)
    | fail))
  all_goals go_wp2_with fail
  all_goals go_end0
  all_goals exact ⟨⟨_, rfl⟩, _, (HP.out hbA hg5 ho5 hv5).1, (HP.out hbA hg5 ho5 hv5).2, HFN.out _ hv5⟩

set_option maxHeartbeats 1000000 in
theorem pop1_any (h : Hq w0 x v w H A) {n : Nat} {e : HE} (hn : H.length = n + 1) (he : H[n]? = some e) :
    Calls Try.prog 71 #[.pointer (some ⟨x, 0, none⟩)] w fun r w' => (∃ u, r = .returned u) ∧ ∃ v', Hq w0 x v' w' (H.take n) (e :: A) ∧ v'.ownBlock = v.ownBlock ∧ Chg (fun b => b = x) w w' := by
  obtain ⟨g, c, rfl, h1, h2, hi, a0, ra, fr⟩ := h.at_ he
  unfold maxLen at h2
  obtain ⟨vx, fx⟩ := h.vx
  have fx0 := fx 0
  have hxl := h.xlt
  obtain ⟨_, _, ee, -⟩ := ra
  have HP : Hid _ := h.takeA hn he
  obtain ⟨u, l⟩ := e
  simp only [] at *
  subst ee
  have hch : Hid (∀ u, Chg (fun b => b = x) w (w.setCell ⟨x, 0, none⟩ u)) := fun u => ((Chg.refl (fun b => b = x) w).put x 0 u rfl)
  have hni : IntKind.i64.wrap ((H.length : Int) - 1) = (n : Int) := by rw [IntKind.wrap_i64]; omega
  have hn1 : (n : Int) < (H.length : Int) := by omega
  have hn2 : (n : Int) ≤ (c : Int) := by omega
  have hn3 : (H.length : Int) ≤ (c : Int) := by omega
  have hxn : x ≠ w.heap.size := by omega
  generalize H.length = nn at *
  generalize l.length = ln at *
  clear h he h1 hn
  go_enter Try.func71, Try.ntmps71
  go_wp2_with fail
  go_ret
  exact ⟨⟨_, rfl⟩, .slice (some ⟨g, 0, none⟩) n c, HP.out, rfl, hch.out _⟩
end
end Go.Proofs.Ytipnghaphfgalaa
