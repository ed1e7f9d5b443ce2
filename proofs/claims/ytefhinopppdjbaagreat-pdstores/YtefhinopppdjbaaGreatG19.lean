/- The heap's own Push and Pop. -/
import Derived.Test.YtefhinopppdjbaaGreatG18
import Derived.Deep.RegionLaw
namespace Go.Proofs.YtefhinopppdjbaaGreat
open Go.RowKit
set_option linter.unusedVariables false
set_option maxRecDepth 100000

theorem Tryz.infoEn : (Tryz.prog.info? 59).map (fun i => (i.zero, i.size, i.bytes)) = some (some (.agg #[.int .u64 0, .int .u64 0]), 2, 16) := by kernel_rfl
theorem e2s_one (H : List EN) : ∀ u ∈ e2s H, u.oneCell' = true := by
  intro u hu
  obtain ⟨x, hx, hu⟩ := List.mem_flatMap.1 hu
  simp only [e2, List.mem_cons, List.not_mem_nil, or_false] at hu
  rcases hu with rfl | rfl <;> rfl
theorem step_appEn {ops : Array Oper} {o : Oper} {a : Act} {w : World} {K : Act → World → Prop} {Q : Exit → Act → World → Prop} {E : Prop} (hgd : o.guard = none) (s x : Operand)
    (ho : o.op = .call { callee := .builtin .append, args := #[s, x], argTypes := #[51, 51] })
    (B : Nat) (v : Value) (l : List EN) (hs : a.eval s = v) (hown : w.ownsRow B 59 2 v l.length (e2s l)) (ad : Addr) (c : Nat) (e : EN) (hx : a.eval x = .slice (some ad) 1 c) (h0 : w.cell? (ad.add 0) = some (.int .u64 (e.1.toNat : Int))) (h1 : w.cell? (ad.add 1) = some (.int .u64 (e.2.toNat : Int))) (hB : B ≤ w.heap.size) (hlen : l.length + 1 ≤ 1099511627776)
    (hK : ∀ v' w', w'.ownsRow B 59 2 v' (l ++ [e]).length (e2s (l ++ [e])) → w.grownBy w' v.ownBlock → (v'.ownBlock = v.ownBlock ∨ v'.ownBlock = some w.heap.size) → K (a.put o.dst v') w') : if Region.wanted o (yielded ops a.tmps) = true then Oper.wp Tryz.prog o a w K Q else E := by
  have hw : Region.wanted o (yielded ops a.tmps) = true := by simp [Region.wanted, hgd]
  rw [if_pos hw]
  obtain ⟨v', w', hr, q2, q3, q4⟩ := run_appW (P := Tryz.prog) w B 51 o.type 59 _ 2 16 Tryz.underlying51 Tryz.infoEn rfl (by decide) v l.length (e2s l) hown ad 1 c (e2s [e]) (e2s_length [e]) (by
    intro j u hu
    match j with
    | 0 => simp [e2s, e2] at hu; subst hu; exact h0
    | 1 => simp [e2s, e2] at hu; subst hu; exact h1
    | j + 2 => simp [e2s, e2] at hu) (e2s_one [e]) (by unfold maxLen; omega) (by omega) hB
  unfold Oper.wp execOp
  simp only [ho, resolve, invoke, builtin, Sem.run_bind, Sem.run_pure, Result.andThen_ok, List.map_toArray, List.map_cons, List.map_nil, hs, hx, hr]
  exact hK v' w' (by rw [e2s_app, List.length_append]; exact q2) q3 q4

section
variable {B p : Nat} {d : DC} {w w' : World} {H : List EN}
theorem Rg.push {e : EN} (h : Rg B p d w H) {w1 w5 : World} {x : Option Addr × Nat × Nat} (hb : Below w.heap.size w w1) (hg : w1.grownBy w5 (sv d.ev).ownBlock) (hrow : w5.ownsRow B 59 2 (sv x) (H ++ [e]).length (e2s (H ++ [e]))) : Rg B p { d with ev := x } (w5.setCell ⟨p, 6, none⟩ (sv x)) (H ++ [e]) ∧ Chg (RgS p d) w (w5.setCell ⟨p, 6, none⟩ (sv x)) := by
  have hpl := h.drv.lt
  have hs1 := hb.size
  have hc1 : Chg (fun b => (sv d.ev).ownBlock = some b) w w1 := (Chg.of_below hb).mono (fun b q1 q2 => by omega)
  have hc : Chg (fun b => (sv d.ev).ownBlock = some b) w w5 := hc1.trans (Chg.of_grown hg (fun b e _ => .inl e))
  have hd5 : Drv p d w5 := h.drv.next hc h.ne
  refine ⟨?_, (hc.mono (fun b _ q => Or.inr q)).trans ((chg_p p 6 (sv x) w5).mono (fun b _ q => .inl (.inl q)))⟩
  refine ⟨hd5.setE x, ?_, h.lo⟩
  refine ownsRow_keptC hrow (chg_p p 6 (sv x) w5) (fun b q1 q2 => ?_)
  obtain ⟨_, cs, fr, e⟩ := row_blk hrow q1
  rw [show b = p from q2, hd5] at e
  have := Option.some.inj e
  simp only [Obj.cells.injEq] at this
  exact absurd this.2.1 (by decide)

theorem run_isent (W : World) (x y : Int) : (Instr.typeAssert (.iface 59 (.agg #[.int .u64 x, .int .u64 y])) 20 59 false).run Tryz.prog W = .ok (.agg #[.int .u64 x, .int .u64 y]) W := by kernel_rfl
set_option maxHeartbeats 1000000 in
theorem push1_any (e : EN) (h : Rg B p d w H) (hlen : H.length + 1 ≤ 1099511627776) :
    Calls Tryz.prog 152 #[.pointer (some ⟨p, 6, none⟩), .iface 59 (.agg #[.int .u64 (e.1.toNat : Int), .int .u64 (e.2.toNat : Int)])] w fun r w' => (∃ u, r = .returned u) ∧ ∃ x, Rg B p { d with ev := x } w' (H ++ [e]) ∧ Chg (RgS p d) w w' ∧ ((sv x).ownBlock = (sv d.ev).ownBlock ∨ ∃ b, (sv x).ownBlock = some b ∧ w.heap.size ≤ b) := by
  obtain ⟨vx, fx⟩ := h.vx
  have hpl := h.drv.lt
  have fx0 := fx 6
  have hlo := h.lo
  have HP : Hid _ := fun {w1 w5 : World} {x : Option Addr × Nat × Nat} => h.push (e := e) (w1 := w1) (w5 := w5) (x := x)
  have hbA : Below w.heap.size w (w.alloc (.cells #[.int .u64 (e.1.toNat : Int), .int .u64 (e.2.toNat : Int)] 59)).drew := Below.trans (h_al w _) ((Below.dN _ 1).mono (h_al w _).size)
  have hrow : (w.alloc (.cells #[.int .u64 (e.1.toNat : Int), .int .u64 (e.2.toNat : Int)] 59)).drew.ownsRow B 59 2 (sv d.ev) H.length (e2s H) := (h.below hbA (Nat.le_refl _)).row
  have hsz : (w.alloc (.cells #[.int .u64 (e.1.toNat : Int), .int .u64 (e.2.toNat : Int)] 59)).drew.heap.size = w.heap.size + 1 := by simp
  have hB : B ≤ (w.alloc (.cells #[.int .u64 (e.1.toNat : Int), .int .u64 (e.2.toNat : Int)] 59)).drew.heap.size := by omega
  have hA0 : (w.alloc (.cells #[.int .u64 (e.1.toNat : Int), .int .u64 (e.2.toNat : Int)] 59)).drew.cell? ((⟨w.heap.size, 0, none⟩ : Addr).add 0) = some (.int .u64 (e.1.toNat : Int)) := by
    show (w.alloc (.cells #[.int .u64 (e.1.toNat : Int), .int .u64 (e.2.toNat : Int)] 59)).cell? ⟨w.heap.size, 0, none⟩ = _
    rw [World.cell?_alloc_at _ _ _ _ rfl]; rfl
  have hA1 : (w.alloc (.cells #[.int .u64 (e.1.toNat : Int), .int .u64 (e.2.toNat : Int)] 59)).drew.cell? ((⟨w.heap.size, 0, none⟩ : Addr).add 1) = some (.int .u64 (e.2.toNat : Int)) := by
    show (w.alloc (.cells #[.int .u64 (e.1.toNat : Int), .int .u64 (e.2.toNat : Int)] 59)).cell? ⟨w.heap.size, 1, none⟩ = _
    rw [World.cell?_alloc_at _ _ _ _ rfl]; rfl
  have hne := h.ne
  have hmid : ∀ w5, (w.alloc (.cells #[.int .u64 (e.1.toNat : Int), .int .u64 (e.2.toNat : Int)] 59)).drew.grownBy w5 (sv d.ev).ownBlock → w5.cell? ⟨p, 6, none⟩ = some (sv d.ev) ∧ w5.frozen? ⟨p, 6, none⟩ = false := fun w5 hg => by
    have e1 : w5.heap[p]? = w.heap[p]? := (hg.block p (by omega) (fun q => hne q.symm)).trans (hbA.block p hpl)
    exact ⟨by rw [World.cell?_of_block e1]; exact vx, by rw [World.frozen?_of_block e1]; exact fx0⟩
  have hfin : ∀ x : Option Addr × Nat × Nat, ((sv x).ownBlock = (sv d.ev).ownBlock ∨ (sv x).ownBlock = some (w.alloc (.cells #[.int .u64 (e.1.toNat : Int), .int .u64 (e.2.toNat : Int)] 59)).drew.heap.size) → ((sv x).ownBlock = (sv d.ev).ownBlock ∨ ∃ b, (sv x).ownBlock = some b ∧ w.heap.size ≤ b) := fun x q => by
    rcases q with q | q
    · exact .inl q
    · exact .inr ⟨_, q, by omega⟩
  have HFN : Hid _ := hfin
  clear hfin
  have hasr := run_isent
  simp only [sv] at *
  clear h fx
  go_enter Tryz.func152, Tryz.ntmps152
  go_wp2_with fail
  go_region_law
    ((first
    | (refine step_appEn rfl _ _ rfl B (.slice d.ev.1 d.ev.2.1 d.ev.2.2) H rfl hrow ⟨w.heap.size, 0, none⟩ 1 e rfl hA0 hA1 hB hlen ?_; intro v5 w5 ho5 hg5 hv5; obtain ⟨a5, n5, c5, rfl⟩ := row_shape ho5; obtain ⟨q1, q2⟩ := hmid w5 hg5)
    | fail))
  all_goals go_wp2_with fail
  all_goals go_end0
  all_goals exact ⟨⟨_, rfl⟩, (a5, n5, c5), (HP.out (x := (a5, n5, c5)) hbA hg5 ho5).1, (HP.out (x := (a5, n5, c5)) hbA hg5 ho5).2, HFN.out (a5, n5, c5) hv5⟩

set_option maxHeartbeats 1000000 in
theorem pop1_any (h : Rg B p d w H) {n : Nat} {e : EN} (hn : H.length = n + 1) (he : H[n]? = some e) :
    Calls Tryz.prog 151 #[.pointer (some ⟨p, 6, none⟩)] w fun r w' => (∃ u, r = .returned u) ∧ ∃ x, Rg B p { d with ev := x } w' (H.take n) ∧ (sv x).ownBlock = (sv d.ev).ownBlock ∧ Chg (RgS p d) w w' := by
  obtain ⟨g, c, hd, h1, h2, hi, a0, a1, fr⟩ := h.at_ he
  unfold maxLen at h2
  obtain ⟨vx, fx⟩ := h.vx
  have fx0 := fx 6
  have hpl := h.drv.lt
  have hgl : g < w.heap.size := World.block_lt_of_cell? w _ a0
  have hb : ∀ o, Below w.heap.size w (w.alloc o) := fun o => h_al w o
  have HP : Hid (∀ o, Rg B p { d with ev := (some ⟨g, 0, none⟩, n, c) } ((w.setCell ⟨p, 6, none⟩ (.slice (some ⟨g, 0, none⟩) n c)).alloc o) (H.take n) ∧ Chg (RgS p d) w ((w.setCell ⟨p, 6, none⟩ (.slice (some ⟨g, 0, none⟩) n c)).alloc o)) := fun o => by
    refine ⟨(h.take hd (by omega)).below (h_al _ o) (Nat.le_refl _), ?_⟩
    exact Chg.alloc ((chg_p p 6 _ _).mono (fun b _ q => .inl q)) o
  have hni : IntKind.i64.wrap ((H.length : Int) - 1) = (n : Int) := by rw [IntKind.wrap_i64]; omega
  have hn1 : (n : Int) < (H.length : Int) := by omega
  have hn2 : (n : Int) ≤ (c : Int) := by omega
  have hn3 : (H.length : Int) ≤ (c : Int) := by omega
  have hpn : p ≠ w.heap.size := by omega
  have hgn : g ≠ w.heap.size := by omega
  rw [hd] at vx ⊢
  simp only [sv] at vx ⊢
  have hln := h.len
  generalize H.length = nn at *
  clear h he h1 hn hd hb hln fx
  obtain ⟨x1, x2⟩ := e
  simp only [] at *
  go_enter Tryz.func151, Tryz.ntmps151
  go_wp2_with fail
  go_ret
  exact ⟨⟨_, rfl⟩, (some ⟨g, 0, none⟩, n, c), (HP.out _).1, rfl, (HP.out _).2⟩
end
end Go.Proofs.YtefhinopppdjbaaGreat
