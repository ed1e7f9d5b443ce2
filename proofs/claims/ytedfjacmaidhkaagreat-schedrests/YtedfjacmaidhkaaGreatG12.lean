/- The queue's own Push and Pop. -/
import Derived.Test.YtedfjacmaidhkaaGreatG11
import Derived.Deep.RegionLaw
namespace Go.Proofs.YtedfjacmaidhkaaGreat
open Go.RowKit
set_option linter.unusedVariables false
set_option maxRecDepth 100000

theorem h_al (w : World) (o : Obj) : Below w.heap.size w (w.alloc o) := (Below.refl _ _).alloc (Nat.le_refl _) o
theorem step_appPe {ops : Array Oper} {o : Oper} {a : Act} {w : World} {K : Act → World → Prop} {Q : Exit → Act → World → Prop} {E : Prop} (hgd : o.guard = none) (s x : Operand)
    (ho : o.op = .call { callee := .builtin .append, args := #[s, x], argTypes := #[38, 38] })
    (B : Nat) (v : Value) (l : List Pe) (hs : a.eval s = v) (hown : OwPe B w v l) (ad : Addr) (c : Nat) (e : Pe) (hx : a.eval x = .slice (some ad) 1 c) (h0 : w.cell? (ad.add 0) = some (.int .u64 (e.1.toNat : Int))) (h1 : w.cell? (ad.add 1) = some (.int .i64 e.2.1)) (h2 : w.cell? (ad.add 2) = some (.bool e.2.2)) (hB : B ≤ w.heap.size) (hlen : l.length + 1 ≤ 1099511627776)
    (hK : ∀ v' w', OwPe B w' v' (l ++ [e]) → w.grownBy w' v.ownBlock → (v'.ownBlock = v.ownBlock ∨ v'.ownBlock = some w.heap.size) → K (a.put o.dst v') w') : if Region.wanted o (yielded ops a.tmps) = true then Oper.wp Tryz.prog o a w K Q else E := by
  have hw : Region.wanted o (yielded ops a.tmps) = true := by simp [Region.wanted, hgd]
  rw [if_pos hw]
  obtain ⟨v', w', hr, q2, q3, q4⟩ := run_appW (P := Tryz.prog) w B 38 o.type 44 _ 3 24 Tryz.underlying38 Tryz.infoPe rfl (by decide) v l.length (pcs l) hown ad 1 c (pcs [e]) (pcs_len [e]) (by
    intro j u hu
    match j with
    | 0 => simp [pcs, pc] at hu; subst hu; exact h0
    | 1 => simp [pcs, pc] at hu; subst hu; exact h1
    | 2 => simp [pcs, pc] at hu; subst hu; exact h2
    | j + 3 => simp [pcs, pc] at hu) (pcs_one [e]) (by unfold maxLen; omega) (by omega) hB
  unfold Oper.wp execOp
  simp only [ho, resolve, invoke, builtin, Sem.run_bind, Sem.run_pure, Result.andThen_ok, List.map_toArray, List.map_cons, List.map_nil, hs, hx, hr]
  exact hK v' w' (by unfold OwPe; rw [pcs_app, List.length_append]; exact q2) q3 q4

section
variable {B p : Nat} {f : Value} {x : Option Addr × Nat × Nat} {w w' : World} {H : List Pe}
theorem Qu.push {e : Pe} (he : i64 e.2.1) (h : Qu B p f x w H) {w1 w5 : World} {y : Option Addr × Nat × Nat} (hb : Below w.heap.size w w1) (hg : w1.grownBy w5 (sv x).ownBlock) (hrow : OwPe B w5 (sv y) (H ++ [e])) : Qu B p f y (w5.setCell ⟨p, 0, none⟩ (sv y)) (H ++ [e]) ∧ Chg (QuS p x) w (w5.setCell ⟨p, 0, none⟩ (sv y)) := by
  have hpl := h.lt
  have hs1 := hb.size
  have hc1 : Chg (fun b => (sv x).ownBlock = some b) w w1 := (Chg.of_below hb).mono (fun b q1 q2 => by omega)
  have hc : Chg (fun b => (sv x).ownBlock = some b) w w5 := hc1.trans (Chg.of_grown hg (fun b e _ => .inl e))
  have hd5 : w5.heap[p]? = some (.cells #[sv x, f] 123 (0, 0)) := (hc.block p hpl h.ne).trans h.blk
  refine ⟨?_, (hc.mono (fun b _ q => Or.inr q)).trans ((chg_p p 0 (sv y) w5).mono (fun b _ q => .inl (.inl q)))⟩
  refine ⟨by rw [heap_setCell_same _ _ 0 _ _ _ hd5]; rfl, ?_, h.lo, fun q hq => by rcases List.mem_append.1 hq with q1 | q1; exact h.dom _ q1; rw [List.mem_singleton.1 q1]; exact he⟩
  refine ownsRow_keptC hrow (chg_p p 0 (sv y) w5) (fun b q1 q2 => ?_)
  obtain ⟨_, cs, fr, e⟩ := row_blk hrow q1
  rw [show b = p from q2, hd5] at e
  have := Option.some.inj e
  simp only [Obj.cells.injEq] at this
  exact absurd this.2.1 (by decide)

theorem run_isPe (W : World) (x y : Int) (z : Bool) : (Instr.typeAssert (.iface 44 (.agg #[.int .u64 x, .int .i64 y, .bool z])) 20 44 false).run Tryz.prog W = .ok (.agg #[.int .u64 x, .int .i64 y, .bool z]) W := by kernel_rfl
set_option maxHeartbeats 1000000 in
theorem push1_any (e : Pe) (hei : i64 e.2.1) (h : Qu B p f x w H) (hlen : H.length + 1 ≤ 1099511627776) :
    Calls Tryz.prog 144 #[.pointer (some ⟨p, 0, none⟩), .iface 44 (.agg #[.int .u64 (e.1.toNat : Int), .int .i64 e.2.1, .bool e.2.2])] w fun r w' => (∃ u, r = .returned u) ∧ ∃ y, Qu B p f y w' (H ++ [e]) ∧ Chg (QuS p x) w w' ∧ ((sv y).ownBlock = (sv x).ownBlock ∨ ∃ b, (sv y).ownBlock = some b ∧ w.heap.size ≤ b) := by
  obtain ⟨vx, -, fx⟩ := h.vx
  have hpl := h.lt
  have fx0 := fx 0
  have hlo := h.lo
  have HP : Hid _ := fun {w1 w5 : World} {y : Option Addr × Nat × Nat} => h.push (e := e) hei (w1 := w1) (w5 := w5) (y := y)
  have hbA : Below w.heap.size w (w.alloc (.cells #[.int .u64 (e.1.toNat : Int), .int .i64 e.2.1, .bool e.2.2] 44)).drew := Below.trans (h_al w _) ((Below.dN _ 1).mono (h_al w _).size)
  have hrow : OwPe B (w.alloc (.cells #[.int .u64 (e.1.toNat : Int), .int .i64 e.2.1, .bool e.2.2] 44)).drew (sv x) H := (h.below hbA (Nat.le_refl _)).row
  have hsz : (w.alloc (.cells #[.int .u64 (e.1.toNat : Int), .int .i64 e.2.1, .bool e.2.2] 44)).drew.heap.size = w.heap.size + 1 := by simp
  have hB : B ≤ (w.alloc (.cells #[.int .u64 (e.1.toNat : Int), .int .i64 e.2.1, .bool e.2.2] 44)).drew.heap.size := by omega
  have hA0 : (w.alloc (.cells #[.int .u64 (e.1.toNat : Int), .int .i64 e.2.1, .bool e.2.2] 44)).drew.cell? ((⟨w.heap.size, 0, none⟩ : Addr).add 0) = some (.int .u64 (e.1.toNat : Int)) := by
    show (w.alloc (.cells #[.int .u64 (e.1.toNat : Int), .int .i64 e.2.1, .bool e.2.2] 44)).cell? ⟨w.heap.size, 0, none⟩ = _
    rw [World.cell?_alloc_at _ _ _ _ rfl]; rfl
  have hA1 : (w.alloc (.cells #[.int .u64 (e.1.toNat : Int), .int .i64 e.2.1, .bool e.2.2] 44)).drew.cell? ((⟨w.heap.size, 0, none⟩ : Addr).add 1) = some (.int .i64 e.2.1) := by
    show (w.alloc (.cells #[.int .u64 (e.1.toNat : Int), .int .i64 e.2.1, .bool e.2.2] 44)).cell? ⟨w.heap.size, 1, none⟩ = _
    rw [World.cell?_alloc_at _ _ _ _ rfl]; rfl
  have hA2 : (w.alloc (.cells #[.int .u64 (e.1.toNat : Int), .int .i64 e.2.1, .bool e.2.2] 44)).drew.cell? ((⟨w.heap.size, 0, none⟩ : Addr).add 2) = some (.bool e.2.2) := by
    show (w.alloc (.cells #[.int .u64 (e.1.toNat : Int), .int .i64 e.2.1, .bool e.2.2] 44)).cell? ⟨w.heap.size, 2, none⟩ = _
    rw [World.cell?_alloc_at _ _ _ _ rfl]; rfl
  have hne := h.ne
  have hmid : ∀ w5, (w.alloc (.cells #[.int .u64 (e.1.toNat : Int), .int .i64 e.2.1, .bool e.2.2] 44)).drew.grownBy w5 (sv x).ownBlock → w5.cell? ⟨p, 0, none⟩ = some (sv x) ∧ w5.frozen? ⟨p, 0, none⟩ = false := fun w5 hg => by
    have e1 : w5.heap[p]? = w.heap[p]? := (hg.block p (by omega) (fun q => hne q.symm)).trans (hbA.block p hpl)
    exact ⟨by rw [World.cell?_of_block e1]; exact vx, by rw [World.frozen?_of_block e1]; exact fx0⟩
  have hfin : ∀ y : Option Addr × Nat × Nat, ((sv y).ownBlock = (sv x).ownBlock ∨ (sv y).ownBlock = some (w.alloc (.cells #[.int .u64 (e.1.toNat : Int), .int .i64 e.2.1, .bool e.2.2] 44)).drew.heap.size) → ((sv y).ownBlock = (sv x).ownBlock ∨ ∃ b, (sv y).ownBlock = some b ∧ w.heap.size ≤ b) := fun y q => by
    rcases q with q | q
    · exact .inl q
    · exact .inr ⟨_, q, by omega⟩
  have HFN : Hid _ := hfin
  clear hfin
  have hasr := run_isPe
  simp only [sv] at *
  clear h fx
  go_enter Tryz.func144, Tryz.ntmps144
  go_wp2_with fail
  go_region_law
    ((first
    | (refine step_appPe rfl _ _ rfl B (.slice x.1 x.2.1 x.2.2) H rfl hrow ⟨w.heap.size, 0, none⟩ 1 e rfl hA0 hA1 hA2 hB hlen ?_; intro v5 w5 ho5 hg5 hv5; obtain ⟨a5, n5, c5, rfl⟩ := row_shape ho5; obtain ⟨q1, q2⟩ := hmid w5 hg5)
    | fail))
  all_goals go_wp2_with fail
  all_goals go_end0
  all_goals exact ⟨⟨_, rfl⟩, (a5, n5, c5), (HP.out (y := (a5, n5, c5)) hbA hg5 ho5).1, (HP.out (y := (a5, n5, c5)) hbA hg5 ho5).2, HFN.out (a5, n5, c5) hv5⟩

set_option maxHeartbeats 1000000 in
theorem pop1_any (h : Qu B p f x w H) {n : Nat} {e : Pe} (hn : H.length = n + 1) (he : H[n]? = some e) :
    Calls Tryz.prog 143 #[.pointer (some ⟨p, 0, none⟩)] w fun r w' => r = .returned (.iface 44 (.agg #[.int .u64 (e.1.toNat : Int), .int .i64 e.2.1, .bool e.2.2])) ∧ Chg (QuS p x) w w' := by
  obtain ⟨g, c, hd, h1, h2, hi, a0, a1, a2, fr⟩ := h.at_ he
  unfold maxLen at h2
  obtain ⟨vx, -, fx⟩ := h.vx
  have fx0 := fx 0
  have hpl := h.lt
  have hgl : g < w.heap.size := World.block_lt_of_cell? w _ a0
  have HP : Hid (∀ o u, Chg (QuS p x) w ((w.setCell ⟨p, 0, none⟩ u).alloc o)) := fun o u => Chg.alloc ((chg_p p 0 u _).mono (fun b _ q => .inl q)) o
  have hni : IntKind.i64.wrap ((H.length : Int) - 1) = (n : Int) := by rw [IntKind.wrap_i64]; omega
  have hn1 : (n : Int) < (H.length : Int) := by omega
  have hn2 : (n : Int) ≤ (c : Int) := by omega
  have hn3 : (H.length : Int) ≤ (c : Int) := by omega
  have hpn : p ≠ w.heap.size := by omega
  have hgn : g ≠ w.heap.size := by omega
  rw [hd] at vx
  simp only [sv] at vx
  have hln := h.len
  generalize H.length = nn at *
  clear h he h1 hn hd hln fx
  obtain ⟨x1, x2, x3⟩ := e
  simp only [] at *
  go_enter Tryz.func143, Tryz.ntmps143
  go_wp2_with fail
  go_ret
  exact ⟨rfl, HP.out _ _⟩
end
end Go.Proofs.YtedfjacmaidhkaaGreat
