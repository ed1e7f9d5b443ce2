/- give: what an order changes. -/
import Derived.Test.YtedfjacmaidhkaaGreatG9
import Derived.Test.YtedfjacmaidhkaaGreatG23
import Derived.Test.YtedfjacmaidhkaaGreatG26
import Derived.Deep.RegionLaw
namespace Go.Proofs.YtedfjacmaidhkaaGreat
open Go.RowKit Go.Maps
set_option linter.unusedVariables false
set_option linter.unusedSimpArgs false
set_option maxRecDepth 100000

theorem Ful.mono {K K' x : Nat} {d : PL} {p : PD} {os : List Or} {w0 w : World} (h : Ful K w0 x d p os w) (hK : K ≤ K') : Ful K' w0 x d p os w := by
  obtain ⟨n1, k1, h1⟩ := h.st
  obtain ⟨n2, k2, h2⟩ := h.ld
  obtain ⟨n3, k3, h3⟩ := h.le
  obtain ⟨n4, k4, h4⟩ := h.nm
  exact ⟨h.bl, h.blk, h.ss, h.rs, h.it, h.os, ⟨n1, by omega, h1⟩, ⟨n2, by omega, h2⟩, ⟨n3, by omega, h3⟩, ⟨n4, by omega, h4⟩, h.ru, h.lo, h.ne⟩
def ldG (f : Int → Int) (o : Or) : Int → Int := if o.kind = 1 then iPut f o.store (f o.store + 1) else if o.kind = 3 then iPut f o.store (f o.store - 1) else f
theorem Tryz.infoOr : (Tryz.prog.info? 32).map (fun i => (i.zero, i.size, i.bytes)) = some (some (.agg #[.int .i64 0, .int .u64 0, .int .i64 0, .int .u64 0, .int .u64 0]), 5, 40) := by kernel_rfl
theorem step_appOr {ops : Array Oper} {o : Oper} {a : Act} {w : World} {K : Act → World → Prop} {Q : Exit → Act → World → Prop} {E : Prop} (hgd : o.guard = none) (s x : Operand)
    (ho : o.op = .call { callee := .builtin .append, args := #[s, x], argTypes := #[27, 27] })
    (B : Nat) (v : Value) (l : List Or) (hs : a.eval s = v) (hown : w.ownsRow B 32 5 v l.length (ors l)) (ad : Addr) (c : Nat) (e : Or) (hx : a.eval x = .slice (some ad) 1 c) (h0 : ∀ (j : Nat) u, (or5 e)[j]? = some u → w.cell? (ad.add j) = some u) (hB : B ≤ w.heap.size) (hlen : l.length + 1 ≤ 1099511627776)
    (hK : ∀ v' w', w'.ownsRow B 32 5 v' (l ++ [e]).length (ors (l ++ [e])) → w.grownBy w' v.ownBlock → (v'.ownBlock = v.ownBlock ∨ v'.ownBlock = some w.heap.size) → K (a.put o.dst v') w') : if Region.wanted o (yielded ops a.tmps) = true then Oper.wp Tryz.prog o a w K Q else E := by
  have hw : Region.wanted o (yielded ops a.tmps) = true := by simp [Region.wanted, hgd]
  rw [if_pos hw]
  obtain ⟨v', w', hr, q2, q3, q4⟩ := run_appW (P := Tryz.prog) w B 27 o.type 32 _ 5 40 Tryz.underlying27 Tryz.infoOr rfl (by decide) v l.length (ors l) hown ad 1 c (ors [e]) (ors_len [e]) (by
    intro j u hu
    exact h0 j u (by simpa [ors] using hu)) (ors_one [e]) (by unfold maxLen; omega) (by omega) hB
  unfold Oper.wp execOp
  simp only [ho, resolve, invoke, builtin, Sem.run_bind, Sem.run_pure, Result.andThen_ok, List.map_toArray, List.map_cons, List.map_nil, hs, hx, hr]
  exact hK v' w' (by rw [ors_app, List.length_append]; exact q2) q3 q4
section
variable {K x : Nat} {d : PL} {p : PD} {os : List Or} {w0 w : World}
/-- The last part of give: the region is named, the order is told. -/
def GivP (K x : Nat) (d : PL) (p : PD) (os : List Or) (w0 : World) (o : Or) (e : Ending) (w' : World) : Prop := (∃ u, e = .returned u) ∧ ∃ y, Ful (K + 2) w0 x { d with ov := y } { p with ld := ldG p.ld o, nm := gPut p.nm o.reg } (os ++ [o]) w'
theorem Ful.app (h : Ful K w0 x d p os w) (o : Or) : (w.alloc (.cells #[.int .i64 o.kind, .int .u64 (o.reg : Int), .int .i64 o.store, .int .u64 (o.peer : Int), .int .u64 (o.other : Int)] 32)).drew.ownsRow w0.heap.size 32 5 (.slice d.ov.1 d.ov.2.1 d.ov.2.2) os.length (ors os) ∧ (∀ (j : Nat) u, (or5 o)[j]? = some u → (w.alloc (.cells #[.int .i64 o.kind, .int .u64 (o.reg : Int), .int .i64 o.store, .int .u64 (o.peer : Int), .int .u64 (o.other : Int)] 32)).drew.cell? ((⟨w.heap.size, 0, none⟩ : Addr).add j) = some u) ∧ w0.heap.size ≤ (w.alloc (.cells #[.int .i64 o.kind, .int .u64 (o.reg : Int), .int .i64 o.store, .int .u64 (o.peer : Int), .int .u64 (o.other : Int)] 32)).drew.heap.size ∧ (∀ w6, (w.alloc (.cells #[.int .i64 o.kind, .int .u64 (o.reg : Int), .int .i64 o.store, .int .u64 (o.peer : Int), .int .u64 (o.other : Int)] 32)).drew.grownBy w6 (sv d.ov).ownBlock → w6.cell? ⟨x, 10, none⟩ = some (.slice d.ov.1 d.ov.2.1 d.ov.2.2) ∧ w6.frozen? ⟨x, 10, none⟩ = false) ∧ (∀ (w6 : World) (y : Option Addr × Nat × Nat), (w.alloc (.cells #[.int .i64 o.kind, .int .u64 (o.reg : Int), .int .i64 o.store, .int .u64 (o.peer : Int), .int .u64 (o.other : Int)] 32)).drew.grownBy w6 (sv d.ov).ownBlock → w6.ownsRow w0.heap.size 32 5 (sv y) (os ++ [o]).length (ors (os ++ [o])) → Ful K w0 x { d with ov := y } p (os ++ [o]) (w6.setCell ⟨x, 10, none⟩ (.slice y.1 y.2.1 y.2.2))) := by
  have hb : Below w.heap.size w (w.alloc (.cells #[.int .i64 o.kind, .int .u64 (o.reg : Int), .int .i64 o.store, .int .u64 (o.peer : Int), .int .u64 (o.other : Int)] 32)).drew := Below.trans (ob_al w _) ((Below.dN _ 1).mono (ob_al w _).size)
  have h1 := h.below hb
  refine ⟨h1.os, fun j u hu => ?_, h1.bl.size, fun w6 hg => ?_, fun w6 y hg hr => h.putOs hb hg hr⟩
  · rw [Addr.add_lit, Nat.zero_add]
    show (w.alloc (.cells #[.int .i64 o.kind, .int .u64 (o.reg : Int), .int .i64 o.store, .int .u64 (o.peer : Int), .int .u64 (o.other : Int)] 32)).cell? ⟨w.heap.size, j, none⟩ = _
    rw [World.cell?_alloc_at _ _ _ _ rfl]
    simpa [or5] using hu
  · have hx : ¬ (sv d.ov).ownBlock = some x := fun q => row_nex h1.os h1.blk (by decide) x q rfl
    have e1 := (hg.block x h1.lt (fun q => hx q.symm)).trans h1.blk
    exact ⟨by rw [cell_of_row _ _ _ _ _ _ e1]; rfl, frozen_of_row _ _ _ _ _ e1⟩
set_option maxHeartbeats 4000000 in
theorem give_oth (o : Or) (h : Ful K w0 x d p os w) (hk : o.kind ≠ 6) (hk1 : o.kind ≠ 1) (hk3 : o.kind ≠ 3) (hso : i64 o.store) (hreg : o.reg < 18446744073709551616) (hld : sm62 p.ld) (hK : K + 2 < 1099511627776) (hos : os.length + 1 ≤ 1099511627776) :
    Calls Tryz.prog 45 #[.pointer (some ⟨x, 0, none⟩), .agg #[.int .i64 o.kind, .int .u64 (o.reg : Int), .int .i64 o.store, .int .u64 (o.peer : Int), .int .u64 (o.other : Int)]] w fun e w' => GivP K x d p os w0 o e w' := by
  have hb0 := ob_al w (.cells #[.int .i64 o.kind, .int .u64 (o.reg : Int), .int .i64 o.store, .int .u64 (o.peer : Int), .int .u64 (o.other : Int)] 32)
  have hk0 := heap_new w (.cells #[.int .i64 o.kind, .int .u64 (o.reg : Int), .int .i64 o.store, .int .u64 (o.peer : Int), .int .u64 (o.other : Int)] 32)
  have h0 := h.below hb0
  clear h
  go_enter Tryz.func45, Tryz.ntmps45
  go_upto_region 1 with fail
  generalize World.alloc w _ = wa at *
  generalize w.heap.size = b3 at *
  have hbox : ∀ W : World, W.heap[b3]? = some (.cells #[.int .i64 o.kind, .int .u64 (o.reg : Int), .int .i64 o.store, .int .u64 (o.peer : Int), .int .u64 (o.other : Int)] 32 (0, 0)) → W.cell? ⟨b3, 0, none⟩ = some (.int .i64 o.kind) ∧ W.cell? ⟨b3, 1, none⟩ = some (.int .u64 (o.reg : Int)) ∧ W.cell? ⟨b3, 2, none⟩ = some (.int .i64 o.store) ∧ W.cell? ⟨b3, 3, none⟩ = some (.int .u64 (o.peer : Int)) ∧ W.cell? ⟨b3, 4, none⟩ = some (.int .u64 (o.other : Int)) := fun W hW => by
    obtain ⟨y0, y1, y2, y3, y4, _⟩ := cells5 hW
    exact ⟨y0, y1, y2, y3, y4⟩
  have HBX : Hid _ := hbox
  obtain ⟨z0, z1, z2, z3, z4⟩ := hbox wa hk0
  clear hbox
  have m9 : wa.cell? ⟨x, 9, none⟩ = some (.map (some d.mn)) := h0.pln.at_ rfl
  obtain ⟨n4, kn4, hg4⟩ := h0.nm
  obtain ⟨w5, hr5, hg5, hc5⟩ := (hg4.below (Below.dN wa 1) (Nat.le_refl _)).put (k := o.reg) hreg (by omega)
  rw [show wa.drewN 1 = wa.drew from rfl] at hr5
  have hF5 := (h0.below (Below.dN wa 1)).putNm ⟨n4 + 1, by omega, hg5⟩ hc5
  have hk5 := (hc5.block b3 (Array.getElem?_eq_some_iff.1 hk0).1 (by obtain ⟨D, hD⟩ := hg4; exact own_nem hD.map hk0)).trans hk0
  have HF5 : Hid _ := hF5
  have HK5 : Hid _ := hk5
  clear hg5 hc5 hF5 hk5 hg4 h0
  go_upto_region 8 with fail
  refine wp_region_head 7 (by kernel_rfl) (by kernel_rfl) ?_
  simp only [List.take_succ_cons, List.take_zero]
  iterate 7 still_step
  refine wpStill_nil ?_
  change wpAny _ _ _ _ 1 _ _ _
  refine wpAny_ready (rs := [7]) (by kernel_rfl) (by simp) ?_
  refine AllReady.cons rfl (fun K8 hK8 => ?_) AllReady.nil
  go_simp
  go_simp
  refine hK8 _ _ ?_
  clear hK8 K8
  refine wpAny_done (by kernel_rfl) ?_ _
  go_simp
  have m10 : w5.cell? ⟨x, 10, none⟩ = some (sv d.ov) := HF5.out.pln.at_ rfl
  obtain ⟨y0, y1, y2, y3, y4⟩ := HBX.out w5 HK5.out
  have m11 : (w5.alloc (.cells #[.int .i64 o.kind, .int .u64 (o.reg : Int), .int .i64 o.store, .int .u64 (o.peer : Int), .int .u64 (o.other : Int)] 32)).cell? ⟨x, 10, none⟩ = some (sv d.ov) := (HF5.out.below (ob_al w5 _)).pln.at_ rfl
  simp only [sv] at m10 m11
  have hla : ldG p.ld o = p.ld := by simp [ldG, hk1, hk3]
  obtain ⟨hrow, hA, hB, hmid, hput⟩ := HF5.out.app o
  have HP : Hid _ := hput
  clear hput HBX hr5 hk0 z0 z1 z2 z3 z4 m9
  go_wp2_with fail
  go_region_law
    ((first
    | (refine step_appOr rfl _ _ rfl w0.heap.size (.slice d.ov.1 d.ov.2.1 d.ov.2.2) os rfl hrow ⟨w5.heap.size, 0, none⟩ 1 o rfl hA hB hos ?_; intro v6 w6 ho6 hg6 hv6; obtain ⟨a6, n6, c6, rfl⟩ := row_shape ho6; obtain ⟨q1, q2⟩ := hmid w6 hg6)
    | fail))
  all_goals go_wp2_with fail
  all_goals go_end0
  all_goals exact ⟨⟨_, rfl⟩, (a6, n6, c6), by rw [hla]; exact (HP.out w6 (a6, n6, c6) hg6 ho6).mono (by omega)⟩
end
end Go.Proofs.YtedfjacmaidhkaaGreat
