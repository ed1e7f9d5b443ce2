/- Peers in memory: 'RdPe w v ps': the slice value v reads as these peers; 'OwPe': a row of the call's own. -/
import Derived.Test.YtnapkomjegbhcaaG3
import Derived.Test.YtnapkomjegbhcaaG2
import Derived.Test.YtnapkomjegbhcaaG1
namespace Go.Proofs.Ytnapkomjegbhcaa
open Go.RowKit
set_option linter.unusedVariables false
set_option maxRecDepth 100000

/-- A peer: its number, its store, whether it only learns. -/
abbrev Pe := UInt64 × Int × Bool
def pc (p : Pe) : List Value := [.int .u64 (p.1.toNat : Int), .int .i64 p.2.1, .bool p.2.2]
def pcs (ps : List Pe) : List Value := ps.flatMap pc
theorem pc_len (p : Pe) : (pc p).length = 3 := rfl
theorem pcs_len (ps : List Pe) : (pcs ps).length = ps.length * 3 := fm_len pc_len ps
theorem pcs_app (a b : List Pe) : pcs (a ++ b) = pcs a ++ pcs b := by simp [pcs]
theorem pcs_one (ps : List Pe) : ∀ u ∈ pcs ps, u.oneCell' = true := by
  intro u hu
  obtain ⟨p, _, h⟩ := List.mem_flatMap.1 hu
  simp only [pc, List.mem_cons, List.not_mem_nil, or_false] at h
  rcases h with rfl | rfl | rfl <;> rfl
/-- At this address a peer lies. -/
structure PeAt (w : World) (a : Addr) (p : Pe) : Prop where
  c0 : w.cell? a = some (.int .u64 (p.1.toNat : Int))
  c1 : w.cell? ⟨a.block, a.off + 1, none⟩ = some (.int .i64 p.2.1)
  c2 : w.cell? ⟨a.block, a.off + 2, none⟩ = some (.bool p.2.2)
theorem PeAt.below {B : Nat} {w w' : World} {a : Addr} {p : Pe} (h : PeAt w a p) (hb : Below B w w') (hB : w.heap.size ≤ B) : PeAt w' a p := by
  have k : ∀ x u, w.cell? x = some u → w'.cell? x = some u := fun x u q => by rw [hb.cell (by have := World.block_lt_of_cell? w _ q; omega)]; exact q
  exact ⟨k _ _ h.c0, k _ _ h.c1, k _ _ h.c2⟩
/-- The slice value v reads as these peers. -/
def RdPe (w : World) (v : Value) (ps : List Pe) : Prop :=
  ∃ ao c, v = .slice ao ps.length c ∧ ps.length ≤ c ∧ c ≤ maxLen ∧ (ao = none → c = 0) ∧ ∀ i p, ps[i]? = some p → ∃ a, ao = some a ∧ PeAt w (a.add (i * 3)) p
theorem RdPe.nil (w : World) : RdPe w (.slice none 0 0) [] := ⟨none, 0, rfl, by simp, by simp, fun _ => rfl, fun i p hi => by simp at hi⟩
theorem RdPe.below {B : Nat} {w w' : World} {v : Value} {ps : List Pe} (h : RdPe w v ps) (hb : Below B w w') (hB : w.heap.size ≤ B) : RdPe w' v ps := by
  obtain ⟨ao, c, h0, h1, h2, h3, h4⟩ := h
  refine ⟨ao, c, h0, h1, h2, h3, fun i p hi => ?_⟩
  obtain ⟨a, e, hc⟩ := h4 i p hi
  exact ⟨a, e, hc.below hb hB⟩
theorem RdPe.shape {w : World} {v : Value} {l : List Pe} (h : RdPe w v l) : ∃ a c, v = .slice a l.length c ∧ l.length ≤ c ∧ c ≤ 9223372036854775807 := by
  obtain ⟨ao, c, e, h1, h2, _⟩ := h; exact ⟨_, _, e, h1, by unfold maxLen at h2; omega⟩
/-- The first peers of a list. -/
theorem RdPe.pre {w : World} {ao : Option Addr} {n c : Nat} {ps : List Pe} (h : RdPe w (.slice ao n c) ps) (j : Nat) (hj : j ≤ ps.length) : RdPe w (.slice ao j c) (ps.take j) := by
  obtain ⟨ao', c', e, h1, h2, h3, h4⟩ := h
  simp only [Value.slice.injEq] at e
  obtain ⟨rfl, rfl, rfl⟩ := e
  have hl : (ps.take j).length = j := by rw [List.length_take]; omega
  refine ⟨ao, c, by rw [hl], by omega, h2, h3, fun i p hi => ?_⟩
  have hi2 := (List.getElem?_eq_some_iff.1 hi).1
  rw [List.getElem?_take, if_pos (by omega)] at hi
  exact h4 i p hi
theorem RdPe.cells {w : World} {a : Addr} {n c : Nat} {ps : List Pe} (h : RdPe w (.slice (some a) n c) ps) : ∀ j u, (pcs ps)[j]? = some u → w.cell? (a.add j) = some u := by
  intro j u hu
  obtain ⟨ao', c', e, h1, h2, h3, h4⟩ := h
  simp only [Value.slice.injEq] at e
  obtain ⟨rfl, rfl, rfl⟩ := e
  obtain ⟨i, r, p, ep, hr, rfl, hp⟩ := fm_inv pc_len (by omega) ps j u hu
  obtain ⟨a', e, hc⟩ := h4 i p ep
  obtain rfl := Option.some.inj e
  match r, hr with
  | 0, _ => simp [pc] at hp; subst hp; exact hc.c0
  | 1, _ => simp [pc] at hp; subst hp; rw [← add_at a (i * 3) 0]; exact hc.c1
  | 2, _ => simp [pc] at hp; subst hp; rw [← add_at a (i * 3) 1]; exact hc.c2

/-- A row of peers of the call's own. -/
def OwPe (B : Nat) (w : World) (v : Value) (ps : List Pe) : Prop := w.ownsRow B 50 3 v ps.length (pcs ps)
theorem OwPe.nil (B : Nat) (w : World) : OwPe B w (.slice none 0 0) [] := World.ownsRow_nil _ _ _ _
theorem OwPe.below {B C : Nat} {w w' : World} {v : Value} {ps : List Pe} (h : OwPe B w v ps) (hb : Below C w w') (hC : w.heap.size ≤ C) : OwPe B w' v ps := ownsRow_belP h hb hC
theorem OwPe.rd {B : Nat} {w : World} {v : Value} {ps : List Pe} (h : OwPe B w v ps) : RdPe w v ps := by
  obtain ⟨a, c, hv, h1, h2, h3, h4⟩ := row_reads h
  refine ⟨a, c, hv, h1, h2, h3, fun i p hi => ?_⟩
  have k : ∀ r u, r < 3 → (pc p)[r]? = some u → ∃ g, a = some ⟨g, 0, none⟩ ∧ w.cell? ⟨g, i * 3 + r, none⟩ = some u := fun r u hr e => h4 _ u (by unfold pcs; rw [fm_at pc_len ps i r p hi hr]; exact e)
  obtain ⟨g, e0, q0⟩ := k 0 _ (by omega) rfl
  obtain ⟨g1, e1, q1⟩ := k 1 _ (by omega) rfl
  obtain ⟨g2, e2, q2⟩ := k 2 _ (by omega) rfl
  rw [e0] at e1 e2
  obtain rfl : g = g1 := by have := Option.some.inj e1; exact congrArg Addr.block this
  obtain rfl : g = g2 := by have := Option.some.inj e2; exact congrArg Addr.block this
  refine ⟨⟨g, 0, none⟩, e0, ?_, ?_, ?_⟩
  · rw [Addr.add_lit, Nat.zero_add]; exact q0
  · rw [Addr.add_lit, Nat.zero_add]; exact q1
  · rw [Addr.add_lit, Nat.zero_add]; exact q2

theorem Try.infoPe : (Try.prog.info? 50).map (fun i => (i.zero, i.size, i.bytes)) = some (some (.agg #[.int .u64 0, .int .i64 0, .bool false]), 3, 24) := by kernel_rfl
theorem run_appPe (w : World) (ty : TypeId) (B : Nat) (v : Value) (l : List Pe) (hown : OwPe B w v l) (vx : Value) (m : List Pe) (hm : RdPe w vx m) (hB : B ≤ w.heap.size) (hlen : l.length + m.length ≤ 1099511627776) :
    ∃ v' w', (Builtin.append_ #[32, 32] ty #[v, vx]).run Try.prog w = .ok v' w' ∧ OwPe B w' v' (l ++ m) ∧ w.grownBy w' v.ownBlock ∧ (v'.ownBlock = v.ownBlock ∨ v'.ownBlock = some w.heap.size) := by
  obtain ⟨i, hi, hz0, hz1, hz2⟩ := info_parts Try.infoPe
  have hm' := hm
  obtain ⟨ao, c, rfl, h1, h2, h3, h4⟩ := hm
  cases ao with
  | none =>
    have hc := h3 rfl
    have hl : m = [] := List.length_eq_zero_iff.1 (by omega)
    subst hl; subst hc
    exact ⟨v, w, run_append_owned_none (P := Try.prog) (w := w) B 32 ty 50 i 3 Try.underlying32 hi v l.length (pcs l) hown, by simpa using hown, World.grownBy.refl _ _, .inl rfl⟩
  | some ad =>
    obtain ⟨v', w', hr, q2, q3, q4⟩ := run_appW (P := Try.prog) w B 32 ty 50 _ 3 24 Try.underlying32 Try.infoPe rfl (by decide) v l.length (pcs l) hown ad m.length c (pcs m) (pcs_len m) hm'.cells (pcs_one m) (by unfold maxLen; omega) (by omega) hB
    exact ⟨v', w', hr, by unfold OwPe; rw [pcs_app, List.length_append]; exact q2, q3, q4⟩
theorem wpList_appPe {w : World} {ops : Array Oper} {rest : List Oper} {o : Oper} {a : Act} {Q : Exit → Act → World → Prop} (hgd : o.guard = none) (s x : Operand)
    (ho : o.op = .call { callee := .builtin .append, args := #[s, x], argTypes := #[32, 32] })
    (B : Nat) (v : Value) (l : List Pe) (hs : a.eval s = v) (hown : OwPe B w v l) (vx : Value) (m : List Pe) (hx : a.eval x = vx) (hm : RdPe w vx m) (hB : B ≤ w.heap.size) (hlen : l.length + m.length ≤ 1099511627776)
    (h : ∀ v' w', OwPe B w' v' (l ++ m) → w.grownBy w' v.ownBlock → (v'.ownBlock = v.ownBlock ∨ v'.ownBlock = some w.heap.size) → wpList Try.prog ops Q rest (a.put o.dst v') w') : wpList Try.prog ops Q (o :: rest) a w := by
  refine wpList_plain hgd fun K hK => ?_
  obtain ⟨v', w', hr, q2, q3, q4⟩ := run_appPe w o.type B v l hown vx m hm hB hlen
  unfold Oper.wp execOp
  simp only [ho, resolve, invoke, builtin, Sem.run_bind, Sem.run_pure, Result.andThen_ok, List.map_toArray, List.map_cons, List.map_nil, hs, hx, hr]
  exact hK _ _ (h v' w' q2 q3 q4)
end Go.Proofs.Ytnapkomjegbhcaa

/- Covers, On's look, rises, numbers. -/
namespace Go.Proofs.Ytnapkomjegbhcaa
open Go.RowKit
set_option linter.unusedVariables false
set_option maxRecDepth 100000

theorem g_al (w : World) (o : Obj) : Below w.heap.size w (w.alloc o) := (Below.refl _ _).alloc (Nat.le_refl _) o
theorem Rd.shp {w : World} {v : Value} {l : List UInt8} (h : Rd w v l) : ∃ a c, v = .slice a l.length c := by
  obtain ⟨a, c, e, _⟩ := h; exact ⟨a, c, e⟩
theorem covers_any {i c r : Int} {sv ev kv : Value} {pa : Option Addr} {pn pk : Nat} {s e k : List UInt8} {w : World} (hs : Rd w sv s) (he : Rd w ev e) (hk : Rd w kv k) :
    Calls Try.prog 15 #[.agg #[.int .u64 i, sv, ev, .int .u64 c, .int .u64 r, .slice pa pn pk], kv] w fun x w' => x = .returned (.bool (cov s e k)) ∧ Below w.heap.size w w' := by
  have q1 := fun o => bcompare_any (hk.alloc o) (hs.alloc o)
  have q2 := fun o => bcompare_any (hk.alloc o) (he.alloc o)
  have hcv : cov s e k = (decide (0 ≤ M.cmpL k s) && (decide (e.length = 0) || decide (M.cmpL k e < 0))) := rfl
  obtain ⟨sa, sc, rfl⟩ := hs.shp
  obtain ⟨ea, ec, rfl⟩ := he.shp
  have hel := he.len
  unfold maxLen at hel
  generalize M.cmpL k s = x1 at *
  generalize M.cmpL k e = x2 at *
  generalize cov s e k = res at *
  generalize s.length = sn at *
  generalize e.length = en at *
  clear hs he hk
  have HC : Hid _ := hcv
  clear hcv
  go_enter Try.func15, Try.ntmps15
  go_wp2_with fail
  refine (q1 _).mono ?_
  rintro x w1 ⟨rfl, rfl⟩
  by_cases h1 : 0 ≤ x1
  · by_cases h2 : en < 1
    · obtain rfl : en = 0 := by omega
      go_wp2_with fail
      go_ret
      exact ⟨by rw [HC.out, decide_eq_true h1]; rfl, g_al _ _⟩
    · have h3 : ¬ (en : Int) = 0 := by omega
      have h4 : ¬ en = 0 := by omega
      have h5 : ((en : Int) == 0) = false := by simp; omega
      go_wp2_with fail
      refine (q2 _).mono ?_
      rintro x w2 ⟨rfl, rfl⟩
      go_wp2_with fail
      go_ret
      exact ⟨by rw [HC.out, decide_eq_true h1, decide_eq_false h4]; rfl, g_al _ _⟩
  · go_wp2_with fail
    go_ret
    exact ⟨by rw [HC.out, decide_eq_false (show ¬ 0 ≤ x1 by omega)]; rfl, g_al _ _⟩
/-- Do the numbers rise, above the last one? -/
def risF : UInt64 → List UInt64 → Bool
  | _, [] => true
  | a, x :: l => decide (a < x) && risF x l
theorem rises_any {v : Value} {l : List UInt64} {w : World} (hr : Ru w v l) :
    Calls Try.prog 31 #[v] w fun x w' => x = .returned (.bool (risF 0 l)) ∧ w' = w := by
  obtain ⟨ao, c, rfl, h1, h2, h3, h4⟩ := hr
  unfold maxLen at h2
  generalize hres : risF 0 l = res
  have HR : Hid (risF 0 (l.drop 0) = res) := hres
  go_enter Try.func31, Try.ntmps31
  go_wp2_with fail
  go_loopw [3, 5, 8] (fun a _ i wr => ∃ (k : Nat) (y : UInt64), k ≤ l.length ∧ a = .int .u64 (y.toNat : Int) ∧ i = .int .i64 k ∧ Hid (risF y (l.drop k) = res) ∧ wr = w) (fun _ _ i _ => l.length - (intOf i).toNat)
  case atStart => exact ⟨0, 0, Nat.zero_le _, rfl, rfl, HR, rfl⟩
  case round =>
    obtain ⟨k, y, hk, rfl, rfl, HX, rfl⟩ := hrel
    clear HR hres
    by_cases hlt : k < l.length
    · obtain ⟨a, rfl, hc⟩ := h4 k hlt
      have HT : Hid (l.drop k = l[k] :: l.drop (k + 1)) := List.drop_eq_getElem_cons hlt
      clear h4 h3
      generalize l[k] = x at *
      by_cases hxy : y < x
      · have hq2 : ¬ x.toNat ≤ y.toNat := by have := UInt64.lt_iff_toNat_lt.1 hxy; omega
        have hq : ¬ ((x.toNat : Int) ≤ (y.toNat : Int)) := by omega
        go_wp2_with fail
        refine ⟨⟨k + 1, x, by omega, rfl, by go_num, ?_, trivial⟩, by simp [intOf]; omega⟩
        have := HX.out
        rw [HT.out] at this
        unfold risF at this
        rw [decide_eq_true hxy, Bool.true_and] at this
        exact this
      · have hq2 : x.toNat ≤ y.toNat := by have : ¬ y.toNat < x.toNat := fun q => hxy (UInt64.lt_iff_toNat_lt.2 q); omega
        have hq : ((x.toNat : Int) ≤ (y.toNat : Int)) := by omega
        go_wp2_with fail
        go_ret
        refine ⟨?_, rfl⟩
        have := HX.out
        rw [HT.out] at this
        unfold risF at this
        rw [decide_eq_false hxy, Bool.false_and] at this
        rw [← this]; rfl
    · obtain rfl : k = l.length := by omega
      have HX2 : Hid (true = res) := by have := HX.out; rw [List.drop_length] at this; exact this
      clear h4 HX
      go_wp2_with fail
      go_ret
      exact ⟨by rw [← HX2.out]; rfl, rfl⟩
theorem greatest_any (x : UInt64) (w : World) : Calls Try.prog 32 #[.int .u64 (x.toNat : Int)] w fun e w' => e = .returned (.bool (decide (x.toNat = 18446744073709551615))) ∧ w' = w := by
  go_enter Try.func32, Try.ntmps32
  go_wp2_with fail
  go_ret
  refine ⟨?_, rfl⟩
  by_cases h : x.toNat = 18446744073709551615
  · simp [h]
  · have : ¬ ((x.toNat : Int) = 18446744073709551615) := by omega
    simp [h, this]
end Go.Proofs.Ytnapkomjegbhcaa

/- numbers; on. -/
namespace Go.Proofs.Ytnapkomjegbhcaa
open Go.RowKit
set_option linter.unusedVariables false
set_option maxRecDepth 100000

set_option maxHeartbeats 1000000 in
theorem numbers_any {v : Value} {ps : List Pe} {w : World} (hr : RdPe w v ps) (hl : ps.length ≤ 1099511627776) :
    Calls Try.prog 54 #[v] w fun x w' => ∃ v', x = .returned v' ∧ Ou w.heap.size w' v' (ps.map (·.1)) ∧ Below w.heap.size w w' := by
  have HR : Hid (RdPe w v ps) := hr
  obtain ⟨ao, c, rfl, h1, h2, h3, h4⟩ := hr
  unfold maxLen at h2
  clear h4
  go_enter Try.func54, Try.ntmps54
  go_wp2_with fail
  go_loopw [3, 5, 8] (fun u _ i wr => ∃ k : Nat, k ≤ ps.length ∧ i = .int .i64 k ∧ Ou w.heap.size wr u ((ps.take k).map (·.1)) ∧ Below w.heap.size w wr) (fun _ _ i _ => ps.length - (intOf i).toNat)
  case atStart => exact ⟨0, Nat.zero_le _, rfl, Ou.nil _ _, Below.refl _ _⟩
  case round =>
    obtain ⟨k, hk, rfl, ho, hb⟩ := hrel
    by_cases hlt : k < ps.length
    · have HT : Hid ((ps.take (k + 1)).map (·.1) = (ps.take k).map (·.1) ++ [(ps[k]).1]) := by
        show _ = _
        rw [List.take_succ_eq_append_getElem hlt, List.map_append]; rfl
      obtain ⟨ao', c', e, _, _, _, h4⟩ := HR.out.below hb (Nat.le_refl _)
      simp only [Value.slice.injEq, true_and] at e
      obtain ⟨rfl, rfl⟩ := e
      obtain ⟨a, rfl, hc⟩ := h4 k _ (List.getElem?_eq_getElem hlt)
      clear h4
      obtain ⟨c0, c1, c2⟩ := hc
      have hlen : ((ps.take k).map (·.1)).length + 1 ≤ 10995116277760 := by simp; omega
      generalize (ps.take k).map (·.1) = L at *
      generalize ps[k] = p at *
      obtain ⟨p0, p1, p2⟩ := p
      simp only [] at c0 c1 c2 HT
      go_wp2_with (first | (at_builtin; refine wpList_appU rfl _ _ rfl w.heap.size _ L rfl ((ho.below (g_al _ _) (Nat.le_refl _)).below (g_al _ _) (Nat.le_refl _)) _ [p0] rfl (ru_one _ _ _ rfl _ _ (by simp)) (by have := hb.size; simp; omega) hlen ?_; intro v4 w4 ho4 hg4 hw4) | fail)
      refine ⟨⟨k + 1, by omega, by go_num, by rw [HT.out]; exact ho4, ?_⟩, by simp [intOf]; omega⟩
      have hx : Below w.heap.size w ((wr.alloc (.cells #[.int .u64 (p0.toNat : Int), .int .i64 p1, .bool p2] 50)).alloc (.cells #[.int .u64 (p0.toNat : Int)] 28)) := (hb.alloc hb.size _).alloc (by have := hb.size; simp; omega) _
      exact hx.grown hg4 (by have := hb.size; simp; omega) (fun j e => (World.ownsRow.lt ho j e).1)
    · obtain rfl : k = ps.length := by omega
      rw [List.take_length] at ho
      go_wp2_with fail
      go_ret
      exact ⟨_, rfl, ho, hb⟩
end Go.Proofs.Ytnapkomjegbhcaa

/- Blocks of three and of six cells. -/
namespace Go.Proofs.Ytnapkomjegbhcaa
open Go.RowKit
set_option linter.unusedVariables false
set_option maxRecDepth 100000

theorem set3_block {w : World} {g : Nat} {u0 u1 u2 : Value} {t : TypeId} (h : w.heap[g]? = some (.cells #[u0, u1, u2] t (0, 0))) (v0 v1 v2 : Value) : (((w.setCell ⟨g, 0, none⟩ v0).setCell ⟨g, 1, none⟩ v1).setCell ⟨g, 2, none⟩ v2).heap[g]? = some (.cells #[v0, v1, v2] t (0, 0)) := by
  have h0 := heap_setCell_same w g 0 _ _ v0 h
  have h1 := heap_setCell_same _ g 1 _ _ v1 h0
  have h2 := heap_setCell_same _ g 2 _ _ v2 h1
  rw [h2]
  rfl
theorem set3_chg (w : World) (g : Nat) (v0 v1 v2 : Value) : Chg (fun b => b = g) w (((w.setCell ⟨g, 0, none⟩ v0).setCell ⟨g, 1, none⟩ v1).setCell ⟨g, 2, none⟩ v2) :=
  (((Chg.refl (fun b => b = g) w).put g 0 v0 rfl).put g 1 v1 rfl).put g 2 v2 rfl
theorem cells3 {w : World} {g : Nat} {u0 u1 u2 : Value} {t : TypeId} (h : w.heap[g]? = some (.cells #[u0, u1, u2] t (0, 0))) : w.cell? ⟨g, 0, none⟩ = some u0 ∧ w.cell? ⟨g, 1, none⟩ = some u1 ∧ w.cell? ⟨g, 2, none⟩ = some u2 ∧ ∀ i, w.frozen? ⟨g, i, none⟩ = false :=
  ⟨by rw [cell_of_row _ _ _ _ _ _ h]; rfl, by rw [cell_of_row _ _ _ _ _ _ h]; rfl, by rw [cell_of_row _ _ _ _ _ _ h]; rfl, fun i => frozen_of_row _ _ _ _ _ h⟩
theorem set6_block {w : World} {g : Nat} {u0 u1 u2 u3 u4 u5 : Value} {t : TypeId} (h : w.heap[g]? = some (.cells #[u0, u1, u2, u3, u4, u5] t (0, 0))) (v0 v1 v2 v3 v4 v5 : Value) : ((((((w.setCell ⟨g, 0, none⟩ v0).setCell ⟨g, 1, none⟩ v1).setCell ⟨g, 2, none⟩ v2).setCell ⟨g, 3, none⟩ v3).setCell ⟨g, 4, none⟩ v4).setCell ⟨g, 5, none⟩ v5).heap[g]? = some (.cells #[v0, v1, v2, v3, v4, v5] t (0, 0)) := by
  have h0 := heap_setCell_same w g 0 _ _ v0 h
  have h1 := heap_setCell_same _ g 1 _ _ v1 h0
  have h2 := heap_setCell_same _ g 2 _ _ v2 h1
  have h3 := heap_setCell_same _ g 3 _ _ v3 h2
  have h4 := heap_setCell_same _ g 4 _ _ v4 h3
  have h5 := heap_setCell_same _ g 5 _ _ v5 h4
  rw [h5]
  rfl
theorem set6_chg (w : World) (g : Nat) (v0 v1 v2 v3 v4 v5 : Value) : Chg (fun b => b = g) w ((((((w.setCell ⟨g, 0, none⟩ v0).setCell ⟨g, 1, none⟩ v1).setCell ⟨g, 2, none⟩ v2).setCell ⟨g, 3, none⟩ v3).setCell ⟨g, 4, none⟩ v4).setCell ⟨g, 5, none⟩ v5) :=
  ((((((Chg.refl (fun b => b = g) w).put g 0 v0 rfl).put g 1 v1 rfl).put g 2 v2 rfl).put g 3 v3 rfl).put g 4 v4 rfl).put g 5 v5 rfl
theorem cells6 {w : World} {g : Nat} {u0 u1 u2 u3 u4 u5 : Value} {t : TypeId} (h : w.heap[g]? = some (.cells #[u0, u1, u2, u3, u4, u5] t (0, 0))) : w.cell? ⟨g, 0, none⟩ = some u0 ∧ w.cell? ⟨g, 1, none⟩ = some u1 ∧ w.cell? ⟨g, 2, none⟩ = some u2 ∧ w.cell? ⟨g, 3, none⟩ = some u3 ∧ w.cell? ⟨g, 4, none⟩ = some u4 ∧ w.cell? ⟨g, 5, none⟩ = some u5 ∧ ∀ i, w.frozen? ⟨g, i, none⟩ = false :=
  ⟨by rw [cell_of_row _ _ _ _ _ _ h]; rfl, by rw [cell_of_row _ _ _ _ _ _ h]; rfl, by rw [cell_of_row _ _ _ _ _ _ h]; rfl, by rw [cell_of_row _ _ _ _ _ _ h]; rfl, by rw [cell_of_row _ _ _ _ _ _ h]; rfl, by rw [cell_of_row _ _ _ _ _ _ h]; rfl, fun i => frozen_of_row _ _ _ _ _ h⟩
end Go.Proofs.Ytnapkomjegbhcaa
