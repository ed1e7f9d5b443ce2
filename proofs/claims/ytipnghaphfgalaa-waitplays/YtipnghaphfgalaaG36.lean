/- slices.Delete of one edge; Stop. -/
import Derived.Test.YtipnghaphfgalaaG35
namespace Go.Proofs.Ytipnghaphfgalaa
open Go.RowKit
set_option linter.unusedVariables false
set_option maxRecDepth 100000

theorem OwE.pre {w : World} {B g n c : Nat} {E : List Ed} (h : OwE B w (.slice (some ⟨g, 0, none⟩) n c) E) (k : Nat) (hk : k ≤ E.length) : OwE B w (.slice (some ⟨g, 0, none⟩) k c) (E.take k) := by
  have hl : (E.take k).length = k := by rw [List.length_take]; omega
  refine ⟨ecs_len _, ?_⟩
  rcases h.2 with ⟨q, q0⟩ | ⟨g', cap, cur, q, hB, hg, q1, q2, q3, q4⟩
  · cases q
  · simp only [Value.slice.injEq, Option.some.injEq, Addr.mk.injEq, and_true] at q
    obtain ⟨rfl, rfl, rfl⟩ := q
    refine .inr ⟨g, c, cur, by rw [hl], hB, hg, by omega, q2, q3, ?_⟩
    rw [hl, ← ecs_take, ← q4, List.take_take]
    congr 1
    omega
theorem run_appRoomE (w : World) (ty : TypeId) {B g c : Nat} (P : List Ed) {n : Nat} (hn : n = P.length) (hown : OwE B w (.slice (some ⟨g, 0, none⟩) n c) P) {ad : Addr} {m cx : Nat} {Q : List Ed} (hm : RdE w (.slice (some ad) m cx) Q) (hroom : P.length + Q.length ≤ c) (hB : B ≤ w.heap.size) (hl : P.length + Q.length ≤ 1099511627776) :
    ∃ w', (Builtin.append_ #[22, 22] ty #[.slice (some ⟨g, 0, none⟩) n c, .slice (some ad) m cx]).run Try.prog w = .ok (.slice (some ⟨g, 0, none⟩) (n + m) c) w' ∧ OwE B w' (.slice (some ⟨g, 0, none⟩) (n + m) c) (P ++ Q) ∧ w.grownBy w' (some g) := by
  subst hn
  obtain ⟨i, hi, hz0, hz1, hz2⟩ := info_parts Try.infoEd
  obtain ⟨v', w', hr, q2, q3, q4⟩ := run_appE w ty B _ P hown _ Q hm hB hl
  have hm' := hm
  obtain ⟨ao, c', e, h0, h1, h3, h4⟩ := hm
  simp only [Value.slice.injEq] at e
  obtain ⟨rfl, rfl, rfl⟩ := e
  rcases hown.2 with ⟨q, q0⟩ | ⟨g', cap, cur, q, hB', hg, p1, p2, p3, p4⟩
  · cases q
  simp only [Value.slice.injEq, Option.some.injEq, Addr.mk.injEq, and_true, true_and] at q
  obtain ⟨rfl, rfl⟩ := q
  have hr2 := run_append_room (P := Try.prog) w 22 ty 31 i Try.underlying22 hi g P.length c cur hg ad Q.length cx (ecs Q) (by rw [hz1]; exact ecs_len Q) hm'.cells (ecs_one Q) hroom (by rw [hz1, ecs_len, p3, ← Nat.add_mul]; exact Nat.mul_le_mul_right _ hroom)
  rw [hr] at hr2
  simp only [Result.ok.injEq] at hr2
  obtain ⟨rfl, _⟩ := hr2
  exact ⟨w', hr, q2, q3⟩
theorem step_appRoomE {ops : Array Oper} {o : Oper} {a : Act} {w : World} {K : Act → World → Prop} {Q : Exit → Act → World → Prop} {E : Prop} (hgd : o.guard = none) (s x : Operand)
    (ho : o.op = .call { callee := .builtin .append, args := #[s, x], argTypes := #[22, 22] })
    {B g c n nm : Nat} (l : List Ed) (hn : n = l.length) (hs : a.eval s = .slice (some ⟨g, 0, none⟩) n c) (hown : OwE B w (.slice (some ⟨g, 0, none⟩) n c) l) {ad : Addr} {m cx : Nat} (q : List Ed) (hx : a.eval x = .slice (some ad) m cx) (hm : RdE w (.slice (some ad) m cx) q) (hroom : l.length + q.length ≤ c) (hB : B ≤ w.heap.size) (hlen : l.length + q.length ≤ 1099511627776) (hnm : n + m = nm)
    (hK : ∀ w', OwE B w' (.slice (some ⟨g, 0, none⟩) nm c) (l ++ q) → w.grownBy w' (some g) → K (a.put o.dst (.slice (some ⟨g, 0, none⟩) nm c)) w') : if Region.wanted o (yielded ops a.tmps) = true then Oper.wp Try.prog o a w K Q else E := by
  have hw : Region.wanted o (yielded ops a.tmps) = true := by simp [Region.wanted, hgd]
  rw [if_pos hw]
  subst hnm
  obtain ⟨w', hr, q2, q3⟩ := run_appRoomE w o.type l hn hown hm hroom hB hlen
  unfold Oper.wp execOp
  simp only [ho, resolve, invoke, builtin, Sem.run_bind, Sem.run_pure, Result.andThen_ok, List.map_toArray, List.map_cons, List.map_nil, hs, hx, hr]
  exact hK w' q2 q3
/-- m edges are cleared. -/
theorem run_clearE (w : World) (ty : TypeId) (g o m c : Nat) (hc : ∀ j, j < m * 2 → (w.cell? ⟨g, o + j, none⟩).isSome = true) (hf : ∀ j, w.frozen? ⟨g, j, none⟩ = false) :
    ∃ vs : List Value, vs.length = m * 2 ∧ (Builtin.clear_ #[22] ty #[.slice (some ⟨g, o, none⟩) m c]).run Try.prog w = .ok (.tuple #[]) (w.setCells g o vs) := by
  have hone : ∀ u ∈ (Builtin.zeroCells #[.int .u64 0, .int .u64 0] m).toList, u.oneCell' = true := fun u hu => by
    unfold Builtin.zeroCells at hu
    rw [Array.toList_map, List.mem_map] at hu
    obtain ⟨k, _, rfl⟩ := hu
    show ((#[Value.int .u64 0, Value.int .u64 0] : Array Value)[k % 2]!).oneCell' = true
    rcases Nat.mod_two_eq_zero_or_one k with q | q <;> rw [q] <;> rfl
  have hlen : (Builtin.zeroCells #[.int .u64 0, .int .u64 0] m).toList.length = m * 2 := by rw [Array.length_toList, size_zeroCells]; rfl
  have hst := run_storeCells_cells (P := Try.prog) g o (Builtin.zeroCells #[.int .u64 0, .int .u64 0] m).toList 0 w (by rw [hlen]; simpa using hc) (by simpa using fun j _ => hf _) hone
  simp only [Nat.add_zero] at hst
  have hz : (zeroValue 31).run Try.prog w = .ok (.agg #[.int .u64 0, .int .u64 0]) w := by kernel_rfl
  refine ⟨_, hlen, ?_⟩
  cases m with
  | zero =>
    have e : (Builtin.zeroCells #[.int .u64 0, .int .u64 0] 0).toList = [] := by unfold Builtin.zeroCells; simp
    rw [e]
    simp [Builtin.clear_, run_underlying Try.underlying22, World.setCells]
  | succ m => simp [Builtin.clear_, run_underlying Try.underlying22, Value.cells, hst, Result.andThen, hz]
theorem OwE.behind {w : World} {B g n c : Nat} {E : List Ed} (h : OwE B w (.slice (some ⟨g, 0, none⟩) n c) E) (o : Nat) (ho : E.length * 2 ≤ o) (vs : List Value) : OwE B (w.setCells g o vs) (.slice (some ⟨g, 0, none⟩) n c) E := by
  induction vs generalizing w o with
  | nil => exact h
  | cons v r ih =>
    refine ih (w := w.setCell ⟨g, o, none⟩ v) ?_ (o + 1) (by omega)
    have := row_put h (g := g) rfl o v
    rwa [List.set_eq_of_length_le (by rw [ecs_len]; exact ho)] at this

set_option maxHeartbeats 2000000 in
theorem deleteE_any {w : World} {B g c n n1 k k1 : Nat} {P : List Ed} (h : OwE B w (.slice (some ⟨g, 0, none⟩) n c) P) (hn : P.length = n) (hl : n ≤ 1048576) (hk : k < n) (hk1 : k1 = k + 1) (hn1 : n = n1 + 1) :
    Calls Try.prog 25 #[.slice (some ⟨g, 0, none⟩) n c, .int .i64 (k : Int), .int .i64 (k1 : Int)] w fun e w' => e = .returned (.slice (some ⟨g, 0, none⟩) n1 c) ∧ OwE B w' (.slice (some ⟨g, 0, none⟩) n1 c) (P.take k ++ P.drop k1) ∧ Chg (fun b => b = g) w w' := by
  have hc : n ≤ c ∧ c ≤ 9223372036854775807 := by
    obtain ⟨a, c', e, e1, e2⟩ := h.rd.shape
    simp only [Value.slice.injEq] at e
    obtain ⟨_, _, rfl⟩ := e
    omega
  have hBw := h.lt g rfl
  have hpre := h.pre k (by omega)
  have hpost : ∃ off, (c = k1 → off = 0) ∧ (¬ c = k1 → off = k1 * 2) ∧ RdE w (.slice (some ⟨g, off, none⟩) (n - k1) (c - k1)) (P.drop k1) := by
    have hh := RdE.piece h.rd k1 n (by omega) (by omega)
    rw [List.take_of_length_le (by omega)] at hh
    by_cases q : c = k1
    · exact ⟨0, fun _ => rfl, fun q2 => absurd q q2, hh _ ⟨fun _ => rfl, fun q2 => absurd q q2⟩⟩
    · refine ⟨k1 * 2, fun q2 => absurd q2 q, fun _ => rfl, hh _ ⟨fun q2 => absurd q2 q, fun _ => ?_⟩⟩
      simp [Addr.add]
      omega
  have hl1 : (P.take k).length = k := by rw [List.length_take]; omega
  have hl2 : (P.drop k1).length = n - k1 := by rw [List.length_drop]; omega
  obtain ⟨m, hm⟩ : ∃ m, n - k1 = m := ⟨_, rfl⟩
  rw [hm] at hpost hl2
  have hkm : k + m = n1 := by omega
  have hroom : (P.take k).length + (P.drop k1).length ≤ c := by omega
  have hlen : (P.take k).length + (P.drop k1).length ≤ 1099511627776 := by omega
  have hne : ((k : Int) == (k1 : Int)) = false := by rw [beq_eq_false_iff_ne]; omega
  have hone : n - n1 = 1 := by omega
  have hi1 : k ≤ k1 := by omega
  have hi2 : k1 ≤ n := by omega
  have hi3 : n1 ≤ n := by omega
  have hi4 : n1 < c := by omega
  have hi5 : k ≤ c := by omega
  have hi6 : k1 ≤ c := by omega
  have hi7 : n ≤ c := hc.1
  have hi8 : c ≤ 9223372036854775807 := hc.2
  have hcell : ∀ W : World, OwE B W (.slice (some ⟨g, 0, none⟩) n1 c) (P.take k ++ P.drop k1) → (∀ j, j < 1 * 2 → (W.cell? ⟨g, n1 * 2 + j, none⟩).isSome = true) ∧ ∀ j, W.frozen? ⟨g, j, none⟩ = false := fun W hW => by
    rcases hW.blk with ⟨q, _⟩ | ⟨g', c', eq, _, _, _, _, _, p6, p7, _⟩
    · cases q
    simp only [Value.slice.injEq, Option.some.injEq, Addr.mk.injEq, and_true] at eq
    obtain ⟨rfl, _, rfl⟩ := eq
    exact ⟨fun j hj => p6 _ (by omega), p7⟩
  have hd0 : Chg (fun b => b = g) w w.drew := ⟨rfl, rfl, rfl, Nat.le_refl _, fun _ _ _ => rfl⟩
  have hend : ∀ (W : World) (vs : List Value), w.drew.grownBy W (some g) → OwE B W (.slice (some ⟨g, 0, none⟩) n1 c) (P.take k ++ P.drop k1) → OwE B (W.setCells g (n1 * 2) vs) (.slice (some ⟨g, 0, none⟩) n1 c) (P.take k ++ P.drop k1) ∧ Chg (fun b => b = g) w (W.setCells g (n1 * 2) vs) := fun W vs hg hW =>
    ⟨hW.behind _ (by rw [List.length_append]; omega) _, (hd0.trans ((Chg.of_grown (S := fun b => b = g) hg (fun b e _ => (Option.some.inj e).symm)).mono (fun b _ q => .inl q))).trans ((chg_setCellsE g _ _ W).mono (fun b _ q => .inl q))⟩
  have H : Hid _ := And.intro hcell hend
  clear hcell hend h hn hk1 hn1
  obtain ⟨off, ho1, ho2, hpost⟩ := hpost
  have hBl : B ≤ w.heap.size := by omega
  have hlk : k = (P.take k).length := hl1.symm
  have HL : Hid _ := hlk
  have HK : Hid _ := hkm
  clear hl1 hl2 hlk hkm
  by_cases hck : c = k1
  · obtain rfl := ho1 hck
    subst hck
    clear ho1 ho2
    rw [Nat.sub_self] at hpost
    have hpre' : OwE B w.drew (.slice (some ⟨g, 0, none⟩) k c) (P.take k) := hpre.below (Below.dN w 1) (Nat.le_refl _)
    have hpost' := hpost.below (Below.dN w 1) (Nat.le_refl _)
    rw [show w.drewN 1 = w.drew from rfl] at hpost'
    have hBl' : B ≤ w.drew.heap.size := hBl
    clear hpre hpost
    go_enter Try.func25, Try.ntmps25
    go_wp2_with fail
    go_region_held3 (fun w' => True) (trivial) (first
      | (refine step_appRoomE rfl _ _ rfl (P.take k) HL.out rfl hpre' (P.drop c) rfl hpost' hroom hBl' hlen HK.out ?_; intro w5 ho5 hg5)
      | fail)
    obtain ⟨qa, qb⟩ := H.out.1 w5 ho5
    obtain ⟨vs, -, hclr⟩ := run_clearE w5 0 g (n1 * 2) 1 (c - n1) qa qb
    have hi9 : ¬ c = n1 := by omega
    have HE : Hid _ := H.out.2 w5 vs hg5 ho5
    clear qa qb
    go_wp2_with fail
    go_ret
    exact ⟨rfl, HE.out⟩
  · obtain rfl := ho2 hck
    clear ho1 ho2
    have hpre' : OwE B w.drew (.slice (some ⟨g, 0, none⟩) k c) (P.take k) := hpre.below (Below.dN w 1) (Nat.le_refl _)
    have hpost' := hpost.below (Below.dN w 1) (Nat.le_refl _)
    rw [show w.drewN 1 = w.drew from rfl] at hpost'
    have hBl' : B ≤ w.drew.heap.size := hBl
    clear hpre hpost
    go_enter Try.func25, Try.ntmps25
    go_wp2_with fail
    go_region_held3 (fun w' => True) (trivial) (first
      | (refine step_appRoomE rfl _ _ rfl (P.take k) HL.out rfl hpre' (P.drop k1) rfl hpost' hroom hBl' hlen HK.out ?_; intro w5 ho5 hg5)
      | fail)
    obtain ⟨qa, qb⟩ := H.out.1 w5 ho5
    obtain ⟨vs, -, hclr⟩ := run_clearE w5 0 g (n1 * 2) 1 (c - n1) qa qb
    have hi9 : ¬ c = n1 := by omega
    have HE : Hid _ := H.out.2 w5 vs hg5 ho5
    clear qa qb
    go_wp2_with fail
    go_ret
    exact ⟨rfl, HE.out⟩
end Go.Proofs.Ytipnghaphfgalaa
