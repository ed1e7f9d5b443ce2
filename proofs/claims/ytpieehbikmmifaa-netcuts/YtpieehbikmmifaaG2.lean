/- Heal and New of a net. -/
import Derived.Test.YtpieehbikmmifaaG1
import Derived.ArgAppend
import Derived.ProofKit
import Derived.OpenShut
import Derived.ChangeOld
import Derived.SizedLaws
import Derived.JoinedCond
import Derived.SliceStrings
namespace Go.Proofs.Ytpieehbikmmifaa
open Go.RowKit Go.Maps Go.ChangeMaps Go.WideMaps
set_option linter.unusedVariables false
set_option maxRecDepth 100000

section
variable {B x A last m n : Nat} {uv : Value} {P : List (Pk × Value)} {D : DataW Unit} {M : List Pk} {C : Ct} {S : Nat → Prop} {w w' : World}

/-- Nobody is cut off. -/
def noC : Ct := fun _ _ => false
theorem NtI.clr (h : NtI B x A last uv P m n D C S w) (ty : TypeId) : ∃ w2, (Builtin.clear_ #[59] ty #[.map (some m)]).run Try.prog w = .ok (.tuple #[]) w2 ∧ (∃ D', NtI B x A last uv P m n D' noC S w2) ∧ Chg (fun b => b = m) w w2 := by
  obtain ⟨es, clock, hb, F, hs, hD⟩ := h.map
  have hc : Chg (fun b => b = m) w (setBlock w m (.map #[] clock)) := ⟨rfl, rfl, rfl, by simp [setBlock], fun b _ hne => heap_setBlock_other hb _ hne⟩
  refine ⟨setBlock w m (.map #[] clock), ?_, ⟨.map [], h.turnMap ⟨#[], clock, heap_setBlock_same hb _, ⟨by simp, MapKept.stamped_empty clock, by simp⟩, by simp, rfl⟩ hc (fun a b _ _ => rfl)⟩, hc⟩
  simp [Builtin.clear_, run_underlying Try.underlying59, MapKept.run_getObj_map hb, MapKept.run_setObj_map _ hb, Result.andThen, setBlock]
theorem heal_any (h : Nt B x A last n S M C w) : Calls Try.prog 22 #[.pointer (some ⟨x, 0, none⟩)] w fun e w' => (∃ v, e = .returned v) ∧ Nt B x A last n S M noC w' ∧ Chg S w w' := by
  obtain ⟨uv, P, m, D, rfl, h⟩ := h
  obtain ⟨c0, c1, c2, c3, cz⟩ := h.cells
  obtain ⟨w2, hr, ⟨D2, hI2⟩, hc2⟩ := h.clr 0
  go_enter Try.func22, Try.ntmps22
  go_wp2_with fail
  go_end0
  exact ⟨⟨_, rfl⟩, ⟨_, _, _, _, rfl, hI2⟩, h.chgM hc2⟩
theorem new2_block (w : World) (o : Obj) : ((w.alloc (.map #[] 0)).alloc o).heap[w.heap.size + 1]? = some o := by
  show ((w.heap.push _).push _)[_]? = _
  rw [Array.getElem?_push]
  simp
theorem netNew_no (a : Int) (ha : ¬ (1 ≤ a ∧ a ≤ 64)) (w : World) : Calls Try.prog 8 #[.int .i64 a] w fun e w' => e = .returned (.tuple #[.pointer none, .int .i64 1]) ∧ w' = w := by
  by_cases h1 : a < 1
  · go_enter Try.func8, Try.ntmps8
    go_wp2_with fail
    go_ret2
    exact ⟨rfl, rfl⟩
  · have h2 : 64 < a := by omega
    go_enter Try.func8, Try.ntmps8
    go_wp2_with fail
    go_ret2
    exact ⟨rfl, rfl⟩
theorem netNew_ok (A : Nat) (h1 : 1 ≤ A) (h2 : A ≤ 64) (w : World) : Calls Try.prog 8 #[.int .i64 (A : Int)] w fun e w' => ∃ x, e = .returned (.tuple #[.pointer (some ⟨x, 0, none⟩), .int .i64 0]) ∧ Nt w.heap.size x A 0 0 (fun b => w.heap.size ≤ b ∧ b < w'.heap.size) [] noC w' ∧ Below w.heap.size w w' := by
  have hmk := fun w => run_makeMap (P := Try.prog) 59 w
  go_enter Try.func8, Try.ntmps8
  go_wp2_with fail
  go_ret2
  refine ⟨w.heap.size + 1, rfl, ⟨.slice none 0 0, [], w.heap.size, .map [], rfl, new2_block w _, World.ownsRow_nil _ _ _ _, (fun p hp => by cases hp), (World.ownsMap_made w _ _ _).alloc _, (fun a b _ _ => rfl), by simp, ⟨Nat.le_refl _, by simp; omega⟩, by omega, (fun b hb => by cases hb), (fun p hp => by cases hp), fun b q => q⟩, ((Below.refl w.heap.size w).alloc (Nat.le_refl _) _).alloc (by simp) _⟩
end
end Go.Proofs.Ytpieehbikmmifaa

/- Send and Copy of a net. -/
namespace Go.Proofs.Ytpieehbikmmifaa
open Go.RowKit Go.Maps
set_option linter.unusedVariables false
set_option maxRecDepth 100000

theorem nclone_any {v : Value} {l : List UInt8} {w : World} (hr : Rd w v l) (hl : l.length ≤ 140737488355328) :
    Calls Try.prog 35 #[v] w fun e w' => ∃ v', e = .returned v' ∧ Ow w.heap.size w' v' l ∧ Below w.heap.size w w' := by
  have q : ∀ (w : World) (a : Option Addr) (n c n' c' : Nat), (binOp .eql 33 (.slice a n c) (.slice none n' c')).run Try.prog w = .ok (.bool a.isNone) w := fun w a n c n' c' => Lib.run_eql_slice_nil w _ _ a n c n' c' Try.underlying33
  rcases hr.two with ⟨rfl, rfl⟩ | ⟨a, c, hv, h1, h2, h3⟩
  · go_enter Try.func35, Try.ntmps35
    go_wp2
    go_ret
    exact ⟨_, rfl, Ow.nil _ _, Below.refl _ _⟩
  · subst hv
    go_enter Try.func35, Try.ntmps35
    go_wp2_with (first | (at_builtin; refine wpList_app rfl _ _ rfl w.heap.size _ [] rfl (Ow.lit0 _ _ (Nat.le_refl _)) _ l rfl (hr.alloc _) (by simp) (by simpa using hl) ?_; intro v' w' ho' hb' hg') | fail)
    go_ret
    exact ⟨_, rfl, ho', ((Below.refl _ _).alloc (Nat.le_refl _) _).trans hb'⟩


section
variable {B x A last n : Nat} {M : List Pk} {C : Ct} {S : Nat → Prop} {w w' : World}

theorem send_no (h : Nt B x A last n S M C w) (a b : Int) (v : Value) (hab : (isAct A a && isAct A b) = false) : Calls Try.prog 14 #[.pointer (some ⟨x, 0, none⟩), .int .i64 a, .int .i64 b, v] w fun e w' => e = .returned (.tuple #[.int .i64 0, .int .i64 1]) ∧ w' = w := by
  have h1 := isActor_any h a
  have h2 := isActor_any h b
  generalize isAct A a = p at *
  generalize isAct A b = q at *
  cases p with
  | false =>
    go_enter Try.func14, Try.ntmps14
    go_wp2_with fail
    refine h1.mono ?_
    rintro e w1 ⟨rfl, rfl⟩
    go_wp2_with fail
    go_ret2
    exact ⟨rfl, rfl⟩
  | true =>
    cases q with
    | true => cases hab
    | false =>
      go_enter Try.func14, Try.ntmps14
      go_wp2_with fail
      refine h1.mono ?_
      rintro e w1 ⟨rfl, rfl⟩
      go_wp2_with fail
      refine h2.mono ?_
      rintro e w2 ⟨rfl, rfl⟩
      go_wp2_with fail
      go_ret2
      exact ⟨rfl, rfl⟩
theorem send_full (h : Nt B x A last n S M C w) (a b : Int) (v : Value) (hab : (isAct A a && isAct A b) = true) (hf : 256 ≤ M.length) : Calls Try.prog 14 #[.pointer (some ⟨x, 0, none⟩), .int .i64 a, .int .i64 b, v] w fun e w' => e = .returned (.tuple #[.int .i64 0, .int .i64 2]) ∧ w' = w := by
  have h1 := isActor_any h a
  have h2 := isActor_any h b
  have h3 := full_any h
  rw [decide_eq_true hf] at h3
  rw [Bool.and_eq_true] at hab
  rw [hab.1] at h1
  rw [hab.2] at h2
  go_enter Try.func14, Try.ntmps14
  go_wp2_with fail
  refine h1.mono ?_
  rintro e w1 ⟨rfl, rfl⟩
  go_wp2_with fail
  refine h2.mono ?_
  rintro e w2 ⟨rfl, rfl⟩
  go_wp2_with fail
  refine h3.mono ?_
  rintro e w3 ⟨rfl, rfl⟩
  go_wp2_with fail
  go_ret2
  exact ⟨rfl, rfl⟩
theorem send_ok (h : Nt B x A last n S M C w) (a b : Nat) (hab : (isAct A (a : Int) && isAct A (b : Int)) = true) (hf : M.length < 256) (hlast : last ≤ 1099511627776) {v : Value} {l : List UInt8} (hr : Rd w v l) (hl : l.length ≤ 1099511627776) :
    Calls Try.prog 14 #[.pointer (some ⟨x, 0, none⟩), .int .i64 (a : Int), .int .i64 (b : Int), v] w fun e w' => e = .returned (.tuple #[.int .i64 ((last + 1 : Nat) : Int), .int .i64 0]) ∧ (∃ S', Nt B x A (last + 1) n S' (M ++ [(last + 1, a, b, l)]) C w' ∧ ∀ b, S' b → S b ∨ w.heap.size ≤ b) ∧ Chg S w w' := by
  have h1 := isActor_any h (a : Int)
  have h2 := isActor_any h (b : Int)
  have h3 := full_any h
  rw [decide_eq_false (by omega)] at h3
  rw [Bool.and_eq_true] at hab
  rw [hab.1] at h1
  rw [hab.2] at h2
  go_enter Try.func14, Try.ntmps14
  go_wp2_with fail
  refine h1.mono ?_
  rintro e w1 ⟨rfl, rfl⟩
  go_wp2_with fail
  refine h2.mono ?_
  rintro e w2 ⟨rfl, rfl⟩
  go_wp2_with fail
  refine h3.mono ?_
  rintro e w3 ⟨rfl, rfl⟩
  go_wp2_with fail
  refine (nclone_any hr (by omega)).mono ?_
  rintro e w4 ⟨v4, rfl, ho4, hb4⟩
  obtain ⟨a4, n4, c4, rfl⟩ := rowP_shape ho4
  have h4 := h.below hb4
  obtain ⟨uv, P, m, D, rfl, hI⟩ := h4
  rw [List.length_map] at hf
  have hadd := add_any hI (by omega) hlast 0 a b ho4.rd (fun c e => by
    have q := World.ownsRow.lt ho4 c e
    have hle := h.leB
    have hn : ¬ S c := fun q2 => by have := (h.lt c q2).2; omega
    refine ⟨⟨by omega, q.2⟩, fun e2 => hn (by rw [e2]; exact hI.sx), fun e2 => hn (by rw [e2]; exact hI.sm), fun e2 => hn (hI.sf c e2).1⟩)
  have hs4 := hb4.size
  go_wp2_with fail
  refine hadd.mono ?_
  rintro e w5 ⟨rfl, ⟨S', hN, hS'⟩, hc5⟩
  go_wp2_with fail
  go_ret2
  refine ⟨rfl, ⟨S', by simpa using hN, fun c q => ?_⟩, ((Chg.of_below hb4).mono (fun b hb q => by omega)).trans (hc5.mono (fun b _ q => .inl q))⟩
  rcases hS' c q with q | q | q
  · exact .inl q
  · exact .inr (World.ownsRow.lt ho4 c q).1
  · exact .inr (by omega)
theorem copy_no (h : Nt B x A last n S M C w) (hU : Rise M) (hl : M.length ≤ 1048576) (id : Int) (hno : isN M id = false) : Calls Try.prog 15 #[.pointer (some ⟨x, 0, none⟩), .int .i64 id] w fun e w' => e = .returned (.tuple #[.int .i64 0, .int .i64 30]) ∧ Below w.heap.size w w' := by
  have h1 := find_any h hU hl id
  rw [hno] at h1
  go_enter Try.func15, Try.ntmps15
  go_wp2_with fail
  refine h1.mono ?_
  rintro e w1 ⟨rfl, hb1⟩
  go_wp2_with fail
  go_ret2
  exact ⟨rfl, hb1⟩
theorem copy_full (h : Nt B x A last n S M C w) (hU : Rise M) (hl : M.length ≤ 1048576) (id : Int) (hno : isN M id = true) (hf : 256 ≤ M.length) : Calls Try.prog 15 #[.pointer (some ⟨x, 0, none⟩), .int .i64 id] w fun e w' => e = .returned (.tuple #[.int .i64 0, .int .i64 2]) ∧ Below w.heap.size w w' := by
  have h1 := find_any h hU hl id
  rw [hno] at h1
  go_enter Try.func15, Try.ntmps15
  go_wp2_with fail
  refine h1.mono ?_
  rintro e w1 ⟨rfl, hb1⟩
  have h3 := full_any (h.below hb1)
  rw [decide_eq_true hf] at h3
  go_wp2_with fail
  refine h3.mono ?_
  rintro e w3 ⟨rfl, rfl⟩
  go_wp2_with fail
  go_ret2
  exact ⟨rfl, hb1⟩
theorem isN_at {M : List Pk} {id : Int} (h : isN M id = true) : ∃ p, M[plN M id]? = some p ∧ (p.1 : Int) = id := by
  unfold isN at h
  cases e : M[plN M id]? with
  | none => rw [e] at h; cases h
  | some p => rw [e] at h; exact ⟨p, rfl, by simpa using h⟩
set_option maxHeartbeats 2000000 in
theorem copy_ok (h : Nt B x A last n S M C w) (hU : Rise M) (hlast : last ≤ 1099511627776) (id : Int) (hf : M.length < 256) {p : Pk} (hp : M[plN M id]? = some p) (hid : (p.1 : Int) = id) (hno : isN M id = true) :
    Calls Try.prog 15 #[.pointer (some ⟨x, 0, none⟩), .int .i64 id] w fun e w' => e = .returned (.tuple #[.int .i64 ((last + 1 : Nat) : Int), .int .i64 0]) ∧ (∃ S', Nt B x A (last + 1) n S' (M ++ [(last + 1, p.2.1, p.2.2.1, p.2.2.2)]) C w' ∧ ∀ b, S' b → S b ∨ w.heap.size ≤ b) ∧ Chg S w w' := by
  have h1 := find_any h hU (by omega) id
  rw [hno] at h1
  go_enter Try.func15, Try.ntmps15
  go_wp2_with fail
  refine h1.mono ?_
  rintro e w1 ⟨rfl, hb1⟩
  have h3 := full_any (h.below hb1)
  rw [decide_eq_false (by omega)] at h3
  go_wp2_with fail
  refine h3.mono ?_
  rintro e w3 ⟨rfl, rfl⟩
  have hs1 := hb1.size
  have h4 := h.below hb1
  obtain ⟨uv, P, m, D, rfl, hI⟩ := h4
  rw [List.length_map] at hf
  rw [List.getElem?_map] at hp
  generalize hk : plN (P.map (·.1)) id = k at *
  obtain ⟨⟨⟨id0, fr, to_, da⟩, dv⟩, hy, rfl⟩ := Option.map_eq_some_iff.1 hp
  have hkl := (List.getElem?_eq_some_iff.1 hy).1
  obtain ⟨c0, c1, c2, c3, cz⟩ := hI.cells
  obtain ⟨a, c, rfl, e1, e2, e3, e4⟩ := hI.shape
  obtain ⟨g, rfl, g0, g1, g2, g3, gz⟩ := e4 k _ hy
  have hmem := List.mem_of_getElem? hy
  have hd := hI.data _ hmem
  have hsd := hI.sd _ hmem
  simp only [] at hd hsd g0 g1 g2 g3
  unfold maxLen at e2
  have hadd := add_any hI (by omega) hlast (id0 : Int) fr to_ hd (fun c e => ⟨hI.lo c (hsd c e).1, (hsd c e).2⟩)
  have hd' := hd
  obtain ⟨ad, cd, rfl, _⟩ := hd'
  clear e4 gz cz
  have H : Hid _ := And.intro hI hsd
  clear hI hsd h hid hp
  go_wp2_with fail
  refine hadd.mono ?_
  rintro e w5 ⟨rfl, ⟨S', hN, hS'⟩, hc5⟩
  go_wp2_with fail
  go_ret2
  refine ⟨rfl, ⟨S', by simpa using hN, fun c q => ?_⟩, ((Chg.of_below hb1).mono (fun b hb q => by omega)).trans (hc5.mono (fun b _ q => .inl q))⟩
  rcases hS' c q with q | q | q
  · exact .inl q
  · exact .inl (H.out.2 c q).1
  · exact .inr (by omega)
end
end Go.Proofs.Ytpieehbikmmifaa

/- Pending of a net: what is told is new memory. -/
namespace Go.Proofs.Ytpieehbikmmifaa
open Go.RowKit Go.Maps
set_option linter.unusedVariables false
set_option maxRecDepth 100000

theorem rowP_set {w : World} {B : Nat} {e : TypeId} {size n g : Nat} {v : Value} {xs : List Value} (h : w.ownsRow B e size v n xs) (hv : v.ownBlock = some g) (j : Nat) (u : Value) : (w.setCell ⟨g, j, none⟩ u).ownsRow B e size v n (xs.set j u) := by
  refine ⟨by rw [List.length_set]; exact h.1, ?_⟩
  rcases h.2 with ⟨q, q0⟩ | ⟨g', cap, cur, q, hB, hg, q1, q2, q3, q4⟩
  · rw [q] at hv; cases hv
  · rw [q] at hv
    obtain rfl : g' = g := Option.some.inj hv
    refine .inr ⟨g', cap, cur.setIfInBounds j u, q, hB, heap_setCell_same _ _ _ _ _ _ hg, q1, q2, by simpa using q3, ?_⟩
    rw [Array.toList_setIfInBounds, List.take_set, q4]
theorem pkCs_setD (P : List (Pk × Value)) (k : Nat) (p : Pk) (dv dv' : Value) (e : P[k]? = some (p, dv)) : (pkCs P).set (k * 4 + 3) dv' = pkCs (P.set k (p, dv')) := by
  induction P generalizing k with
  | nil => simp at e
  | cons y P ih =>
    cases k with
    | zero => simp at e; subst e; simp [pkCs_cons, pkC]
    | succ k =>
      rw [List.set_cons_succ, pkCs_cons, pkCs_cons, ← ih k (by simpa using e), List.set_append_right _ _ (by simp [pkC]; omega), show (k + 1) * 4 + 3 - (pkC y).length = k * 4 + 3 by simp [pkC]; omega]
/-- How an array of messages reads. -/
theorem rowP_at {w : World} {B : Nat} {v : Value} {P : List (Pk × Value)} (h : w.ownsRow B 46 4 v P.length (pkCs P)) : ∃ a c, v = .slice a P.length c ∧ P.length ≤ c ∧ c ≤ maxLen ∧ (a = none → c = 0 ∧ P = []) ∧ ∀ i p, P[i]? = some p → ∃ g, a = some ⟨g, 0, none⟩ ∧ B ≤ g ∧ g < w.heap.size ∧ w.cell? ⟨g, i * 4, none⟩ = some (.int .i64 (p.1.1 : Int)) ∧ w.cell? ⟨g, i * 4 + 1, none⟩ = some (.int .i64 (p.1.2.1 : Int)) ∧ w.cell? ⟨g, i * 4 + 2, none⟩ = some (.int .i64 (p.1.2.2.1 : Int)) ∧ w.cell? ⟨g, i * 4 + 3, none⟩ = some p.2 ∧ ∀ j, w.frozen? ⟨g, j, none⟩ = false := by
  rcases h.2 with ⟨q, q0⟩ | ⟨g, cap, cur, q, hB, hg, q1, q2, q3, q4⟩
  · refine ⟨none, 0, by rw [q, q0], by omega, by simp, fun _ => ⟨rfl, List.length_eq_zero_iff.1 q0⟩, fun i x e => ?_⟩
    have := (List.getElem?_eq_some_iff.1 e).1
    omega
  · refine ⟨some ⟨g, 0, none⟩, cap, q, q1, q2, (fun e => by cases e), fun i x e => ⟨g, rfl, hB, (Array.getElem?_eq_some_iff.1 hg).1, ?_⟩⟩
    have hc : ∀ j u, (pkCs P)[j]? = some u → w.cell? ⟨g, j, none⟩ = some u := fun j u hu => by
      have := h.cells (g := g) (by rw [q]; rfl) j u hu
      rw [Addr.add_lit, Nat.zero_add] at this
      exact this
    obtain ⟨e1, e2, e3, e4⟩ := pkCs_at P i x e
    exact ⟨hc _ _ e1, hc _ _ e2, hc _ _ e3, hc _ _ e4, fun j => frozen_of_row _ _ _ _ _ hg⟩
theorem rdP_of {w : World} {B : Nat} {v : Value} {P : List (Pk × Value)} (h : w.ownsRow B 46 4 v P.length (pkCs P)) (hs : ∀ x ∈ P, ∃ b m k, x.2 = .slice b m k) : RdP w v P := by
  obtain ⟨a, c, rfl, h1, h2, h3, h4⟩ := rowP_at h
  refine ⟨a, c, rfl, h3, hs, fun j u hu => ?_⟩
  cases a with
  | none => obtain ⟨_, rfl⟩ := h3 rfl; simp [pkCs] at hu
  | some ad =>
    rcases h.2 with ⟨q, q0⟩ | ⟨g, cap, cur, q, _⟩
    · cases q
    · simp only [Value.slice.injEq, Option.some.injEq] at q
      obtain ⟨rfl, _, rfl⟩ := q
      exact ⟨_, rfl, h.cells (g := g) rfl j u hu⟩
theorem rowP_lit0 (w : World) : (w.alloc (.cells #[] 46)).ownsRow w.heap.size 46 4 (.slice (some ⟨w.heap.size, 0, none⟩) 0 0) ([] : List (Pk × Value)).length (pkCs []) := World.ownsRow_made w #[] 0 (Nat.le_refl _) (by simp) rfl
theorem RdP.al {w : World} {v : Value} {P : List (Pk × Value)} (h : RdP w v P) (o : Obj) : RdP (w.alloc o) v P := by
  obtain ⟨ao, c, e, h1, h2, h3⟩ := h
  refine ⟨ao, c, e, h1, h2, fun j u hu => ?_⟩
  obtain ⟨a, e2, hc⟩ := h3 j u hu
  exact ⟨a, e2, by rw [(Below.al w o).cell (World.block_lt_of_cell? w _ hc)]; exact hc⟩

theorem cloneP_any {v : Value} {P : List (Pk × Value)} {w : World} (hr : RdP w v P) (hl : P.length ≤ 1048576) :
    Calls Try.prog 34 #[v] w fun e w' => ∃ v', e = .returned v' ∧ w'.ownsRow w.heap.size 46 4 v' P.length (pkCs P) ∧ Below w.heap.size w w' := by
  have q : ∀ (w : World) (a : Option Addr) (n c n' c' : Nat), (binOp .eql 39 (.slice a n c) (.slice none n' c')).run Try.prog w = .ok (.bool a.isNone) w := fun w a n c n' c' => Lib.run_eql_slice_nil w _ _ a n c n' c' Try.underlying39
  have hr' := hr
  obtain ⟨ao, c, rfl, h0, h1, h3⟩ := hr'
  cases ao with
  | none =>
    obtain ⟨rfl, rfl⟩ := h0 rfl
    go_enter Try.func34, Try.ntmps34
    go_wp2
    go_ret
    exact ⟨_, rfl, World.ownsRow_nil _ _ _ _, Below.refl _ _⟩
  | some ad =>
    go_enter Try.func34, Try.ntmps34
    go_wp2_with (first | (at_builtin; refine wpList_appP rfl _ _ rfl w.heap.size _ [] rfl (rowP_lit0 w) _ P rfl (hr.al _) (by simp) (by simp; omega) ?_; intro v' w' ho' hg' hv') | fail)
    go_ret
    replace hg' : (w.alloc (.cells #[] 46)).grownBy w' (some w.heap.size) := hg'
    refine ⟨_, rfl, ho', (Below.al w (.cells #[] 46)).trans ?_⟩
    exact (Chg.of_grown (S := fun b => w.heap.size ≤ b) hg' (fun b e _ => Nat.le_of_eq (Option.some.inj e))).below (fun b q => q) (by simp)

/-- What is told: an array of its own, each message's bytes in memory of their own. -/
structure Told (B : Nat) (v : Value) (Q : List (Pk × Value)) (k : Nat) (w : World) : Prop where
  row : w.ownsRow B 46 4 v Q.length (pkCs Q)
  data : ∀ i q, Q[i]? = some q → i < k → Ow B w q.2 q.1.2.2.2 ∧ ∀ b, q.2.ownBlock = some b → v.ownBlock ≠ some b

theorem Told.step {B g k n c : Nat} {Q : List (Pk × Value)} {wr w5 : World} {p : Pk} {dv v5 : Value} (h : Told B (.slice (some ⟨g, 0, none⟩) n c) Q k wr) (hk : Q[k]? = some (p, dv)) (hg : g < wr.heap.size) (hB : B ≤ wr.heap.size) (ho : Ow wr.heap.size w5 v5 p.2.2.2) (hb : Below wr.heap.size wr w5) :
    Told B (.slice (some ⟨g, 0, none⟩) n c) (Q.set k (p, v5)) (k + 1) (w5.setCell ⟨g, k * 4 + 3, none⟩ v5) := by
  have hc : Chg (fun b => b = g) w5 (w5.setCell ⟨g, k * 4 + 3, none⟩ v5) := (Chg.refl (fun b => b = g) w5).put g _ _ rfl
  have hrow : w5.ownsRow B 46 4 (.slice (some ⟨g, 0, none⟩) n c) Q.length (pkCs Q) := ownsRow_keptC h.row (Chg.of_below hb) (fun b e q => by have e : g = b := Option.some.inj e; omega)
  refine ⟨?_, fun i q hq hi => ?_⟩
  · rw [List.length_set, ← pkCs_setD Q k p dv v5 hk]
    exact rowP_set hrow rfl _ _
  · by_cases e : i = k
    · subst e
      have hkl := (List.getElem?_eq_some_iff.1 hk).1
      rw [List.getElem?_set_self hkl] at hq
      obtain rfl := Option.some.inj hq
      have hne : ∀ b, v5.ownBlock = some b → b ≠ g := fun b e2 e3 => by have := (World.ownsRow.lt ho b e2).1; omega
      exact ⟨(ho.keptC hc hne).mono hB, fun b e2 e3 => hne b e2 (Option.some.inj e3).symm⟩
    · rw [List.getElem?_set_ne (fun q => e q.symm)] at hq
      obtain ⟨h1, h2⟩ := h.data i q hq (by omega)
      exact ⟨(h1.below hb (Nat.le_refl _)).keptC hc (fun b e2 e3 => h2 b e2 (by rw [e3]; rfl)), h2⟩

section
variable {B x A last n : Nat} {M : List Pk} {C : Ct} {S : Nat → Prop} {w w' : World}
set_option maxHeartbeats 2000000 in
theorem pending_any (h : Nt B x A last n S M C w) (hl : M.length ≤ 256) (hd : ∀ p ∈ M, p.2.2.2.length ≤ 1099511627776) :
    Calls Try.prog 13 #[.pointer (some ⟨x, 0, none⟩)] w fun e w' => ∃ v, e = .returned v ∧ ∃ Q, Q.map (·.1) = M ∧ Told w.heap.size v Q Q.length w' ∧ Below w.heap.size w w' := by
  obtain ⟨uv, P, m, D, rfl, h⟩ := h
  rw [List.length_map] at hl
  obtain ⟨c0, c1, c2, c3, cz⟩ := h.cells
  have hsl : ∀ p ∈ P, ∃ b m k, p.2 = .slice b m k := fun p hp => by obtain ⟨ao, c, e, _⟩ := h.data p hp; exact ⟨_, _, _, e⟩
  have hcl := cloneP_any (rdP_of h.row hsl) (by omega)
  have hdat := h.data
  clear h
  go_enter Try.func13, Try.ntmps13
  go_wp2_with fail
  refine hcl.mono ?_
  rintro e w1 ⟨v1, rfl, ho1, hb1⟩
  have hdat1 : ∀ p ∈ P, Rd w1 p.2 p.1.2.2.2 := fun p hp => (hdat p hp).below hb1 (Nat.le_refl _)
  obtain ⟨a1, c1', rfl, e1, e2, e3, _⟩ := rowP_at ho1
  unfold maxLen at e2
  have hT0 : Told w.heap.size (.slice a1 P.length c1') P 0 w1 := ⟨ho1, fun i q _ hi => by omega⟩
  clear ho1
  generalize hN : P.length = N at *
  have HN : Hid _ := hN
  clear hN
  go_wp2_with fail
  go_loopw [12] (fun i wr => ∃ (k : Nat) (Q : List (Pk × Value)), k ≤ N ∧ i = .int .i64 k ∧ Q.length = N ∧ Q.map (·.1) = P.map (·.1) ∧ Told w.heap.size (.slice a1 N c1') Q k wr ∧ (∀ j, k ≤ j → Q[j]? = P[j]?) ∧ Below w.heap.size w wr) (fun i _ => N - (intOf i).toNat)
  case atStart => exact ⟨0, P, by omega, rfl, HN.out, rfl, hT0, fun _ _ => rfl, hb1⟩
  case round =>
    obtain ⟨k, Q, hk, rfl, hQl, hQm, hT, hrest, hb⟩ := hrel
    by_cases hlt : k < N
    · obtain ⟨⟨p, dv⟩, hp⟩ : ∃ q, Q[k]? = some q := ⟨Q[k], List.getElem?_eq_getElem (by omega)⟩
      have hpP : P[k]? = some (p, dv) := by rw [← hrest k (Nat.le_refl _)]; exact hp
      have hdv := (hdat _ (List.mem_of_getElem? hpP)).below hb (Nat.le_refl _)
      have hdl := hd p (List.mem_map.2 ⟨(p, dv), List.mem_of_getElem? hpP, rfl⟩)
      obtain ⟨a2, c2', ea, f1, f2, f3, f4⟩ := rowP_at hT.row
      obtain ⟨g, rfl, hBg, hgl, g0, g1, g2, g3, gz⟩ := f4 k _ hp
      simp only [Value.slice.injEq] at ea
      obtain ⟨rfl, -, rfl⟩ := ea
      have gz3 := gz (k * 4 + 3)
      simp only [] at hdv g0 g1 g2 g3
      have hsz := hb.size
      have hstep := fun (w5 : World) (v5 : Value) (ho : Ow wr.heap.size w5 v5 p.2.2.2) (hb5 : Below wr.heap.size wr w5) => hT.step hp hgl hsz ho hb5
      have hcl2 := nclone_any hdv (by omega)
      have hdv' := hdv
      obtain ⟨ad, cd, rfl, _⟩ := hdv'
      have H : Hid _ := And.intro hstep (And.intro hrest (And.intro hQm (And.intro hQl hp)))
      clear hstep hrest hT f1 f2 f3 f4 gz hpP hQm hQl hp e3 hT0
      go_wp2_with fail
      refine hcl2.mono ?_
      rintro e w5 ⟨v5, rfl, ho5, hb5⟩
      obtain ⟨a5, n5, c5, rfl⟩ := rowP_shape ho5
      have r3 : w5.cell? ⟨g, k * 4 + 3, none⟩ = some (.slice ad p.2.2.2.length cd) := by rw [hb5.cell hgl]; exact g3
      have rz3 : w5.frozen? ⟨g, k * 4 + 3, none⟩ = false := by rw [World.frozen?_of_block (hb5.block g hgl)]; exact gz3
      go_wp2_with fail
      obtain ⟨hstep, hrest, hQm, hQl, hp⟩ := H.out
      refine ⟨⟨k + 1, Q.set k (p, .slice a5 n5 c5), by omega, by go_num, by rw [List.length_set]; exact hQl, ?_, hstep w5 _ ho5 hb5, fun j hj => ?_, ?_⟩, by simp [intOf]; omega⟩
      · rw [List.map_set, ← hQm]
        refine List.ext_getElem? (fun i => ?_)
        by_cases e : i = k
        · subst e
          rw [List.getElem?_set_self (by rw [List.length_map]; omega), List.getElem?_map, hp]; rfl
        · rw [List.getElem?_set_ne (fun q => e q.symm)]
      · rw [List.getElem?_set_ne (by omega)]; exact hrest j (by omega)
      · exact (hb.trans (hb5.mono hsz)).trans (((Chg.refl (fun b => b = g) w5).put g (k * 4 + 3) (.slice a5 n5 c5) rfl).below (fun b q => by omega) (by have := hb5.size; omega))
    · obtain rfl : k = N := by omega
      have H : Hid _ := And.intro hT (And.intro hQm hQl)
      clear hT hQm hQl hrest hT0 e3
      go_wp2_with fail
      go_ret
      obtain ⟨hT, hQm, hQl⟩ := H.out
      exact ⟨_, rfl, Q, hQm, by rw [hQl]; exact hT, hb⟩
end
end Go.Proofs.Ytpieehbikmmifaa

/- A message taken out of a list of messages: slices.Delete. -/
namespace Go.Proofs.Ytpieehbikmmifaa
open Go.RowKit Go.Maps
set_option linter.unusedVariables false
set_option maxRecDepth 100000

theorem rowP_pre {w : World} {B g n c : Nat} {P : List (Pk × Value)} (h : w.ownsRow B 46 4 (.slice (some ⟨g, 0, none⟩) n c) P.length (pkCs P)) (k : Nat) (hk : k ≤ P.length) : w.ownsRow B 46 4 (.slice (some ⟨g, 0, none⟩) k c) (P.take k).length (pkCs (P.take k)) := by
  have hl : (P.take k).length = k := by rw [List.length_take]; omega
  refine ⟨by rw [pkCs_length], ?_⟩
  rcases h.2 with ⟨q, q0⟩ | ⟨g', cap, cur, q, hB, hg, q1, q2, q3, q4⟩
  · cases q
  · simp only [Value.slice.injEq, Option.some.injEq, Addr.mk.injEq, and_true] at q
    obtain ⟨rfl, rfl, rfl⟩ := q
    refine .inr ⟨g, c, cur, by rw [hl], hB, hg, by omega, q2, q3, ?_⟩
    rw [hl, ← pkCs_take, ← q4, List.take_take]
    congr 1
    omega
theorem rowP_post {w : World} {B g n c : Nat} {P : List (Pk × Value)} (h : w.ownsRow B 46 4 (.slice (some ⟨g, 0, none⟩) n c) P.length (pkCs P)) (hs : ∀ x ∈ P, ∃ b m k, x.2 = .slice b m k) (k : Nat) (hk : k ≤ P.length) : RdP w (.slice (some ⟨g, k * 4, none⟩) (P.length - k) (c - k)) (P.drop k) := by
  refine ⟨some ⟨g, k * 4, none⟩, c - k, by rw [List.length_drop], (fun e => by cases e), fun x hx => hs x (List.mem_of_mem_drop hx), fun j u hu => ⟨_, rfl, ?_⟩⟩
  rw [← pkCs_drop, List.getElem?_drop] at hu
  have := h.cells (g := g) rfl _ u hu
  rw [Addr.add_lit] at this ⊢
  simpa using this
theorem run_appRoom (w : World) (ty : TypeId) {B g c : Nat} (P : List (Pk × Value)) {n : Nat} (hn : n = P.length) (hown : w.ownsRow B 46 4 (.slice (some ⟨g, 0, none⟩) n c) P.length (pkCs P)) {ad : Addr} {m cx : Nat} {Q : List (Pk × Value)} (hm : RdP w (.slice (some ad) m cx) Q) (hroom : P.length + Q.length ≤ c) (hB : B ≤ w.heap.size) (hl : P.length + Q.length ≤ 1099511627776) :
    ∃ w', (Builtin.append_ #[39, 39] ty #[.slice (some ⟨g, 0, none⟩) n c, .slice (some ad) m cx]).run Try.prog w = .ok (.slice (some ⟨g, 0, none⟩) (n + m) c) w' ∧ w'.ownsRow B 46 4 (.slice (some ⟨g, 0, none⟩) (n + m) c) (P ++ Q).length (pkCs (P ++ Q)) ∧ w.grownBy w' (some g) := by
  subst hn
  obtain ⟨i, hi, hz0, hz1, hz2⟩ := info_parts Try.infoPk
  obtain ⟨v', w', hr, q2, q3, q4⟩ := run_appP w ty B _ P hown _ Q hm hB hl
  obtain ⟨ao, c', e, h0, h1, h3⟩ := hm
  simp only [Value.slice.injEq] at e
  obtain ⟨rfl, rfl, rfl⟩ := e
  have hcell : ∀ j, j < c * 4 → (w.cell? ⟨g, j, none⟩).isSome = true ∧ w.frozen? ⟨g, j, none⟩ = false := fun j hj => by
    rcases hown.2 with ⟨q, q0⟩ | ⟨g', cap, cur, q, hB', hg, q1, q2', q3', q4'⟩
    · cases q
    · simp only [Value.slice.injEq, Option.some.injEq, Addr.mk.injEq, and_true, true_and] at q
      obtain ⟨rfl, rfl⟩ := q
      refine ⟨?_, frozen_of_row _ _ _ _ _ hg⟩
      rw [cell_of_row _ _ _ _ _ _ hg, Array.getElem?_eq_getElem (by omega)]
      rfl
  have hr2 := run_append_room_cells (P := Try.prog) (w := w) 39 ty 46 i Try.underlying39 hi g 0 P.length c ad Q.length cx (pkCs Q) (by rw [hz1]; exact pkCs_length Q) (by
    intro j u hu
    obtain ⟨a', e, hc⟩ := h3 j u hu
    obtain rfl := Option.some.inj e
    exact hc) (pkCs_one h1) hroom (fun j hj => by rw [pkCs_length] at hj; rw [hz1]; exact (hcell _ (by omega)).1) (fun j hj => by rw [pkCs_length] at hj; rw [hz1]; exact (hcell _ (by omega)).2)
  rw [hr] at hr2
  simp only [Result.ok.injEq] at hr2
  obtain ⟨rfl, _⟩ := hr2
  exact ⟨w', hr, q2, q3⟩
theorem step_appRoom {ops : Array Oper} {o : Oper} {a : Act} {w : World} {K : Act → World → Prop} {Q : Exit → Act → World → Prop} {E : Prop} (hgd : o.guard = none) (s x : Operand)
    (ho : o.op = .call { callee := .builtin .append, args := #[s, x], argTypes := #[39, 39] })
    {B g c n : Nat} (l : List (Pk × Value)) (hn : n = l.length) (hs : a.eval s = .slice (some ⟨g, 0, none⟩) n c) (hown : w.ownsRow B 46 4 (.slice (some ⟨g, 0, none⟩) n c) l.length (pkCs l)) {ad : Addr} {m cx : Nat} (q : List (Pk × Value)) (hx : a.eval x = .slice (some ad) m cx) (hm : RdP w (.slice (some ad) m cx) q) (hroom : l.length + q.length ≤ c) (hB : B ≤ w.heap.size) (hlen : l.length + q.length ≤ 1099511627776)
    (hK : ∀ w', w'.ownsRow B 46 4 (.slice (some ⟨g, 0, none⟩) (n + m) c) (l ++ q).length (pkCs (l ++ q)) → w.grownBy w' (some g) → K (a.put o.dst (.slice (some ⟨g, 0, none⟩) (n + m) c)) w') : if Region.wanted o (yielded ops a.tmps) = true then Oper.wp Try.prog o a w K Q else E := by
  have hw : Region.wanted o (yielded ops a.tmps) = true := by simp [Region.wanted, hgd]
  rw [if_pos hw]
  obtain ⟨w', hr, q2, q3⟩ := run_appRoom w o.type l hn hown hm hroom hB hlen
  unfold Oper.wp execOp
  simp only [ho, resolve, invoke, builtin, Sem.run_bind, Sem.run_pure, Result.andThen_ok, List.map_toArray, List.map_cons, List.map_nil, hs, hx, hr]
  exact hK w' q2 q3
theorem Try.zeroPk (w : World) : (zeroValue 46).run Try.prog w = .ok (.agg #[.int .i64 0, .int .i64 0, .int .i64 0, .slice none 0 0]) w := by kernel_rfl
theorem run_clear1 (w : World) (ty : TypeId) (g o c : Nat) (hc : ∀ j, j < 4 → (w.cell? ⟨g, o + j, none⟩).isSome = true) (hf : ∀ j, j < 4 → w.frozen? ⟨g, o + j, none⟩ = false) :
    (Builtin.clear_ #[39] ty #[.slice (some ⟨g, o, none⟩) 1 c]).run Try.prog w = .ok (.tuple #[]) (w.setCells g o [.int .i64 0, .int .i64 0, .int .i64 0, .slice none 0 0]) := by
  have hst := run_storeCells_cells (P := Try.prog) g o [.int .i64 0, .int .i64 0, .int .i64 0, .slice none 0 0] 0 w (by simpa using hc) (by simpa using hf) (by simp [Value.oneCell'])
  simp only [Nat.add_zero] at hst
  have hz : (Builtin.zeroCells #[.int .i64 0, .int .i64 0, .int .i64 0, .slice none 0 0] 1).toList = [Value.int .i64 0, .int .i64 0, .int .i64 0, .slice none 0 0] := by kernel_rfl
  simp [Builtin.clear_, run_underlying Try.underlying39, Value.cells, hz, hst, Result.andThen]
/-- Cells behind the list are set. -/
theorem rowP_behind {w : World} {B g n c : Nat} {P : List (Pk × Value)} (h : w.ownsRow B 46 4 (.slice (some ⟨g, 0, none⟩) n c) P.length (pkCs P)) (o : Nat) (ho : P.length * 4 ≤ o) (vs : List Value) : (w.setCells g o vs).ownsRow B 46 4 (.slice (some ⟨g, 0, none⟩) n c) P.length (pkCs P) := by
  induction vs generalizing w o with
  | nil => exact h
  | cons v r ih =>
    refine ih (w := w.setCell ⟨g, o, none⟩ v) ?_ (o + 1) (by omega)
    have := rowP_set h (g := g) rfl o v
    rwa [List.set_eq_of_length_le (by rw [pkCs_length]; exact ho)] at this
theorem chg_setCells (g : Nat) (vs : List Value) : ∀ (o : Nat) (w : World), Chg (fun b => b = g) w (w.setCells g o vs) := by
  induction vs with
  | nil => exact fun o w => Chg.refl _ _
  | cons v r ih => exact fun o w => ((Chg.refl (fun b => b = g) w).put g o v rfl).trans ((ih (o + 1) _).mono (fun b _ q => .inl q))

set_option maxHeartbeats 2000000 in
theorem delete_any {w : World} {B g c n n1 k k1 : Nat} {P : List (Pk × Value)} (h : w.ownsRow B 46 4 (.slice (some ⟨g, 0, none⟩) n c) P.length (pkCs P)) (hn : P.length = n) (hl : n ≤ 1048576) (hs : ∀ x ∈ P, ∃ b m k, x.2 = .slice b m k) (hk : k < n) (hk1 : k1 = k + 1) (hn1 : n = n1 + 1) :
    Calls Try.prog 51 #[.slice (some ⟨g, 0, none⟩) n c, .int .i64 (k : Int), .int .i64 (k1 : Int)] w fun e w' => e = .returned (.slice (some ⟨g, 0, none⟩) n1 c) ∧ w'.ownsRow B 46 4 (.slice (some ⟨g, 0, none⟩) n1 c) (P.take k ++ P.drop k1).length (pkCs (P.take k ++ P.drop k1)) ∧ Chg (fun b => b = g) w w' := by
  have hc : n ≤ c ∧ c ≤ 9223372036854775807 := by
    obtain ⟨a, c', e, e1, e2, _, e4⟩ := rowP_at h
    simp only [Value.slice.injEq] at e
    obtain ⟨_, _, rfl⟩ := e
    unfold maxLen at e2
    omega
  have hBw := World.ownsRow.lt h g rfl
  have hpre := rowP_pre h k (by omega)
  have hpost : ∃ off, (c = k1 → off = 0) ∧ (¬ c = k1 → off = k1 * 4) ∧ RdP w (.slice (some ⟨g, off, none⟩) (n - k1) (c - k1)) (P.drop k1) := by
    by_cases q : c = k1
    · refine ⟨0, fun _ => rfl, fun q2 => absurd q q2, ?_⟩
      rw [List.drop_of_length_le (by omega), show n - k1 = 0 by omega]
      exact ⟨_, _, rfl, (fun e => by cases e), (fun x hx => by cases hx), fun j u hu => by simp [pkCs] at hu⟩
    · refine ⟨k1 * 4, fun q2 => absurd q2 q, fun _ => rfl, ?_⟩
      have := rowP_post h hs k1 (by omega)
      rwa [hn] at this
  have hl1 : (P.take k).length = k := by rw [List.length_take]; omega
  have hl2 : (P.drop k1).length = n - k1 := by rw [List.length_drop]; omega
  obtain ⟨m, hm⟩ : ∃ m, n - k1 = m := ⟨_, rfl⟩
  rw [hm] at hpost hl2
  have hkm : k + m = n1 := by omega
  have hroom : (P.take k).length + (P.drop k1).length ≤ c := by omega
  have hlen : (P.take k).length + (P.drop k1).length ≤ 1099511627776 := by omega
  have hne : ((k : Int) == (k1 : Int)) = false := by rw [beq_eq_false_iff_ne]; omega
  have hone : n - n1 = 1 := by omega
  have hi1 : k ≤ k1 := by omega
  have hi2 : k1 ≤ n := by omega
  have hi3 : n1 ≤ n := by omega
  have hi4 : n1 < c := by omega
  have hi5 : k ≤ c := by omega
  have hi6 : k1 ≤ c := by omega
  have hi7 : n ≤ c := hc.1
  have hi8 : c ≤ 9223372036854775807 := hc.2
  have hcell : ∀ W : World, W.ownsRow B 46 4 (.slice (some ⟨g, 0, none⟩) n1 c) (P.take k ++ P.drop k1).length (pkCs (P.take k ++ P.drop k1)) → ∀ j, j < 4 → (W.cell? ⟨g, n1 * 4 + j, none⟩).isSome = true ∧ W.frozen? ⟨g, n1 * 4 + j, none⟩ = false := fun W hW j hj => by
    rcases hW.2 with ⟨q, q0⟩ | ⟨g', cap, cur, q, hB', hg, q1, q2', q3', q4'⟩
    · cases q
    · simp only [Value.slice.injEq, Option.some.injEq, Addr.mk.injEq, and_true] at q
      obtain ⟨rfl, _, rfl⟩ := q
      refine ⟨?_, frozen_of_row _ _ _ _ _ hg⟩
      rw [cell_of_row _ _ _ _ _ _ hg, Array.getElem?_eq_getElem (by omega)]
      rfl
  have hd0 : Chg (fun b => b = g) w w.drew := ⟨rfl, rfl, rfl, Nat.le_refl _, fun _ _ _ => rfl⟩
  have hend : ∀ W : World, w.drew.grownBy W (some g) → W.ownsRow B 46 4 (.slice (some ⟨g, 0, none⟩) n1 c) (P.take k ++ P.drop k1).length (pkCs (P.take k ++ P.drop k1)) → (W.setCells g (n1 * 4) [.int .i64 0, .int .i64 0, .int .i64 0, .slice none 0 0]).ownsRow B 46 4 (.slice (some ⟨g, 0, none⟩) n1 c) (P.take k ++ P.drop k1).length (pkCs (P.take k ++ P.drop k1)) ∧ Chg (fun b => b = g) w (W.setCells g (n1 * 4) [.int .i64 0, .int .i64 0, .int .i64 0, .slice none 0 0]) := fun W hg hW =>
    ⟨rowP_behind hW _ (by rw [List.length_append]; omega) _, (hd0.trans ((Chg.of_grown (S := fun b => b = g) hg (fun b e _ => (Option.some.inj e).symm)).mono (fun b _ q => .inl q))).trans ((chg_setCells g _ _ W).mono (fun b _ q => .inl q))⟩
  have H : Hid _ := And.intro hcell hend
  clear hcell hend h hn hs hk1 hn1
  obtain ⟨off, ho1, ho2, hpost⟩ := hpost
  have hBl : B ≤ w.heap.size := by omega
  have hlk : k = (P.take k).length := hl1.symm
  have HL : Hid _ := hlk
  have HK : Hid _ := hkm
  clear hl1 hl2 hlk hkm
  by_cases hck : c = k1
  · obtain rfl := ho1 hck
    subst hck
    clear ho1 ho2
    rw [Nat.sub_self] at hpost
    go_enter Try.func51, Try.ntmps51
    go_wp2_with fail
    go_region_law
      ((first
      | (refine step_appRoom rfl _ _ rfl (P.take k) HL.out rfl hpre (P.drop c) rfl hpost hroom hBl hlen ?_; intro w5 ho5 hg5; rw [HK.out] at ho5 ⊢)
      | fail))
    have hq := H.out.1 w5 ho5
    have hclr := fun ty => run_clear1 w5 ty g (n1 * 4) (c - n1) (fun j hj => (hq j hj).1) (fun j hj => (hq j hj).2)
    have hi9 : ¬ c = n1 := by omega
    have hE := H.out.2 w5 hg5 ho5
    have HE : Hid _ := hE
    clear hq hE
    go_wp2_with fail
    go_ret
    exact ⟨rfl, HE.out⟩
  · obtain rfl := ho2 hck
    clear ho1 ho2
    go_enter Try.func51, Try.ntmps51
    go_wp2_with fail
    go_region_law
      ((first
      | (refine step_appRoom rfl _ _ rfl (P.take k) HL.out rfl hpre (P.drop k1) rfl hpost hroom hBl hlen ?_; intro w5 ho5 hg5; rw [HK.out] at ho5 ⊢)
      | fail))
    have hq := H.out.1 w5 ho5
    have hclr := fun ty => run_clear1 w5 ty g (n1 * 4) (c - n1) (fun j hj => (hq j hj).1) (fun j hj => (hq j hj).2)
    have hi9 : ¬ c = n1 := by omega
    have hE := H.out.2 w5 hg5 ho5
    have HE : Hid _ := hE
    clear hq hE
    go_wp2_with fail
    go_ret
    exact ⟨rfl, HE.out⟩
end Go.Proofs.Ytpieehbikmmifaa

/- take, Drop and Deliver of a net. -/
namespace Go.Proofs.Ytpieehbikmmifaa
open Go.RowKit Go.Maps
set_option linter.unusedVariables false
set_option maxRecDepth 100000

/-- The messages without one. -/
def dropM (M : List Pk) (k : Nat) : List Pk := M.take k ++ M.drop (k + 1)

theorem set4_block {w : World} {g : Nat} {u0 u1 u2 u3 : Value} {t : TypeId} (h : w.heap[g]? = some (.cells #[u0, u1, u2, u3] t (0, 0))) (v0 v1 v2 v3 : Value) : ((((w.setCell ⟨g, 0, none⟩ v0).setCell ⟨g, 1, none⟩ v1).setCell ⟨g, 2, none⟩ v2).setCell ⟨g, 3, none⟩ v3).heap[g]? = some (.cells #[v0, v1, v2, v3] t (0, 0)) := by
  have h0 := heap_setCell_same w g 0 _ _ v0 h
  have h1 := heap_setCell_same _ g 1 _ _ v1 h0
  have h2 := heap_setCell_same _ g 2 _ _ v2 h1
  have h3 := heap_setCell_same _ g 3 _ _ v3 h2
  rw [h3]
  rfl
theorem set4_chg (w : World) (g : Nat) (v0 v1 v2 v3 : Value) : Chg (fun b => b = g) w ((((w.setCell ⟨g, 0, none⟩ v0).setCell ⟨g, 1, none⟩ v1).setCell ⟨g, 2, none⟩ v2).setCell ⟨g, 3, none⟩ v3) :=
  ((((Chg.refl (fun b => b = g) w).put g 0 v0 rfl).put g 1 v1 rfl).put g 2 v2 rfl).put g 3 v3 rfl
theorem cells4 {w : World} {g : Nat} {u0 u1 u2 u3 : Value} {t : TypeId} (h : w.heap[g]? = some (.cells #[u0, u1, u2, u3] t (0, 0))) : w.cell? ⟨g, 0, none⟩ = some u0 ∧ w.cell? ⟨g, 1, none⟩ = some u1 ∧ w.cell? ⟨g, 2, none⟩ = some u2 ∧ w.cell? ⟨g, 3, none⟩ = some u3 :=
  ⟨by rw [cell_of_row _ _ _ _ _ _ h]; rfl, by rw [cell_of_row _ _ _ _ _ _ h]; rfl, by rw [cell_of_row _ _ _ _ _ _ h]; rfl, by rw [cell_of_row _ _ _ _ _ _ h]; rfl⟩

section
variable {B x A last n : Nat} {M : List Pk} {C : Ct} {S : Nat → Prop} {w w' : World}
theorem take_no (h : Nt B x A last n S M C w) (hU : Rise M) (hl : M.length ≤ 1048576) (id : Int) (hno : isN M id = false) : Calls Try.prog 40 #[.pointer (some ⟨x, 0, none⟩), .int .i64 id] w fun e w' => e = .returned (.tuple #[.agg #[.int .i64 0, .int .i64 0, .int .i64 0, .slice none 0 0], .int .i64 30]) ∧ Below w.heap.size w w' := by
  have h1 := fun W (hb : Below w.heap.size w W) => find_any (h.below hb) hU hl id
  rw [hno] at h1
  go_enter Try.func40, Try.ntmps40
  go_wp2_with fail
  refine (h1 _ (Below.al w _)).mono ?_
  rintro e w1 ⟨rfl, hb1⟩
  have hR : w1.heap[w.heap.size]? = some (.cells #[.int .i64 0, .int .i64 0, .int .i64 0, .slice none 0 0] 46 (0, 0)) := (hb1.block _ (by simp)).trans (block_new w _)
  have r0 : w1.cell? ⟨w.heap.size, 0, none⟩ = some (.int .i64 0) := by rw [cell_of_row _ _ _ _ _ _ hR]; rfl
  have rz0 : w1.frozen? ⟨w.heap.size, 0, none⟩ = false := frozen_of_row _ _ _ _ _ hR
  have r1 : w1.cell? ⟨w.heap.size, 1, none⟩ = some (.int .i64 0) := by rw [cell_of_row _ _ _ _ _ _ hR]; rfl
  have rz1 : w1.frozen? ⟨w.heap.size, 1, none⟩ = false := frozen_of_row _ _ _ _ _ hR
  have r2 : w1.cell? ⟨w.heap.size, 2, none⟩ = some (.int .i64 0) := by rw [cell_of_row _ _ _ _ _ _ hR]; rfl
  have rz2 : w1.frozen? ⟨w.heap.size, 2, none⟩ = false := frozen_of_row _ _ _ _ _ hR
  have r3 : w1.cell? ⟨w.heap.size, 3, none⟩ = some (.slice none 0 0) := by rw [cell_of_row _ _ _ _ _ _ hR]; rfl
  have rz3 : w1.frozen? ⟨w.heap.size, 3, none⟩ = false := frozen_of_row _ _ _ _ _ hR
  have hB1 := Below.tr (Below.al w (.cells #[.int .i64 0, .int .i64 0, .int .i64 0, .slice none 0 0] 46)) hb1
  have hlt : w.heap.size < w1.heap.size := (Array.getElem?_eq_some_iff.1 hR).1
  have hS := set4_block hR (.int .i64 0) (.int .i64 0) (.int .i64 0) (.slice none 0 0)
  have hC : Below w.heap.size w1 ((((w1.setCell ⟨w.heap.size, 0, none⟩ (.int .i64 0)).setCell ⟨w.heap.size, 1, none⟩ (.int .i64 0)).setCell ⟨w.heap.size, 2, none⟩ (.int .i64 0)).setCell ⟨w.heap.size, 3, none⟩ (.slice none 0 0)) := (set4_chg w1 w.heap.size (.int .i64 0) (.int .i64 0) (.int .i64 0) (.slice none 0 0)).below (fun b q => by omega) (by omega)
  go_wp2_with fail
  generalize (((w1.setCell ⟨w.heap.size, 0, none⟩ (.int .i64 0)).setCell ⟨w.heap.size, 1, none⟩ (.int .i64 0)).setCell ⟨w.heap.size, 2, none⟩ (.int .i64 0)).setCell ⟨w.heap.size, 3, none⟩ (.slice none 0 0) = wz at *
  obtain ⟨k0, k1, k2, k3⟩ := cells4 hS
  refine bodyPost_ret (v := .tuple #[.agg #[.int .i64 0, .int .i64 0, .int .i64 0, .slice none 0 0], .int .i64 30]) (by simp [results, Try.results40, go_sem, k0, k1, k2, k3]; try rfl) rfl ?_
  exact ⟨rfl, hB1.trans hC⟩
set_option maxHeartbeats 2000000 in
theorem take_ok (h : Nt B x A last n S M C w) (hU : Rise M) (hl : M.length ≤ 1048576) (id : Int) (hno : isN M id = true) {p : Pk} (hp : M[plN M id]? = some p) : Calls Try.prog 40 #[.pointer (some ⟨x, 0, none⟩), .int .i64 id] w fun e w' => ∃ dv, e = .returned (.tuple #[.agg #[.int .i64 (p.1 : Int), .int .i64 (p.2.1 : Int), .int .i64 (p.2.2.1 : Int), dv], .int .i64 0]) ∧ Rd w' dv p.2.2.2 ∧ Nt B x A last n S (dropM M (plN M id)) C w' ∧ Chg S w w' := by
  have h1 := fun W (hb : Below w.heap.size w W) => find_any (h.below hb) hU hl id
  rw [hno] at h1
  have hlt0 := h.lt
  go_enter Try.func40, Try.ntmps40
  go_wp2_with fail
  refine (h1 _ (Below.al w _)).mono ?_
  rintro e w1 ⟨rfl, hb1⟩
  have hR : w1.heap[w.heap.size]? = some (.cells #[.int .i64 0, .int .i64 0, .int .i64 0, .slice none 0 0] 46 (0, 0)) := (hb1.block _ (by simp)).trans (block_new w _)
  have hB1 := Below.tr (Below.al w (.cells #[.int .i64 0, .int .i64 0, .int .i64 0, .slice none 0 0] 46)) hb1
  have hRl : w.heap.size < w1.heap.size := (Array.getElem?_eq_some_iff.1 hR).1
  have hN1 := h.below hB1
  clear h1 hb1
  obtain ⟨uv, P, m, D, rfl, hI⟩ := hN1
  rw [List.length_map] at hl
  rw [List.getElem?_map] at hp
  generalize hk : plN (P.map (·.1)) id = k at *
  obtain ⟨⟨⟨id0, fr, to_, da⟩, dv⟩, hy, rfl⟩ := Option.map_eq_some_iff.1 hp
  have hkl := (List.getElem?_eq_some_iff.1 hy).1
  obtain ⟨c0, c1, c2, c3, cz⟩ := hI.cells
  obtain ⟨a, c, rfl, e1, e2, e3, e4⟩ := hI.shape
  obtain ⟨g, rfl, g0, g1, g2, g3, gz⟩ := e4 k _ hy
  have hd := hI.data _ (List.mem_of_getElem? hy)
  simp only [] at hd g0 g1 g2 g3
  have hd' := hd
  obtain ⟨ad, cd, rfl, _⟩ := hd'
  unfold maxLen at e2
  have hsl : ∀ q ∈ P, ∃ b m k, q.2 = .slice b m k := fun q hq => by obtain ⟨ao, c, e, _⟩ := hI.data q hq; exact ⟨_, _, _, e⟩
  have hIv : NtI B x A last (.slice (some ⟨g, 0, none⟩) P.length c) P m n D C S (w1.alloc (.cells #[.int .i64 (id0 : Int), .int .i64 (fr : Int), .int .i64 (to_ : Int), .slice ad da.length cd] 46)) := hI.next (Chg.of_below (Below.al w1 _)) (fun b hs q => by have := (hI.lo b hs).2; omega)
  have hVb := block_new w1 (.cells #[.int .i64 (id0 : Int), .int .i64 (fr : Int), .int .i64 (to_ : Int), .slice ad da.length cd] 46)
  have hVs : (w1.alloc (.cells #[.int .i64 (id0 : Int), .int .i64 (fr : Int), .int .i64 (to_ : Int), .slice ad da.length cd] 46)).heap.size = w1.heap.size + 1 := by simp
  have hRv : (w1.alloc (.cells #[.int .i64 (id0 : Int), .int .i64 (fr : Int), .int .i64 (to_ : Int), .slice ad da.length cd] 46)).heap[w.heap.size]? = some (.cells #[.int .i64 0, .int .i64 0, .int .i64 0, .slice none 0 0] 46 (0, 0)) := (Below.heap_alloc _ _ _ hRl).trans hR
  have hdel := delete_any (k := k) (k1 := k + 1) (n1 := P.length - 1) hIv.row rfl hl hsl hkl rfl (by omega)
  obtain ⟨k1, hk1⟩ : ∃ k1, k + 1 = k1 := ⟨_, rfl⟩
  rw [hk1] at hdel
  have hki : (k : Int) + 1 = (k1 : Int) := by omega
  have HK : Hid _ := And.intro hk1 hk
  have HI : Hid _ := And.intro hI (And.intro hIv (And.intro hd hy))
  have hgx : x ≠ g := fun e => (hI.sf g rfl).2.1 e.symm
  have hgl := (hI.lo g (hI.sf g rfl).1).2
  have hxl := (hI.lo x hI.sx).2
  have hRS : ¬ S w.heap.size := fun q => by have := (hlt0 _ q).2; omega
  have hgR : g ≠ w.heap.size := fun e => hRS (by rw [← e]; exact (hI.sf g rfl).1)
  have hgV : g ≠ w1.heap.size := by omega
  clear hk1 hk hp hI e4 gz cz hno hU
  go_wp2_with fail
  refine hdel.mono ?_
  rintro e w3 ⟨rfl, ho3, hc3⟩
  obtain ⟨hI, hIv, hd, hy⟩ := HI.out
  have hs3 := hc3.size
  have hx3 : w3.heap[x]? = some (.cells #[.int .i64 (A : Int), .int .i64 (last : Int), .slice (some ⟨g, 0, none⟩) P.length c, .map (some m)] 61 (0, 0)) := (hc3.block x (by omega) hgx).trans hIv.cell
  have hV3 : w3.heap[w1.heap.size]? = some (.cells #[.int .i64 (id0 : Int), .int .i64 (fr : Int), .int .i64 (to_ : Int), .slice ad da.length cd] 46 (0, 0)) := (hc3.block _ (by omega) (fun e => hgV e.symm)).trans hVb
  have hR3 : w3.heap[w.heap.size]? = some (.cells #[.int .i64 0, .int .i64 0, .int .i64 0, .slice none 0 0] 46 (0, 0)) := (hc3.block _ (by omega) (fun e => hgR e.symm)).trans hRv
  have hmem : ∀ q ∈ P.take k ++ P.drop k1, q ∈ P := fun q hq => by
    rcases List.mem_append.1 hq with q1 | q1
    · exact List.mem_of_mem_take q1
    · exact List.mem_of_mem_drop q1
  have hNew := hIv.newRow (S' := S) (last' := last) (hc3.mono (fun b _ q => .inr (by rw [q]; rfl))) hx3 ho3 (.inl rfl) (fun q hq => ⟨hIv.data q (hmem q hq), fun b e => ⟨(hIv.sd q (hmem q hq) b e).1, (hIv.lo b (hIv.sd q (hmem q hq) b e).1).2, (hIv.sd q (hmem q hq) b e).2⟩⟩) (fun b q => q) (fun b e => (hIv.sf b e).1) (fun b hb => ⟨(hIv.lo b hb).1, Nat.lt_of_lt_of_le (hIv.lo b hb).2 hs3⟩)
  have hxV : x ≠ w1.heap.size := by omega
  have hxR : x ≠ w.heap.size := fun e => hRS (by rw [← e]; exact hI.sx)
  have hRV : w.heap.size ≠ w1.heap.size := by omega
  have hc4 : Chg (fun b => b = x) w3 (w3.setCell ⟨x, 2, none⟩ (.slice (some ⟨g, 0, none⟩) (P.length - 1) c)) := (Chg.refl (fun b => b = x) w3).put x 2 _ rfl
  have hV4 := (hc4.block w1.heap.size (Array.getElem?_eq_some_iff.1 hV3).1 (fun e => hxV e.symm)).trans hV3
  have hR4 := (hc4.block w.heap.size (Array.getElem?_eq_some_iff.1 hR3).1 (fun e => hxR e.symm)).trans hR3
  obtain ⟨x0, x1, x2, x3⟩ := cells4 hx3
  have xz : w3.frozen? ⟨x, 2, none⟩ = false := frozen_of_row _ _ _ _ _ hx3
  obtain ⟨v0, v1, v2, v3⟩ := cells4 hV3
  obtain ⟨r0, r1, r2, r3⟩ := cells4 hR3
  have rz0 : w3.frozen? ⟨w.heap.size, 0, none⟩ = false := frozen_of_row _ _ _ _ _ hR3
  have rz1 : w3.frozen? ⟨w.heap.size, 1, none⟩ = false := frozen_of_row _ _ _ _ _ hR3
  have rz2 : w3.frozen? ⟨w.heap.size, 2, none⟩ = false := frozen_of_row _ _ _ _ _ hR3
  have rz3 : w3.frozen? ⟨w.heap.size, 3, none⟩ = false := frozen_of_row _ _ _ _ _ hR3
  have hFin : ∀ wz, Chg (fun b => b = w.heap.size) (w3.setCell ⟨x, 2, none⟩ (.slice (some ⟨g, 0, none⟩) (P.length - 1) c)) wz → Rd wz (.slice ad da.length cd) da ∧ Nt B x A last n S (dropM (P.map (·.1)) k) C wz ∧ Chg S w wz := fun wz hcz => by
    have hNz := hNew.1.next hcz (fun b hs e => hRS (by rw [← e]; exact hs))
    have hsd := hI.sd _ (List.mem_of_getElem? hy)
    simp only [] at hsd
    refine ⟨(((hd.alloc _).keptC hc3 (fun b e q => (hsd b e).2.2.2 (by rw [q]; rfl))).keptC hc4 (fun b e q => (hsd b e).2.1 q)).keptC hcz (fun b e q => hRS (by rw [← q]; exact (hsd b e).1)), ⟨_, _, m, D, ?_, hNz⟩, ?_⟩
    · unfold dropM
      rw [← HK.out.1]
      simp [List.map_take, List.map_drop]
    · exact (((((Chg.of_below hB1).mono (fun b hb q => absurd hb (Nat.not_lt.2 q))).alloc (.cells #[.int .i64 (id0 : Int), .int .i64 (fr : Int), .int .i64 (to_ : Int), .slice ad da.length cd] 46)).trans (hNew.2.mono (fun b _ q => .inl q)))).trans (hcz.mono (fun b _ q => .inr (Nat.le_of_eq q.symm)))
  have HF : Hid _ := And.intro hFin (set4_block hR4 (.int .i64 (id0 : Int)) (.int .i64 (fr : Int)) (.int .i64 (to_ : Int)) (.slice ad da.length cd))
  clear hFin hI hIv hNew hc4 hV4 hR4 ho3 hc3
  go_wp2_with fail
  obtain ⟨hFin, hS4⟩ := HF.out
  have hF2 := hFin _ (set4_chg _ w.heap.size (.int .i64 (id0 : Int)) (.int .i64 (fr : Int)) (.int .i64 (to_ : Int)) (.slice ad da.length cd))
  generalize ((((w3.setCell ⟨x, 2, none⟩ (.slice (some ⟨g, 0, none⟩) (P.length - 1) c)).setCell ⟨w.heap.size, 0, none⟩ (.int .i64 (id0 : Int))).setCell ⟨w.heap.size, 1, none⟩ (.int .i64 (fr : Int))).setCell ⟨w.heap.size, 2, none⟩ (.int .i64 (to_ : Int))).setCell ⟨w.heap.size, 3, none⟩ (.slice ad da.length cd) = wz at *
  obtain ⟨k0, k1', k2, k3⟩ := cells4 hS4
  refine bodyPost_ret (v := .tuple #[.agg #[.int .i64 (id0 : Int), .int .i64 (fr : Int), .int .i64 (to_ : Int), .slice ad da.length cd], .int .i64 0]) (by simp [results, Try.results40, go_sem, k0, k1', k2, k3]; try rfl) rfl ?_
  rw [HK.out.2]
  exact ⟨_, rfl, hF2⟩
end
end Go.Proofs.Ytpieehbikmmifaa

/- Drop of a net; Deliver of what is not there. -/
namespace Go.Proofs.Ytpieehbikmmifaa
open Go.RowKit Go.Maps
set_option linter.unusedVariables false
set_option maxRecDepth 100000

section
variable {B x A last n : Nat} {M : List Pk} {C : Ct} {S : Nat → Prop} {w w' : World}
theorem drop_no (h : Nt B x A last n S M C w) (hU : Rise M) (hl : M.length ≤ 1048576) (id : Int) (hno : isN M id = false) : Calls Try.prog 19 #[.pointer (some ⟨x, 0, none⟩), .int .i64 id] w fun e w' => e = .returned (.int .i64 30) ∧ Below w.heap.size w w' := by
  go_enter Try.func19, Try.ntmps19
  go_wp2_with fail
  refine (take_no h hU hl id hno).mono ?_
  rintro e w1 ⟨rfl, hb1⟩
  go_wp2_with fail
  go_ret
  exact ⟨rfl, Below.tr hb1 (Below.al w1 _)⟩
theorem drop_ok (h : Nt B x A last n S M C w) (hU : Rise M) (hl : M.length ≤ 1048576) (id : Int) (hno : isN M id = true) : Calls Try.prog 19 #[.pointer (some ⟨x, 0, none⟩), .int .i64 id] w fun e w' => e = .returned (.int .i64 0) ∧ Nt B x A last n S (dropM M (plN M id)) C w' ∧ Chg S w w' := by
  obtain ⟨p, hp, _⟩ := isN_at hno
  go_enter Try.func19, Try.ntmps19
  go_wp2_with fail
  refine (take_ok h hU hl id hno hp).mono ?_
  rintro e w1 ⟨dv, rfl, hd, hN, hc⟩
  obtain ⟨ad, cd, rfl, _⟩ := hd
  have H : Hid _ := And.intro hN hc
  clear hN hc
  go_wp2_with fail
  go_ret
  exact ⟨rfl, H.out.1.below (Below.al w1 _), H.out.2.alloc _⟩
theorem deliver_no (h : Nt B x A last n S M C w) (hU : Rise M) (hl : M.length ≤ 1048576) (id : Int) (hno : isN M id = false) : Calls Try.prog 17 #[.pointer (some ⟨x, 0, none⟩), .int .i64 id] w fun e w' => e = .returned (.tuple #[.agg #[.int .i64 0, .int .i64 0, .int .i64 0, .slice none 0 0], .int .i64 30]) ∧ Below w.heap.size w w' := by
  have h1 := fun W (hb : Below w.heap.size w W) => take_no (h.below hb) hU hl id hno
  go_enter Try.func17, Try.ntmps17
  go_wp2_with fail
  refine (h1 _ (Below.al w _)).mono ?_
  rintro e w1 ⟨rfl, hb1⟩
  have hR : w1.heap[w.heap.size]? = some (.cells #[.int .i64 0, .int .i64 0, .int .i64 0, .slice none 0 0] 46 (0, 0)) := (hb1.block _ (by simp)).trans (block_new w _)
  have hB1 := Below.tr (Below.al w (.cells #[.int .i64 0, .int .i64 0, .int .i64 0, .slice none 0 0] 46)) hb1
  have hRl : w.heap.size < w1.heap.size := (Array.getElem?_eq_some_iff.1 hR).1
  have hRn : w.heap.size ≠ w1.heap.size := by omega
  obtain ⟨r0, r1, r2, r3⟩ := cells4 hR
  have rz0 : w1.frozen? ⟨w.heap.size, 0, none⟩ = false := frozen_of_row _ _ _ _ _ hR
  have rz1 : w1.frozen? ⟨w.heap.size, 1, none⟩ = false := frozen_of_row _ _ _ _ _ hR
  have rz2 : w1.frozen? ⟨w.heap.size, 2, none⟩ = false := frozen_of_row _ _ _ _ _ hR
  have rz3 : w1.frozen? ⟨w.heap.size, 3, none⟩ = false := frozen_of_row _ _ _ _ _ hR
  have hS := set4_block hR (.int .i64 0) (.int .i64 0) (.int .i64 0) (.slice none 0 0)
  have hC : Below w.heap.size w1 ((((w1.setCell ⟨w.heap.size, 0, none⟩ (.int .i64 0)).setCell ⟨w.heap.size, 1, none⟩ (.int .i64 0)).setCell ⟨w.heap.size, 2, none⟩ (.int .i64 0)).setCell ⟨w.heap.size, 3, none⟩ (.slice none 0 0)) := (set4_chg w1 w.heap.size (.int .i64 0) (.int .i64 0) (.int .i64 0) (.slice none 0 0)).below (fun b q => by omega) (by omega)
  have HS : Hid _ := And.intro hS hC
  clear hS hC
  go_wp2_with fail
  obtain ⟨hS, hC⟩ := HS.out
  generalize ((((w1.setCell ⟨w.heap.size, 0, none⟩ (.int .i64 0)).setCell ⟨w.heap.size, 1, none⟩ (.int .i64 0)).setCell ⟨w.heap.size, 2, none⟩ (.int .i64 0)).setCell ⟨w.heap.size, 3, none⟩ (.slice none 0 0)) = wz at *
  have hzl : w.heap.size < wz.heap.size := (Array.getElem?_eq_some_iff.1 hS).1
  have hS2 : (wz.alloc (.cells #[.int .i64 0, .int .i64 0, .int .i64 0, .slice none 0 0] 46)).heap[w.heap.size]? = some (.cells #[.int .i64 0, .int .i64 0, .int .i64 0, .slice none 0 0] 46 (0, 0)) := (Below.heap_alloc _ _ _ hzl).trans hS
  have hB2 := (hB1.trans hC).trans ((Below.al wz (.cells #[.int .i64 0, .int .i64 0, .int .i64 0, .slice none 0 0] 46)).mono (by omega))
  generalize wz.alloc (.cells #[.int .i64 0, .int .i64 0, .int .i64 0, .slice none 0 0] 46) = wy at *
  obtain ⟨k0, k1, k2, k3⟩ := cells4 hS2
  refine bodyPost_ret (v := .tuple #[.agg #[.int .i64 0, .int .i64 0, .int .i64 0, .slice none 0 0], .int .i64 30]) (by simp [results, Try.results17, go_sem, k0, k1, k2, k3]; try rfl) rfl ?_
  exact ⟨rfl, hB2⟩

set_option maxHeartbeats 2000000 in
theorem deliver_cut (h : Nt B x A last n S M C w) (hU : Rise M) (hl : M.length ≤ 1048576) (id : Int) (hno : isN M id = true) {p : Pk} (hp : M[plN M id]? = some p) (hft : p.2.1 ≤ 64 ∧ p.2.2.1 ≤ 64) (hCt : C (min (p.2.1 : Int) (p.2.2.1 : Int)) (max (p.2.1 : Int) (p.2.2.1 : Int)) = true) : Calls Try.prog 17 #[.pointer (some ⟨x, 0, none⟩), .int .i64 id] w fun e w' => e = .returned (.tuple #[.agg #[.int .i64 0, .int .i64 0, .int .i64 0, .slice none 0 0], .int .i64 31]) ∧ Nt B x A last n S (dropM M (plN M id)) C w' ∧ Chg S w w' := by
  have h1 := fun W (hb : Below w.heap.size w W) => take_ok (h.below hb) hU hl id hno hp
  have hlt0 := h.lt
  obtain ⟨id0, fr, to_, da⟩ := p
  simp only [] at *
  go_enter Try.func17, Try.ntmps17
  go_wp2_with fail
  refine (h1 _ (Below.al w _)).mono ?_
  rintro e w1 ⟨dv, rfl, hd, hN1, hc1⟩
  have hRS : ¬ S w.heap.size := fun q => by have := (hlt0 _ q).2; omega
  have hR : w1.heap[w.heap.size]? = some (.cells #[.int .i64 0, .int .i64 0, .int .i64 0, .slice none 0 0] 46 (0, 0)) := (hc1.block _ (by simp) hRS).trans (block_new w _)
  have hRl : w.heap.size < w1.heap.size := (Array.getElem?_eq_some_iff.1 hR).1
  obtain ⟨ad, cd, rfl, _⟩ := hd
  have hcut := fun W (hb : Below w1.heap.size w1 W) => isCut_any (hN1.below hb) (fr : Int) (to_ : Int) (by unfold I64; omega) (by unfold I64; omega)
  rw [hCt] at hcut
  have H : Hid _ := And.intro hN1 hc1
  clear hN1 hc1 h1 hp
  go_wp2_with fail
  refine (hcut _ (Below.al w1 _)).mono ?_
  rintro e w2 ⟨rfl, hb2⟩
  have hB2 := Below.tr (Below.al w1 (.cells #[.int .i64 (id0 : Int), .int .i64 (fr : Int), .int .i64 (to_ : Int), .slice ad da.length cd] 46)) hb2
  have hR2 : w2.heap[w.heap.size]? = some (.cells #[.int .i64 0, .int .i64 0, .int .i64 0, .slice none 0 0] 46 (0, 0)) := (hB2.block _ hRl).trans hR
  obtain ⟨r0, r1, r2, r3⟩ := cells4 hR2
  have rz0 : w2.frozen? ⟨w.heap.size, 0, none⟩ = false := frozen_of_row _ _ _ _ _ hR2
  have rz1 : w2.frozen? ⟨w.heap.size, 1, none⟩ = false := frozen_of_row _ _ _ _ _ hR2
  have rz2 : w2.frozen? ⟨w.heap.size, 2, none⟩ = false := frozen_of_row _ _ _ _ _ hR2
  have rz3 : w2.frozen? ⟨w.heap.size, 3, none⟩ = false := frozen_of_row _ _ _ _ _ hR2
  have HS : Hid _ := And.intro (set4_block hR2 (.int .i64 0) (.int .i64 0) (.int .i64 0) (.slice none 0 0)) (set4_chg w2 w.heap.size (.int .i64 0) (.int .i64 0) (.int .i64 0) (.slice none 0 0))
  go_wp2_with fail
  obtain ⟨hS, hC⟩ := HS.out
  generalize ((((w2.setCell ⟨w.heap.size, 0, none⟩ (.int .i64 0)).setCell ⟨w.heap.size, 1, none⟩ (.int .i64 0)).setCell ⟨w.heap.size, 2, none⟩ (.int .i64 0)).setCell ⟨w.heap.size, 3, none⟩ (.slice none 0 0)) = wz at *
  obtain ⟨k0, k1, k2, k3⟩ := cells4 hS
  refine bodyPost_ret (v := .tuple #[.agg #[.int .i64 0, .int .i64 0, .int .i64 0, .slice none 0 0], .int .i64 31]) (by simp [results, Try.results17, go_sem, k0, k1, k2, k3]; try rfl) rfl ?_
  obtain ⟨hN1, hc1⟩ := H.out
  exact ⟨rfl, (hN1.below hB2).next hC (fun b hs e => hRS (by rw [← e]; exact hs)), ((((Chg.refl S w).alloc (.cells #[.int .i64 0, .int .i64 0, .int .i64 0, .slice none 0 0] 46)).trans (hc1.mono (fun b _ q => .inl q))).trans ((Chg.of_below hB2).mono (fun b hb q => absurd hb (Nat.not_lt.2 q)))).trans (hC.mono (fun b _ q => .inr (Nat.le_of_eq q.symm)))⟩
end
end Go.Proofs.Ytpieehbikmmifaa

/- Deliver of a net. -/
namespace Go.Proofs.Ytpieehbikmmifaa
open Go.RowKit Go.Maps
set_option linter.unusedVariables false
set_option maxRecDepth 100000

section
variable {B x A last n : Nat} {M : List Pk} {C : Ct} {S : Nat → Prop} {w w' : World}
set_option maxHeartbeats 2000000 in
theorem deliver_ok (h : Nt B x A last n S M C w) (hU : Rise M) (hl : M.length ≤ 1048576) (id : Int) (hno : isN M id = true) {p : Pk} (hp : M[plN M id]? = some p) (hft : p.2.1 ≤ 64 ∧ p.2.2.1 ≤ 64) (hdl : p.2.2.2.length ≤ 1099511627776) (hCt : C (min (p.2.1 : Int) (p.2.2.1 : Int)) (max (p.2.1 : Int) (p.2.2.1 : Int)) = false) : Calls Try.prog 17 #[.pointer (some ⟨x, 0, none⟩), .int .i64 id] w fun e w' => ∃ v', e = .returned (.tuple #[.agg #[.int .i64 (p.1 : Int), .int .i64 (p.2.1 : Int), .int .i64 (p.2.2.1 : Int), v'], .int .i64 0]) ∧ Ow w.heap.size w' v' p.2.2.2 ∧ Nt B x A last n S (dropM M (plN M id)) C w' ∧ Chg S w w' := by
  have h1 := fun W (hb : Below w.heap.size w W) => take_ok (h.below hb) hU hl id hno hp
  have hlt0 := h.lt
  obtain ⟨id0, fr, to_, da⟩ := p
  simp only [] at *
  go_enter Try.func17, Try.ntmps17
  go_wp2_with fail
  refine (h1 _ (Below.al w _)).mono ?_
  rintro e w1 ⟨dv, rfl, hd, hN1, hc1⟩
  have hRS : ¬ S w.heap.size := fun q => by have := (hlt0 _ q).2; omega
  have hR : w1.heap[w.heap.size]? = some (.cells #[.int .i64 0, .int .i64 0, .int .i64 0, .slice none 0 0] 46 (0, 0)) := (hc1.block _ (by simp) hRS).trans (block_new w _)
  have hRl : w.heap.size < w1.heap.size := (Array.getElem?_eq_some_iff.1 hR).1
  have hd' := hd
  obtain ⟨ad, cd, rfl, _⟩ := hd'
  have hcut := fun W (hb : Below w1.heap.size w1 W) => isCut_any (hN1.below hb) (fr : Int) (to_ : Int) (by unfold I64; omega) (by unfold I64; omega)
  rw [hCt] at hcut
  have hV := block_new w1 (.cells #[.int .i64 (id0 : Int), .int .i64 (fr : Int), .int .i64 (to_ : Int), .slice ad da.length cd] 46)
  have hVs : (w1.alloc (.cells #[.int .i64 (id0 : Int), .int .i64 (fr : Int), .int .i64 (to_ : Int), .slice ad da.length cd] 46)).heap.size = w1.heap.size + 1 := by simp
  have H : Hid _ := And.intro hN1 hc1
  have hN1l := hN1.lt
  clear hN1 hc1 h1 hp
  go_wp2_with fail
  refine (hcut _ (Below.al w1 _)).mono ?_
  rintro e w2 ⟨rfl, hb2⟩
  have hB2 := Below.tr (Below.al w1 (.cells #[.int .i64 (id0 : Int), .int .i64 (fr : Int), .int .i64 (to_ : Int), .slice ad da.length cd] 46)) hb2
  have hs2 := hb2.size
  have hR2 : w2.heap[w.heap.size]? = some (.cells #[.int .i64 0, .int .i64 0, .int .i64 0, .slice none 0 0] 46 (0, 0)) := (hB2.block _ hRl).trans hR
  have hV2 : w2.heap[w1.heap.size]? = some (.cells #[.int .i64 (id0 : Int), .int .i64 (fr : Int), .int .i64 (to_ : Int), .slice ad da.length cd] 46 (0, 0)) := (hb2.block _ (by omega)).trans hV
  have hd2 := hd.below hB2 (Nat.le_refl _)
  obtain ⟨v0, v1, v2, v3⟩ := cells4 hV2
  go_wp2_with fail
  refine (nclone_any hd2 (by omega)).mono ?_
  rintro e w3 ⟨v5, rfl, ho5, hb5⟩
  obtain ⟨a5, n5, c5, rfl⟩ := rowP_shape ho5
  have hs3 := hb5.size
  have hR3 := (hb5.block w.heap.size (by omega)).trans hR2
  have hV3 := (hb5.block w1.heap.size (by omega)).trans hV2
  have hVR : w.heap.size ≠ w1.heap.size := by omega
  obtain ⟨r0, r1, r2, r3⟩ := cells4 hR3
  have rz0 : w3.frozen? ⟨w.heap.size, 0, none⟩ = false := frozen_of_row _ _ _ _ _ hR3
  have rz1 : w3.frozen? ⟨w.heap.size, 1, none⟩ = false := frozen_of_row _ _ _ _ _ hR3
  have rz2 : w3.frozen? ⟨w.heap.size, 2, none⟩ = false := frozen_of_row _ _ _ _ _ hR3
  have rz3 : w3.frozen? ⟨w.heap.size, 3, none⟩ = false := frozen_of_row _ _ _ _ _ hR3
  obtain ⟨y0, y1, y2, y3⟩ := cells4 hV3
  have yz3 : w3.frozen? ⟨w1.heap.size, 3, none⟩ = false := frozen_of_row _ _ _ _ _ hV3
  have hc4 : Chg (fun b => b = w1.heap.size) w3 (w3.setCell ⟨w1.heap.size, 3, none⟩ (.slice a5 n5 c5)) := (Chg.refl (fun b => b = w1.heap.size) w3).put _ 3 _ rfl
  have hR4 := (hc4.block w.heap.size (by omega) hVR).trans hR3
  have HS : Hid _ := And.intro hc4 (And.intro (set4_block hR4 (.int .i64 (id0 : Int)) (.int .i64 (fr : Int)) (.int .i64 (to_ : Int)) (.slice a5 n5 c5)) (set4_chg (w3.setCell ⟨w1.heap.size, 3, none⟩ (.slice a5 n5 c5)) w.heap.size (.int .i64 (id0 : Int)) (.int .i64 (fr : Int)) (.int .i64 (to_ : Int)) (.slice a5 n5 c5)))
  clear hc4 hR4
  go_wp2_with fail
  obtain ⟨hc4, hS, hC⟩ := HS.out
  generalize ((((w3.setCell ⟨w1.heap.size, 3, none⟩ (.slice a5 n5 c5)).setCell ⟨w.heap.size, 0, none⟩ (.int .i64 (id0 : Int))).setCell ⟨w.heap.size, 1, none⟩ (.int .i64 (fr : Int))).setCell ⟨w.heap.size, 2, none⟩ (.int .i64 (to_ : Int))).setCell ⟨w.heap.size, 3, none⟩ (.slice a5 n5 c5) = wz at *
  obtain ⟨k0, k1, k2, k3⟩ := cells4 hS
  refine bodyPost_ret (v := .tuple #[.agg #[.int .i64 (id0 : Int), .int .i64 (fr : Int), .int .i64 (to_ : Int), .slice a5 n5 c5], .int .i64 0]) (by simp [results, Try.results17, go_sem, k0, k1, k2, k3]; try rfl) rfl ?_
  obtain ⟨hN1, hc1⟩ := H.out
  have hB3 := Below.tr hB2 hb5
  have hVS : ¬ S w1.heap.size := fun q => by have := (hN1l _ q).2; omega
  refine ⟨_, rfl, ((ho5.keptC hc4 (fun b e q => by have := (World.ownsRow.lt ho5 b e).1; omega)).keptC hC (fun b e q => by have := (World.ownsRow.lt ho5 b e).1; omega)).mono (by omega), ((hN1.below hB3).next hc4 (fun b hs e => hVS (by rw [← e]; exact hs))).next hC (fun b hs e => hRS (by rw [← e]; exact hs)), ?_⟩
  exact (((((Chg.refl S w).alloc (.cells #[.int .i64 0, .int .i64 0, .int .i64 0, .slice none 0 0] 46)).trans (hc1.mono (fun b _ q => .inl q))).trans ((Chg.of_below hB3).mono (fun b hb q => absurd hb (Nat.not_lt.2 q)))).trans (hc4.mono (fun b _ q => .inr (by omega)))).trans (hC.mono (fun b _ q => .inr (Nat.le_of_eq q.symm)))
end
end Go.Proofs.Ytpieehbikmmifaa

/- Plain mathematics: what holds of a net's messages behind each call. -/
namespace Go.Proofs.Ytpieehbikmmifaa
set_option linter.unusedVariables false
set_option maxRecDepth 100000

/-- What holds of the messages of a net of A actors whose last number is given. -/
structure InvM (A last : Nat) (M : List Pk) : Prop where
  rise : Rise M
  le : ∀ p ∈ M, 1 ≤ p.1 ∧ p.1 ≤ last
  len : M.length ≤ 256
  act : ∀ p ∈ M, (1 ≤ p.2.1 ∧ p.2.1 ≤ A) ∧ (1 ≤ p.2.2.1 ∧ p.2.2.1 ≤ A)
  small : ∀ p ∈ M, p.2.2.2.length ≤ 1048576
theorem InvM.nil (A last : Nat) : InvM A last [] := ⟨List.Pairwise.nil, (fun p hp => by cases hp), by simp, (fun p hp => by cases hp), (fun p hp => by cases hp)⟩
theorem InvM.put {A last : Nat} {M : List Pk} (h : InvM A last M) (hl : M.length < 256) (a b : Nat) (ha : 1 ≤ a ∧ a ≤ A) (hb : 1 ≤ b ∧ b ≤ A) (l : List UInt8) (hd : l.length ≤ 1048576) : InvM A (last + 1) (M ++ [(last + 1, a, b, l)]) := by
  refine ⟨?_, fun p hp => ?_, by rw [List.length_append]; simp; omega, fun p hp => ?_, fun p hp => ?_⟩
  · refine List.pairwise_append.2 ⟨h.rise, by simp, fun p hp q hq => ?_⟩
    rw [List.mem_singleton.1 hq]
    have := (h.le p hp).2
    simp only []
    omega
  · rcases List.mem_append.1 hp with q | q
    · have := h.le p q; omega
    · rw [List.mem_singleton.1 q]; simp
  · rcases List.mem_append.1 hp with q | q
    · exact h.act p q
    · rw [List.mem_singleton.1 q]; exact ⟨ha, hb⟩
  · rcases List.mem_append.1 hp with q | q
    · exact h.small p q
    · rw [List.mem_singleton.1 q]; exact hd
theorem dropM_sub (M : List Pk) (k : Nat) : (dropM M k).Sublist M := by
  unfold dropM
  have h1 : (M.drop (k + 1)).Sublist (M.drop k) := by
    rw [← List.drop_drop]
    exact List.drop_sublist 1 _
  have h2 := (List.Sublist.refl (M.take k)).append h1
  rwa [List.take_append_drop] at h2
theorem dropM_len (M : List Pk) (k : Nat) (hk : k < M.length) : (dropM M k).length + 1 = M.length := by unfold dropM; rw [List.length_append, List.length_take, List.length_drop]; omega
theorem InvM.drop {A last : Nat} {M : List Pk} (h : InvM A last M) (k : Nat) : InvM A last (dropM M k) := by
  have hs := dropM_sub M k
  exact ⟨h.rise.sublist hs, fun p hp => h.le p (hs.subset hp), Nat.le_trans hs.length_le h.len, fun p hp => h.act p (hs.subset hp), fun p hp => h.small p (hs.subset hp)⟩
/-- A number is there just if a message bears it. -/
theorem isN_iff {M : List Pk} (h : Rise M) (id : Int) : isN M id = true ↔ ∃ p ∈ M, (p.1 : Int) = id := by
  constructor
  · intro q
    obtain ⟨p, hp, e⟩ := isN_at q
    exact ⟨p, List.mem_of_getElem? hp, e⟩
  · rintro ⟨p, hp, e⟩
    obtain ⟨j, hj, ej⟩ := List.getElem_of_mem hp
    have hpl : plN M id = j := plN_eq (fun k x hk e2 => by
      obtain ⟨hk2, ek⟩ := List.getElem?_eq_some_iff.1 e2
      have := List.pairwise_iff_getElem.1 h k j hk2 hj hk
      rw [ek, ej] at this
      omega) (fun x e2 => by
      rw [List.getElem?_eq_getElem hj, ej] at e2
      obtain rfl := Option.some.inj e2
      omega) (by omega)
    unfold isN
    rw [hpl, List.getElem?_eq_getElem hj, ej]
    simpa using e
/-- Behind the taking it is not there. -/
theorem isN_gone {M : List Pk} (h : Rise M) (id : Int) (hn : isN M id = true) : isN (dropM M (plN M id)) id = false := by
  obtain ⟨p, hp, e⟩ := isN_at hn
  obtain ⟨hk, ek⟩ := List.getElem?_eq_some_iff.1 hp
  cases q : isN (dropM M (plN M id)) id with
  | false => rfl
  | true =>
    obtain ⟨r, hr, e2⟩ := (isN_iff (h.sublist (dropM_sub M _)) id).1 q
    unfold dropM at hr
    rcases List.mem_append.1 hr with q1 | q1
    · obtain ⟨j, hj, ej⟩ := List.getElem_of_mem q1
      rw [List.length_take] at hj
      rw [List.getElem_take] at ej
      have := List.pairwise_iff_getElem.1 h j (plN M id) (by omega) hk (by omega)
      rw [ej, ek] at this
      omega
    · obtain ⟨j, hj, ej⟩ := List.getElem_of_mem q1
      rw [List.length_drop] at hj
      rw [List.getElem_drop] at ej
      have := List.pairwise_iff_getElem.1 h (plN M id) (plN M id + 1 + j) hk (by omega) (by omega)
      rw [ej, ek] at this
      omega
end Go.Proofs.Ytpieehbikmmifaa

/- How an argument that came in is read: a slice of bytes as 'Rd', with the form's own bound on its length. -/
namespace Go.Proofs.Ytpieehbikmmifaa
open Go.ChangeShapes Go.WideShapes Go.ChangeAt Go.RowKit
set_option linter.unusedVariables false
set_option maxRecDepth 100000

theorem Try.bytes5 : Try.prog.bytesOf 5 = 1 := by kernel_rfl

/-- A slice of bytes that came in. -/
theorem open_bytes {H : Type} {enc : TypeId × Value → H} {W : World} {a0 : Option Addr} {len cap : Nat} {d : DataW H} {p : List MemPlace} (h : DataW.Trod enc Try.prog W 0 (fun _ => true) true 33 (.slice a0 len cap) d p) :
    ∃ l : List UInt8, Rd W (.slice a0 len cap) l ∧ l.length = len ∧ ∃ zs : List Int, (a0 = none ∧ len = 0) ∨ d = .slice (lits .u8 (zs.take len)) (lits .u8 (zs.drop len)) ∧ zs.length = cap ∧ len ≤ cap := by
  obtain ⟨fuel, hf⟩ := h
  rcases open_ints Try.underlying33 Try.underlying5 (by kernel_rfl) hf with ⟨hcs, _⟩ | ⟨x, n, c, zs, hcs, _, hl, hm, hz, hd, hcell, hwz⟩
  · simp [Value.cells] at hcs
    obtain ⟨rfl, rfl, rfl⟩ := hcs
    exact ⟨[], Rd.nil _, rfl, [], .inl ⟨rfl, rfl⟩⟩
  · simp [Value.cells] at hcs
    obtain ⟨rfl, rfl, rfl⟩ := hcs
    have hz' : zs.length = cap := by simpa using hz
    have hlen : ((zs.take len).map (fun z => UInt8.ofNat z.toNat)).length = len := by simp; omega
    refine ⟨(zs.take len).map (fun z => UInt8.ofNat z.toNat), Rd.mk hlen.symm (by omega) hm (fun i hi => ?_), hlen, zs, .inr ⟨?_, hz', hl⟩⟩
    · have hi' : i < zs.length := by omega
      rw [hcell i hi']
      have hw := hwz (zs[i]) (List.getElem_mem hi')
      have hx : 0 ≤ zs[i] ∧ zs[i] ≤ 255 := by simpa [Lit.wf, IntKind.min, IntKind.max, IntKind.signed, IntKind.bits] using hw
      have e : zs.getD i 0 = zs[i] := by simp [hi']
      rw [e]
      simp only [List.getElem_map, List.getElem_take]
      rw [M.u8_ofNat]
      congr 2
      omega
    · simp only [Prod.mk.injEq] at hd
      exact hd.1

end Go.Proofs.Ytpieehbikmmifaa

/- How a list of steps of a net that came in is read: cell by cell. -/
namespace Go.Proofs.Ytpieehbikmmifaa
open Go.ChangeShapes Go.WideShapes Go.ChangeAt Go.RowKit
set_option linter.unusedVariables false
set_option maxRecDepth 100000

/-- A step, as its four cells say it. -/
structure NV where
  act : Int
  a : Int
  b : Int
  data : List UInt8
  ad : Option Addr
  cd : Nat
structure NStepAt (w : World) (a : Addr) (x : NV) : Prop where
  c0 : w.cell? (a.add 0) = some (.int .i64 x.act)
  c1 : w.cell? (a.add 1) = some (.int .i64 x.a)
  c2 : w.cell? (a.add 2) = some (.int .i64 x.b)
  c3 : w.cell? (a.add 3) = some (.slice x.ad x.data.length x.cd)
  rd : Rd w (.slice x.ad x.data.length x.cd) x.data
  la : I64 x.a
  lb : I64 x.b
def NSteps (w : World) (v : Value) (xs : List NV) : Prop :=
  ∃ ao c, v = .slice ao xs.length c ∧ xs.length ≤ c ∧ c ≤ maxLen ∧ ∀ i, (h : i < xs.length) → ∃ a, ao = some a ∧ NStepAt w (a.add (i * 4)) xs[i]
theorem NStepAt.below {w w' : World} {a : Addr} {x : NV} (h : NStepAt w a x) (hb : Below w.heap.size w w') : NStepAt w' a x := by
  have k : ∀ i v, w.cell? (a.add i) = some v → w'.cell? (a.add i) = some v := fun i v q => by rw [hb.cell (World.block_lt_of_cell? w _ q)]; exact q
  exact ⟨k _ _ h.c0, k _ _ h.c1, k _ _ h.c2, k _ _ h.c3, h.rd.below hb (Nat.le_refl _), h.la, h.lb⟩

theorem nbulk_pos {H : Type} (d : DataW H) : 1 ≤ Rows.uptoBulk d := by
  cases d with
  | lit x => cases x <;> simp [Rows.uptoBulk]
  | nil => simp [Rows.uptoBulk]
  | ptr d => simp [Rows.uptoBulk]
  | slice a b => simp [Rows.uptoBulk]
  | agg a => simp [Rows.uptoBulk]
  | iface t d => simp [Rows.uptoBulk]
  | map a => simp [Rows.uptoBulk]
  | held h => simp [Rows.uptoBulk]
theorem nbulk_ge {H : Type} (ds : List (DataW H)) : ds.length ≤ Rows.uptoBulkAll ds := by
  induction ds with
  | nil => simp [Rows.uptoBulkAll]
  | cons d ds ih =>
    have := nbulk_pos d
    simp only [Rows.uptoBulkAll, List.length_cons]
    omega
theorem nbulk_mem {H : Type} (ds : List (DataW H)) (d : DataW H) (h : d ∈ ds) : Rows.uptoBulk d ≤ Rows.uptoBulkAll ds := by
  induction ds with
  | nil => cases h
  | cons x r ih =>
    rcases List.mem_cons.1 h with rfl | h
    · simp only [Rows.uptoBulkAll]; omega
    · have := ih h; simp only [Rows.uptoBulkAll]; omega

theorem nopen_bytes_cs {H : Type} {enc : TypeId × Value → H} {W : World} {fuel : Nat} {cs : List Value} {x : DataW H × List MemPlace} (hf : DataW.trod enc Try.prog W 0 (fun _ => true) true fuel 33 cs = some x) :
    ∃ a l c, cs = [.slice a l.length c] ∧ Rd W (.slice a l.length c) l ∧ l.length + 1 ≤ Rows.uptoBulk x.1 := by
  rcases open_ints Try.underlying33 Try.underlying5 (by kernel_rfl) hf with ⟨hcs, hx⟩ | ⟨a, len, cap, zs, hcs, _, hl, hm, hz, hd, hcell, hwz⟩
  · subst hx
    exact ⟨none, [], 0, hcs, Rd.nil _, by simp [Rows.uptoBulk]⟩
  · have hz' : zs.length = cap := by simpa using hz
    have hlen : ((zs.take len).map (fun z => UInt8.ofNat z.toNat)).length = len := by simp; omega
    refine ⟨some a, (zs.take len).map (fun z => UInt8.ofNat z.toNat), cap, by rw [hlen]; exact hcs, Rd.mk rfl (by omega) hm (fun i hi => ?_), ?_⟩
    · have hi' : i < zs.length := by omega
      rw [hcell i hi']
      have hw := hwz (zs[i]) (List.getElem_mem hi')
      have hx : 0 ≤ zs[i] ∧ zs[i] ≤ 255 := by simpa [Lit.wf, IntKind.min, IntKind.max, IntKind.signed, IntKind.bits] using hw
      have e : zs.getD i 0 = zs[i] := by simp [hi']
      rw [e]
      simp only [List.getElem_map, List.getElem_take]
      rw [M.u8_ofNat]
      congr 2
      omega
    · rw [hlen, hd]
      have := nbulk_ge (H := H) (lits .u8 (zs.take len))
      simp only [Rows.uptoBulk]
      simp only [lits, List.length_map, List.length_take] at this
      simp only [lits]
      omega

theorem open_nstep {H : Type} {enc : TypeId × Value → H} {W : World} {fuel : Nat} {a : Addr} {x : DataW H × List MemPlace}
    (hf : (W.cells? 0 a 4).bind (DataW.trod enc Try.prog W 0 (fun _ => true) true fuel 35) = some x) : ∃ s : NV, NStepAt W a s ∧ s.data.length + 1 ≤ Rows.uptoBulk x.1 := by
  rw [Option.bind_eq_some_iff] at hf
  obtain ⟨cs, hcs, ht⟩ := hf
  obtain ⟨_, hlen, hcell⟩ := World.cells?_some hcs
  obtain ⟨xs, n, _, rfl, hl, hxl, hfs⟩ := DataW.trod_struct Try.underlying35 ht
  have k3 : Try.prog.cellsOf 3 = 1 := by kernel_rfl
  have k29 : Try.prog.cellsOf 33 = 1 := by kernel_rfl
  match cs, hlen with
  | [v0, v1, v2, v3], _ =>
    match xs, hxl with
    | [y0, y1, y2, y3], _ =>
      have f0 : DataW.trod enc Try.prog W 0 (fun _ => true) true n 3 (List.take (Try.prog.cellsOf 3) (List.drop 0 [v0, v1, v2, v3])) = some y0 := hfs 0 _ rfl
      have f1 : DataW.trod enc Try.prog W 0 (fun _ => true) true n 3 (List.take (Try.prog.cellsOf 3) (List.drop 1 [v0, v1, v2, v3])) = some y1 := hfs 1 _ rfl
      have f2 : DataW.trod enc Try.prog W 0 (fun _ => true) true n 3 (List.take (Try.prog.cellsOf 3) (List.drop 2 [v0, v1, v2, v3])) = some y2 := hfs 2 _ rfl
      have f3 : DataW.trod enc Try.prog W 0 (fun _ => true) true n 33 (List.take (Try.prog.cellsOf 33) (List.drop 3 [v0, v1, v2, v3])) = some y3 := hfs 3 _ rfl
      rw [k3] at f0
      replace f0 : DataW.trod enc Try.prog W 0 (fun _ => true) true n 3 [v0] = some y0 := f0
      rw [k3] at f1
      replace f1 : DataW.trod enc Try.prog W 0 (fun _ => true) true n 3 [v1] = some y1 := f1
      rw [k3] at f2
      replace f2 : DataW.trod enc Try.prog W 0 (fun _ => true) true n 3 [v2] = some y2 := f2
      rw [k29] at f3
      replace f3 : DataW.trod enc Try.prog W 0 (fun _ => true) true n 33 [v3] = some y3 := f3
      obtain ⟨n0, e0, _, _⟩ := DataW.trod_int Try.underlying3 f0
      obtain ⟨n1, e1, _, w1⟩ := DataW.trod_int Try.underlying3 f1
      obtain ⟨n2, e2, _, w2⟩ := DataW.trod_int Try.underlying3 f2
      obtain ⟨a4, l4, c4, e4, r4, b4⟩ := nopen_bytes_cs f3
      simp only [List.cons.injEq, and_true] at e0 e1 e2 e4
      have q0 := hcell 0 (by omega)
      have q1 := hcell 1 (by omega)
      have q2 := hcell 2 (by omega)
      have q3 := hcell 3 (by omega)
      simp only [List.getElem?_cons_zero, List.getElem?_cons_succ] at q0 q1 q2 q3
      refine ⟨⟨n0, n1, n2, l4, a4, c4⟩, ⟨by rw [q0, e0], by rw [q1, e1], by rw [q2, e2], by rw [q3, e4], r4, by simpa [Lit.wf, IntKind.min, IntKind.max, IntKind.signed, IntKind.bits, I64] using w1, by simpa [Lit.wf, IntKind.min, IntKind.max, IntKind.signed, IntKind.bits, I64] using w2⟩, ?_⟩
      simp only [List.map_cons, List.map_nil, Rows.uptoBulk, Rows.uptoBulkAll]
      omega

/-- A list of steps that came in. -/
theorem open_nsteps {H : Type} {enc : TypeId × Value → H} {W : World} {a0 : Option Addr} {len cap : Nat} {d : DataW H} {p : List MemPlace} (h : DataW.Trod enc Try.prog W 0 (fun _ => true) true 22 (.slice a0 len cap) d p) :
    ∃ xs : List NV, NSteps W (.slice a0 len cap) xs ∧ xs.length ≤ Rows.uptoBulk d ∧ ∀ x ∈ xs, x.data.length ≤ Rows.uptoBulk d := by
  obtain ⟨fuel, hf⟩ := h
  have hc4 : Try.prog.cellsOf 35 = 4 := by kernel_rfl
  rcases DataW.trod_slice Try.underlying22 hf with ⟨hcs, hx⟩ | ⟨a, len', cap', elems, rest, n, _, hcs, hx, _, hl, hm, hlen, hel, _, _⟩
  · simp [Value.cells] at hcs
    obtain ⟨rfl, rfl, rfl⟩ := hcs
    exact ⟨[], ⟨none, 0, rfl, by simp, by simp, fun i hi => by simp at hi⟩, by simp, by simp⟩
  · simp [Value.cells] at hcs
    obtain ⟨rfl, rfl, rfl⟩ := hcs
    have hd : d = .slice (elems.map (·.1)) (rest.map (·.1)) := congrArg Prod.fst hx
    have each : ∀ i, i < len → ∃ s : NV, NStepAt W (a.add (i * 4)) s ∧ s.data.length ≤ Rows.uptoBulk d := by
      intro i hi
      have h1 := hel i hi
      rw [hc4, List.getElem?_eq_getElem (by omega)] at h1
      obtain ⟨s, hs, hb⟩ := open_nstep h1
      refine ⟨s, hs, ?_⟩
      have := nbulk_mem (elems.map (·.1)) elems[i].1 (List.mem_map_of_mem (List.getElem_mem (by omega)))
      rw [hd]
      simp only [Rows.uptoBulk]
      omega
    have hall : ∃ g : Nat → NV, ∀ i, i < len → NStepAt W (a.add (i * 4)) (g i) ∧ (g i).data.length ≤ Rows.uptoBulk d := by
      refine ⟨fun i => if h : i < len then Classical.choose (each i h) else ⟨0, 0, 0, [], none, 0⟩, fun i hi => ?_⟩
      simp only [dif_pos hi]
      exact Classical.choose_spec (each i hi)
    obtain ⟨g, hg⟩ := hall
    have hgl : ((List.range len).map g).length = len := by simp
    refine ⟨(List.range len).map g, ⟨some a, cap, by rw [hgl], by omega, hm, fun i hi => ⟨a, rfl, ?_⟩⟩, ?_, fun x hx' => ?_⟩
    · have hi' : i < len := by omega
      simpa using (hg i hi').1
    · rw [hgl, hd]
      have := nbulk_ge (elems.map (·.1))
      rw [List.length_map] at this
      simp only [Rows.uptoBulk]
      omega
    · obtain ⟨i, hi, rfl⟩ := List.mem_map.1 hx'
      exact (hg i (by simpa using hi)).2
end Go.Proofs.Ytpieehbikmmifaa

/- How a list of pairs of numbers that came in is read. -/
namespace Go.Proofs.Ytpieehbikmmifaa
open Go.ChangeShapes Go.WideShapes Go.ChangeAt Go.RowKit
set_option linter.unusedVariables false
set_option maxRecDepth 100000

/-- The slice value v reads as pairs of numbers. -/
def Prs (w : World) (v : Value) (n : Nat) : Prop := ∃ ao c, v = .slice ao n c ∧ n ≤ c ∧ c ≤ maxLen ∧ ∀ i, i < n → ∃ a x y, ao = some a ∧ w.cell? (a.add (i * 2)) = some (.int .i64 x) ∧ w.cell? ((a.add (i * 2)).add 1) = some (.int .i64 y) ∧ I64 x ∧ I64 y
theorem open_prs {H : Type} {enc : TypeId × Value → H} {W : World} {a0 : Option Addr} {len cap : Nat} {d : DataW H} {p : List MemPlace} (h : DataW.Trod enc Try.prog W 0 (fun _ => true) true 54 (.slice a0 len cap) d p) : Prs W (.slice a0 len cap) len := by
  obtain ⟨fuel, hf⟩ := h
  have hc2 : Try.prog.cellsOf 56 = 2 := by kernel_rfl
  have hc1 : Try.prog.cellsOf 3 = 1 := by kernel_rfl
  rcases DataW.trod_slice Try.underlying54 hf with ⟨hcs, hx⟩ | ⟨a, len', cap', elems, rest, n, _, hcs, hx, _, hl, hm, hlen, hel, _, _⟩
  · simp [Value.cells] at hcs
    obtain ⟨rfl, rfl, rfl⟩ := hcs
    exact ⟨none, 0, rfl, by simp, by simp, fun i hi => by omega⟩
  · simp [Value.cells] at hcs
    obtain ⟨rfl, rfl, rfl⟩ := hcs
    refine ⟨some a, cap, rfl, by omega, hm, fun i hi => ?_⟩
    have h1 := hel i hi
    rw [hc2, List.getElem?_eq_getElem (by omega), Option.bind_eq_some_iff] at h1
    obtain ⟨cs, h2, h3⟩ := h1
    obtain ⟨_, hln, hcell⟩ := World.cells?_some h2
    obtain ⟨xs, m, _, _, _, hxl, hfs⟩ := DataW.trod_array Try.underlying56 h3
    match cs, hln with
    | [v0, v1], _ =>
      match xs, hxl with
      | [y0, y1], _ =>
        have f0 := hfs 0 (by omega)
        have f1 := hfs 1 (by omega)
        rw [hc1] at f0 f1
        replace f0 : DataW.trod enc Try.prog W 0 (fun _ => true) true m 3 [v0] = some y0 := f0
        replace f1 : DataW.trod enc Try.prog W 0 (fun _ => true) true m 3 [v1] = some y1 := f1
        obtain ⟨n0, e0, _, w0⟩ := DataW.trod_int Try.underlying3 f0
        obtain ⟨n1, e1, _, w1⟩ := DataW.trod_int Try.underlying3 f1
        simp only [List.cons.injEq, and_true] at e0 e1
        have q0 := hcell 0 (by omega)
        have q1 := hcell 1 (by omega)
        simp only [List.getElem?_cons_zero, List.getElem?_cons_succ] at q0 q1
        exact ⟨a, n0, n1, rfl, by rw [← e0]; exact q0, by rw [← e1]; exact q1, by simpa [Lit.wf, IntKind.min, IntKind.max, IntKind.signed, IntKind.bits, I64] using w0, by simpa [Lit.wf, IntKind.min, IntKind.max, IntKind.signed, IntKind.bits, I64] using w1⟩
theorem Prs.below {w w' : World} {v : Value} {n : Nat} (h : Prs w v n) (hb : Below w.heap.size w w') : Prs w' v n := by
  obtain ⟨ao, c, e, h1, h2, h3⟩ := h
  have k : ∀ a u, w.cell? a = some u → w'.cell? a = some u := fun a u q => by rw [hb.cell (World.block_lt_of_cell? w _ q)]; exact q
  refine ⟨ao, c, e, h1, h2, fun i hi => ?_⟩
  obtain ⟨a, x, y, q0, q1, q2, q3, q4⟩ := h3 i hi
  exact ⟨a, x, y, q0, k _ _ q1, k _ _ q2, q3, q4⟩
end Go.Proofs.Ytpieehbikmmifaa

/- My own words for the document's net in memory: 'Rn': a Net struct in block y whose messages are the list M, in an array of its own, and whose pairs that are cut off are the list O, in another one. -/
namespace Go.Proofs.Ytpieehbikmmifaa
open Go.RowKit
set_option linter.unusedVariables false
set_option maxRecDepth 100000

section
variable {α : Type} {f : α → List Value} {n : Nat}
theorem fm_len (hf : ∀ x, (f x).length = n) (l : List α) : (l.flatMap f).length = l.length * n := by
  induction l with
  | nil => simp
  | cons x l ih => rw [List.flatMap_cons, List.length_append, ih, hf, List.length_cons, Nat.add_mul]; omega
theorem fm_at (hf : ∀ x, (f x).length = n) (l : List α) (i j : Nat) (x : α) (e : l[i]? = some x) (hj : j < n) : (l.flatMap f)[i * n + j]? = (f x)[j]? := by
  induction l generalizing i with
  | nil => simp at e
  | cons y l ih =>
    cases i with
    | zero => simp at e; subst e; rw [List.flatMap_cons, Nat.zero_mul, Nat.zero_add, List.getElem?_append_left (by rw [hf]; exact hj)]
    | succ i =>
      have := ih i (by simpa using e)
      rw [List.flatMap_cons, List.getElem?_append_right (by rw [hf, Nat.add_mul]; omega), hf, ← this]
      congr 1
      rw [Nat.add_mul]; omega
theorem fm_take (hf : ∀ x, (f x).length = n) (l : List α) (k : Nat) : (l.flatMap f).take (k * n) = (l.take k).flatMap f := by
  induction l generalizing k with
  | nil => simp
  | cons x l ih =>
    cases k with
    | zero => simp
    | succ k => rw [List.take_succ_cons, List.flatMap_cons, List.flatMap_cons, ← ih k, List.take_append, hf, show (k + 1) * n - n = k * n by rw [Nat.add_mul]; omega, List.take_of_length_le (by rw [hf, Nat.add_mul]; omega)]
theorem fm_drop (hf : ∀ x, (f x).length = n) (l : List α) (k : Nat) : (l.flatMap f).drop (k * n) = (l.drop k).flatMap f := by
  induction l generalizing k with
  | nil => simp
  | cons x l ih =>
    cases k with
    | zero => simp
    | succ k => rw [List.drop_succ_cons, List.flatMap_cons, ← ih k, List.drop_append, hf, show (k + 1) * n - n = k * n by rw [Nat.add_mul]; omega, List.drop_of_length_le (by rw [hf, Nat.add_mul]; omega), List.nil_append]
end

/-- A pair that is cut off, as cells. -/
abbrev Of := Int × Int
def ofC (p : Of) : List Value := [.int .i64 p.1, .int .i64 p.2]
def ofCs (O : List Of) : List Value := O.flatMap ofC
theorem ofC_len (p : Of) : (ofC p).length = 2 := rfl
theorem ofCs_length (O : List Of) : (ofCs O).length = O.length * 2 := fm_len ofC_len O
theorem ofCs_app (O U : List Of) : ofCs (O ++ U) = ofCs O ++ ofCs U := by simp [ofCs]

/-- The net's memory, all of it by name. -/
structure RnI (B y A nx : Nat) (lv ov : Value) (Q : List (Pk × Value)) (O : List Of) (S : Nat → Prop) (w : World) : Prop where
  cell : w.heap[y]? = some (.cells #[.int .i64 (A : Int), .int .i64 (nx : Int), lv, ov] 63 (0, 0))
  row : w.ownsRow B 46 4 lv Q.length (pkCs Q)
  data : ∀ p ∈ Q, Rd w p.2 p.1.2.2.2
  off : w.ownsRow B 56 2 ov O.length (ofCs O)
  sy : S y
  sl : ∀ b, lv.ownBlock = some b → S b ∧ b ≠ y ∧ ov.ownBlock ≠ some b
  so : ∀ b, ov.ownBlock = some b → S b ∧ b ≠ y
  sd : ∀ p ∈ Q, ∀ b, p.2.ownBlock = some b → S b ∧ b ≠ y ∧ lv.ownBlock ≠ some b ∧ ov.ownBlock ≠ some b
  lo : ∀ b, S b → B ≤ b ∧ b < w.heap.size
/-- The document's net: A actors, the next number, the messages M, the pairs O. -/
def Rn (B y A nx : Nat) (S : Nat → Prop) (M : List Pk) (O : List Of) (w : World) : Prop := ∃ lv ov Q, Q.map (·.1) = M ∧ RnI B y A nx lv ov Q O S w

section
variable {B y A nx : Nat} {lv ov : Value} {Q : List (Pk × Value)} {M : List Pk} {O : List Of} {S : Nat → Prop} {w w' : World}

theorem RnI.next {T : Nat → Prop} (h : RnI B y A nx lv ov Q O S w) (hc : Chg T w w') (hT : ∀ b, S b → ¬ T b) : RnI B y A nx lv ov Q O S w' :=
  ⟨by rw [hc.block y (h.lo y h.sy).2 (hT y h.sy)]; exact h.cell, ownsRow_keptC h.row hc (fun b hb => hT b (h.sl b hb).1), fun p hp => (h.data p hp).keptC hc (fun b hb => hT b (h.sd p hp b hb).1), ownsRow_keptC h.off hc (fun b hb => hT b (h.so b hb).1), h.sy, h.sl, h.so, h.sd, fun b hb => ⟨(h.lo b hb).1, Nat.lt_of_lt_of_le (h.lo b hb).2 hc.size⟩⟩
theorem Rn.next {T : Nat → Prop} (h : Rn B y A nx S M O w) (hc : Chg T w w') (hT : ∀ b, S b → ¬ T b) : Rn B y A nx S M O w' := by
  obtain ⟨lv, ov, Q, e, h⟩ := h
  exact ⟨lv, ov, Q, e, h.next hc hT⟩
theorem Rn.lt (h : Rn B y A nx S M O w) : ∀ b, S b → B ≤ b ∧ b < w.heap.size := by obtain ⟨_, _, _, _, h⟩ := h; exact h.lo
theorem Rn.sy (h : Rn B y A nx S M O w) : S y := by obtain ⟨_, _, _, _, h⟩ := h; exact h.sy
theorem Rn.leB (h : Rn B y A nx S M O w) : B ≤ w.heap.size := by have := h.lt y h.sy; omega
theorem RnI.below (h : RnI B y A nx lv ov Q O S w) (hb : Below w.heap.size w w') : RnI B y A nx lv ov Q O S w' := h.next (Chg.of_below hb) (fun b hs q => by have := (h.lo b hs).2; omega)
theorem Rn.below (h : Rn B y A nx S M O w) (hb : Below w.heap.size w w') : Rn B y A nx S M O w' := h.next (Chg.of_below hb) (fun b hs q => by have := (h.lt b hs).2; omega)
theorem Rn.chg (h : Rn B y A nx S M O w) (hc : Chg S w w') : Below B w w' := hc.below (fun b hb => (h.lt b hb).1) h.leB
theorem RnI.cells (h : RnI B y A nx lv ov Q O S w) : w.cell? ⟨y, 0, none⟩ = some (.int .i64 (A : Int)) ∧ w.cell? ⟨y, 1, none⟩ = some (.int .i64 (nx : Int)) ∧ w.cell? ⟨y, 2, none⟩ = some lv ∧ w.cell? ⟨y, 3, none⟩ = some ov ∧ ∀ i, w.frozen? ⟨y, i, none⟩ = false :=
  ⟨by rw [cell_of_row _ _ _ _ _ _ h.cell]; rfl, by rw [cell_of_row _ _ _ _ _ _ h.cell]; rfl, by rw [cell_of_row _ _ _ _ _ _ h.cell]; rfl, by rw [cell_of_row _ _ _ _ _ _ h.cell]; rfl, fun i => frozen_of_row _ _ _ _ _ h.cell⟩
/-- How a row of the call's own reads. -/
theorem row_reads {B : Nat} {e : TypeId} {size k : Nat} {v : Value} {xs : List Value} (h : w.ownsRow B e size v k xs) : ∃ a c, v = .slice a k c ∧ k ≤ c ∧ c ≤ maxLen ∧ (a = none → c = 0) ∧ ∀ j u, xs[j]? = some u → ∃ g, a = some ⟨g, 0, none⟩ ∧ w.cell? ⟨g, j, none⟩ = some u := by
  rcases h.2 with ⟨q, q0⟩ | ⟨g, cap, cur, q, hB, hg, q1, q2, q3, q4⟩
  · refine ⟨none, 0, by rw [q, q0], by omega, by simp, fun _ => rfl, fun j u e => ?_⟩
    have h1 := h.1
    have := (List.getElem?_eq_some_iff.1 e).1
    rw [h1, q0, Nat.zero_mul] at this
    omega
  · refine ⟨some ⟨g, 0, none⟩, cap, q, q1, q2, (fun e => by cases e), fun j u e => ⟨g, rfl, ?_⟩⟩
    have := h.cells (g := g) (by rw [q]; rfl) j u e
    rw [Addr.add_lit, Nat.zero_add] at this
    exact this
theorem RnI.shape (h : RnI B y A nx lv ov Q O S w) : ∃ a c, lv = .slice a Q.length c ∧ Q.length ≤ c ∧ c ≤ maxLen ∧ (a = none → c = 0) ∧ ∀ i p, Q[i]? = some p → ∃ g, a = some ⟨g, 0, none⟩ ∧ w.cell? ⟨g, i * 4, none⟩ = some (.int .i64 (p.1.1 : Int)) ∧ w.cell? ⟨g, i * 4 + 1, none⟩ = some (.int .i64 (p.1.2.1 : Int)) ∧ w.cell? ⟨g, i * 4 + 2, none⟩ = some (.int .i64 (p.1.2.2.1 : Int)) ∧ w.cell? ⟨g, i * 4 + 3, none⟩ = some p.2 := by
  obtain ⟨a, c, e, h1, h2, h3, h4⟩ := row_reads h.row
  refine ⟨a, c, e, h1, h2, h3, fun i p hp => ?_⟩
  obtain ⟨e0, e1, e2, e3⟩ := pkCs_at Q i p hp
  obtain ⟨g, rfl, g0⟩ := h4 _ _ e0
  have k : ∀ j u, (pkCs Q)[j]? = some u → w.cell? ⟨g, j, none⟩ = some u := fun j u q => by
    obtain ⟨g', eg, g1⟩ := h4 j u q
    simp only [Option.some.injEq, Addr.mk.injEq, and_true] at eg
    rw [eg]; exact g1
  exact ⟨g, rfl, g0, k _ _ e1, k _ _ e2, k _ _ e3⟩
theorem RnI.shapeO (h : RnI B y A nx lv ov Q O S w) : ∃ a c, ov = .slice a O.length c ∧ O.length ≤ c ∧ c ≤ maxLen ∧ (a = none → c = 0) ∧ ∀ i p, O[i]? = some p → ∃ g, a = some ⟨g, 0, none⟩ ∧ w.cell? ⟨g, i * 2, none⟩ = some (.int .i64 p.1) ∧ w.cell? ⟨g, i * 2 + 1, none⟩ = some (.int .i64 p.2) := by
  obtain ⟨a, c, e, h1, h2, h3, h4⟩ := row_reads h.off
  refine ⟨a, c, e, h1, h2, h3, fun i p hp => ?_⟩
  have e0 : (ofCs O)[i * 2 + 0]? = some (.int .i64 p.1) := fm_at ofC_len O i 0 p hp (by omega)
  have e1 : (ofCs O)[i * 2 + 1]? = some (.int .i64 p.2) := fm_at ofC_len O i 1 p hp (by omega)
  obtain ⟨g, rfl, g0⟩ := h4 _ _ e0
  obtain ⟨g', eg, g1⟩ := h4 _ _ e1
  simp only [Option.some.injEq, Addr.mk.injEq, and_true] at eg
  subst eg
  exact ⟨g, rfl, g0, g1⟩

/-- The net with another list of messages. -/
theorem RnI.newL (h : RnI B y A nx lv ov Q O S w) {we : World} {lv' : Value} {Q' : List (Pk × Value)} {S' : Nat → Prop} (hc : Chg (fun b => lv.ownBlock = some b) w we)
    (ho : we.ownsRow B 46 4 lv' Q'.length (pkCs Q')) (hu : lv'.ownBlock = lv.ownBlock ∨ ∀ b, lv'.ownBlock = some b → w.heap.size ≤ b) (hQ : ∀ p ∈ Q', Rd w p.2 p.1.2.2.2 ∧ ∀ b, p.2.ownBlock = some b → S' b ∧ b < w.heap.size ∧ b ≠ y ∧ lv.ownBlock ≠ some b ∧ ov.ownBlock ≠ some b) (hS : ∀ b, S b → S' b) (hSu : ∀ b, lv'.ownBlock = some b → S' b) (hlo : ∀ b, S' b → B ≤ b ∧ b < we.heap.size) :
    RnI B y A nx lv' ov Q' O S' (we.setCell ⟨y, 2, none⟩ lv') ∧ Chg S w (we.setCell ⟨y, 2, none⟩ lv') := by
  have hyl := (h.lo y h.sy).2
  have hux : ∀ b, lv'.ownBlock = some b → b ≠ y ∧ ov.ownBlock ≠ some b := fun b e => by
    rcases hu with q | q
    · exact (h.sl b (by rw [← q]; exact e)).2
    · have := q b e
      exact ⟨by omega, fun q2 => by have := (h.lo b (h.so b q2).1).2; omega⟩
  have hc2 : Chg (fun b => b = y) we (we.setCell ⟨y, 2, none⟩ lv') := (Chg.refl (fun b => b = y) we).put y 2 lv' rfl
  have hcx : Chg (fun b => b = y ∨ lv.ownBlock = some b) w (we.setCell ⟨y, 2, none⟩ lv') := (hc.mono (fun b _ q => Or.inr q)).trans (hc2.mono (fun b _ q => .inl (.inl q)))
  have hye : we.heap[y]? = some (.cells #[.int .i64 (A : Int), .int .i64 (nx : Int), lv, ov] 63 (0, 0)) := by
    rw [hc.block y hyl (fun q => (h.sl y q).2.1 rfl)]; exact h.cell
  refine ⟨⟨by rw [heap_setCell_same _ _ 2 _ _ _ hye]; rfl, ownsRow_keptC ho hc2 (fun b e => (hux b e).1), fun p hp => (hQ p hp).1.keptC hcx (fun b e q => ?_), ownsRow_keptC h.off hcx (fun b e q => ?_), hS _ h.sy, fun b e => ⟨hSu b e, hux b e⟩, fun b e => ⟨hS b (h.so b e).1, (h.so b e).2⟩, fun p hp b e => ?_, fun b hb => ⟨(hlo b hb).1, by have := (hlo b hb).2; simpa using this⟩⟩, hcx.mono (fun b _ q => ?_)⟩
  · obtain ⟨_, _, q1, q2, _⟩ := (hQ p hp).2 b e
    rcases q with q | q
    · exact q1 q
    · exact q2 q
  · rcases q with q | q
    · exact (h.so b e).2 q
    · exact (h.sl b q).2.2 e
  · obtain ⟨q0, q1, q2, q3, q4⟩ := (hQ p hp).2 b e
    refine ⟨q0, q2, fun q => ?_, q4⟩
    rcases hu with q5 | q5
    · exact q3 (by rw [← q5]; exact q)
    · have := q5 b q; omega
  · rcases q with q | q
    · rw [q]; exact h.sy
    · exact (h.sl b q).1
/-- The net with another list of pairs. -/
theorem RnI.newO (h : RnI B y A nx lv ov Q O S w) {we : World} {ov' : Value} {O' : List Of} {S' : Nat → Prop} (hc : Chg (fun b => ov.ownBlock = some b) w we)
    (ho : we.ownsRow B 56 2 ov' O'.length (ofCs O')) (hu : ov'.ownBlock = ov.ownBlock ∨ ∀ b, ov'.ownBlock = some b → w.heap.size ≤ b) (hS : ∀ b, S b → S' b) (hSu : ∀ b, ov'.ownBlock = some b → S' b) (hlo : ∀ b, S' b → B ≤ b ∧ b < we.heap.size) :
    RnI B y A nx lv ov' Q O' S' (we.setCell ⟨y, 3, none⟩ ov') ∧ Chg S w (we.setCell ⟨y, 3, none⟩ ov') := by
  have hyl := (h.lo y h.sy).2
  have hux : ∀ b, ov'.ownBlock = some b → b ≠ y ∧ lv.ownBlock ≠ some b ∧ ∀ p ∈ Q, p.2.ownBlock ≠ some b := fun b e => by
    rcases hu with q | q
    · have e2 : ov.ownBlock = some b := by rw [← q]; exact e
      exact ⟨(h.so b e2).2, fun q2 => (h.sl b q2).2.2 e2, fun p hp q2 => (h.sd p hp b q2).2.2.2 e2⟩
    · have := q b e
      exact ⟨by omega, fun q2 => by have := (h.lo b (h.sl b q2).1).2; omega, fun p hp q2 => by have := (h.lo b (h.sd p hp b q2).1).2; omega⟩
  have hc2 : Chg (fun b => b = y) we (we.setCell ⟨y, 3, none⟩ ov') := (Chg.refl (fun b => b = y) we).put y 3 ov' rfl
  have hcx : Chg (fun b => b = y ∨ ov.ownBlock = some b) w (we.setCell ⟨y, 3, none⟩ ov') := (hc.mono (fun b _ q => Or.inr q)).trans (hc2.mono (fun b _ q => .inl (.inl q)))
  have hye : we.heap[y]? = some (.cells #[.int .i64 (A : Int), .int .i64 (nx : Int), lv, ov] 63 (0, 0)) := by
    rw [hc.block y hyl (fun q => (h.so y q).2 rfl)]; exact h.cell
  refine ⟨⟨by rw [heap_setCell_same _ _ 3 _ _ _ hye]; rfl, ownsRow_keptC h.row hcx (fun b e q => ?_), fun p hp => (h.data p hp).keptC hcx (fun b e q => ?_), ownsRow_keptC ho hc2 (fun b e => (hux b e).1), hS _ h.sy, fun b e => ⟨hS b (h.sl b e).1, (h.sl b e).2.1, fun q => (hux b q).2.1 e⟩, fun b e => ⟨hSu b e, (hux b e).1⟩, fun p hp b e => ⟨hS b (h.sd p hp b e).1, (h.sd p hp b e).2.1, (h.sd p hp b e).2.2.1, fun q => (hux b q).2.2 p hp e⟩, fun b hb => ⟨(hlo b hb).1, by have := (hlo b hb).2; simpa using this⟩⟩, hcx.mono (fun b _ q => ?_)⟩
  · rcases q with q | q
    · exact (h.sl b e).2.1 q
    · exact (h.sl b e).2.2 q
  · rcases q with q | q
    · exact (h.sd p hp b e).2.1 q
    · exact (h.sd p hp b e).2.2.2 q
  · rcases q with q | q
    · rw [q]; exact h.sy
    · exact (h.so b q).1
/-- The net with another next number. -/
theorem RnI.newN (h : RnI B y A nx lv ov Q O S w) (nx' : Nat) : RnI B y A nx' lv ov Q O S (w.setCell ⟨y, 1, none⟩ (.int .i64 (nx' : Int))) ∧ Chg S w (w.setCell ⟨y, 1, none⟩ (.int .i64 (nx' : Int))) := by
  have hc2 : Chg (fun b => b = y) w (w.setCell ⟨y, 1, none⟩ (.int .i64 (nx' : Int))) := (Chg.refl (fun b => b = y) w).put y 1 _ rfl
  exact ⟨⟨by rw [heap_setCell_same _ _ 1 _ _ _ h.cell]; rfl, ownsRow_keptC h.row hc2 (fun b e => (h.sl b e).2.1), fun p hp => (h.data p hp).keptC hc2 (fun b e => (h.sd p hp b e).2.1), ownsRow_keptC h.off hc2 (fun b e => (h.so b e).2), h.sy, h.sl, h.so, h.sd, fun b hb => ⟨(h.lo b hb).1, by have := (h.lo b hb).2; simpa using this⟩⟩, hc2.mono (fun b _ q => by rw [q]; exact h.sy)⟩
end
end Go.Proofs.Ytpieehbikmmifaa
