/- The oracle's calls by their outcome; awake. -/
import Derived.Test.YtiponjphodhdjaaG6
import Derived.Laws.BitsLemmas
namespace Go.Proofs.Ytiponjphodhdjaa
open Go.RowKit
set_option linter.unusedVariables false
set_option maxRecDepth 100000

theorem mask60 (n : Nat) (hn : n ≤ 18446744073709551615) : ∃ a : Nat, bits .and .u64 (n : Int) 1152921504606846975 = (a : Int) ∧ a ≤ 1152921504606846975 := by
  have hle : (BitVec.ofInt 64 (n : Int) &&& BitVec.ofInt 64 1152921504606846975).toNat ≤ 1152921504606846975 := by
    rw [BitVec.toNat_and, show (BitVec.ofInt 64 1152921504606846975).toNat = 1152921504606846975 by decide]
    exact Nat.and_le_right
  refine ⟨(BitVec.ofInt 64 (n : Int) &&& BitVec.ofInt 64 1152921504606846975).toNat, ?_, hle⟩
  show IntKind.u64.wrap ((BitVec.ofInt 64 (n : Int) &&& BitVec.ofInt 64 1152921504606846975).toNat : Int) = _
  rw [IntKind.wrap_u64]
  omega
section
variable {x c l m : Nat} {w : World}
theorem take_ok (h : Orc x c l m w) (n : Nat) (h1 : 1 ≤ n) (h2 : n ≤ 1024) (h3 : l + n ≤ m) : Calls Try.prog 9 #[.pointer (some ⟨x, 0, none⟩), .int .i64 (n : Int)] w fun e w' => e = .returned (.tuple #[.int .u64 ((l + 1 : Nat) : Int), .int .i64 0]) ∧ Orc x c (l + n) m w' ∧ Chg (fun b => b = x) w w' := by
  have e0 : tkN l m (n : Int) = 0 := tkN_ok (by omega) (by simpa using h3)
  have e1 : tkV l m (n : Int) = l + 1 := by unfold tkV; rw [if_pos e0]
  have e2 : tkL l m (n : Int) = l + n := by unfold tkL; rw [if_pos e0]; simp
  have q := take_any h (n : Int)
  rw [e0, e1, e2] at q
  exact q
theorem take_win (h : Orc x c l m w) (n : Nat) (h1 : 1 ≤ n) (h2 : n ≤ 1024) (h3 : m < l + n) : Calls Try.prog 9 #[.pointer (some ⟨x, 0, none⟩), .int .i64 (n : Int)] w fun e w' => e = .returned (.tuple #[.int .u64 0, .int .i64 150]) ∧ Orc x c l m w' ∧ Chg (fun b => b = x) w w' := by
  have e0 : tkN l m (n : Int) = 150 := tkN_win (by omega) (by simpa using h3)
  have e1 : tkV l m (n : Int) = 0 := by unfold tkV; rw [if_neg (by omega)]
  have e2 : tkL l m (n : Int) = l := by unfold tkL; rw [if_neg (by omega)]
  have q := take_any h (n : Int)
  rw [e0, e1, e2] at q
  exact q
theorem take_arg (h : Orc x c l m w) (k : Int) (h1 : k < 1 ∨ 1024 < k) : Calls Try.prog 9 #[.pointer (some ⟨x, 0, none⟩), .int .i64 k] w fun e w' => e = .returned (.tuple #[.int .u64 0, .int .i64 1]) ∧ Orc x c l m w' ∧ Chg (fun b => b = x) w w' := by
  have e0 : tkN l m k = 1 := tkN_arg h1
  have e1 : tkV l m k = 0 := by unfold tkV; rw [if_neg (by omega)]
  have e2 : tkL l m k = l := by unfold tkL; rw [if_neg (by omega)]
  have q := take_any h k
  rw [e0, e1, e2] at q
  exact q
theorem wantc_ok (h : Orc x c l m w) (n : Nat) (h1 : 1 ≤ n) (h2 : n ≤ 1024) (h3 : l + n ≤ m) : Calls Try.prog 12 #[.pointer (some ⟨x, 0, none⟩), .int .i64 (n : Int)] w fun e w' => e = .returned (.tuple #[.int .u64 0, .bool false]) ∧ Orc x c l m w' ∧ Chg (fun b => b = x) w w' := by
  have e0 : tkN l m (n : Int) = 0 := tkN_ok (by omega) (by simpa using h3)
  have e1 : wnV l m (n : Int) = 0 := by unfold wnV; rw [if_neg (by omega)]
  have e2 : wnB l m (n : Int) = false := by unfold wnB; rw [e0]; rfl
  have q := wantc_any h (n : Int)
  rw [e1, e2] at q
  exact q
theorem wantc_win (h : Orc x c l m w) (n : Nat) (h1 : 1 ≤ n) (h2 : n ≤ 1024) (h3 : m < l + n) : Calls Try.prog 12 #[.pointer (some ⟨x, 0, none⟩), .int .i64 (n : Int)] w fun e w' => e = .returned (.tuple #[.int .u64 ((l + n + 1024 : Nat) : Int), .bool true]) ∧ Orc x c l m w' ∧ Chg (fun b => b = x) w w' := by
  have e0 : tkN l m (n : Int) = 150 := tkN_win (by omega) (by simpa using h3)
  have e1 : wnV l m (n : Int) = l + n + 1024 := by unfold wnV; rw [if_pos e0]; simp
  have e2 : wnB l m (n : Int) = true := by unfold wnB; rw [e0]; rfl
  have q := wantc_any h (n : Int)
  rw [e1, e2] at q
  exact q
theorem wantc_arg (h : Orc x c l m w) (k : Int) (h1 : k < 1 ∨ 1024 < k) : Calls Try.prog 12 #[.pointer (some ⟨x, 0, none⟩), .int .i64 k] w fun e w' => e = .returned (.tuple #[.int .u64 0, .bool false]) ∧ Orc x c l m w' ∧ Chg (fun b => b = x) w w' := by
  have e0 : tkN l m k = 1 := tkN_arg h1
  have e1 : wnV l m k = 0 := by unfold wnV; rw [if_neg (by omega)]
  have e2 : wnB l m k = false := by unfold wnB; rw [e0]; rfl
  have q := wantc_any h k
  rw [e1, e2] at q
  exact q
end
theorem chg_bel {B x : Nat} {a w w' : World} (hb : Below B a w) (hc : Chg (fun b => b = x) w w') (hx : B ≤ x) (hB : B ≤ a.heap.size) : Below B a w' :=
  hb.trans (hc.below (fun b e => by omega) (by have := hb.size; omega))
set_option maxHeartbeats 1000000 in
theorem tsawake_any (w : World) : Calls Try.prog 6 #[] w fun r w' => r = .returned (.bool true) ∧ Below w.heap.size w w' := by
  have hnew := tnew_any 0 (by omega) w
  go_enter Try.func6, Try.ntmps6
  go_wp2_with fail
  refine hnew.mono ?_
  rintro r w1 ⟨x, c, rfl, ho, hx, hc, hb⟩
  have ht := take_win ho 1 (by omega) (by omega) (by omega)
  clear hnew
  go_wp2_with fail
  refine ht.mono ?_
  rintro r w2 ⟨rfl, ho2, hc2⟩
  have hb2 := chg_bel hb hc2 hx (Nat.le_refl _)
  have hg := grant_any ho2 5 (by omega)
  clear ht ho hc2 hb
  go_wp2_with fail
  refine hg.mono ?_
  rintro r w3 ⟨rfl, ho3, hc3⟩
  have hb3 := chg_bel hb2 hc3 hx (Nat.le_refl _)
  have ht := take_ok ho3 2 (by omega) (by omega) (by omega)
  clear hg ho2 hc3 hb2
  go_wp2_with fail
  refine ht.mono ?_
  rintro r w4 ⟨rfl, ho4, hc4⟩
  have hb4 := chg_bel hb3 hc4 hx (Nat.le_refl _)
  have hl := last_any ho4
  clear ht ho3 hc4 hb3
  go_wp2_with fail
  refine hl.mono ?_
  rintro r w5 ⟨rfl, rfl⟩
  go_wp2_with fail
  go_ret
  exact ⟨rfl, hb4⟩
end Go.Proofs.Ytiponjphodhdjaa
