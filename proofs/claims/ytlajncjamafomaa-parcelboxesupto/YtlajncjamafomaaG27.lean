/- belongs and Put. -/
import Derived.Test.YtlajncjamafomaaG12
import Derived.Test.YtlajncjamafomaaG23
import Derived.Test.YtlajncjamafomaaG2
import Derived.Laws.StructEq
import Derived.Deep.CutRange
namespace Go.Proofs.Ytlajncjamafomaa
open Go.RowKit Go.Maps
set_option linter.unusedVariables false
set_option maxRecDepth 100000

theorem neq_whole (W : World) (a b c d : Int) : (binOp .neq 66 (.agg #[.int .u64 a, .int .u64 b]) (.agg #[.int .u64 c, .int .u64 d])).run Try.prog W = .ok (.bool (!(a == c && b == d))) W := by
  rw [run_neq_struct, run_equalIn_agg _ _ _ _ _ (by kernel_rfl) (by kernel_rfl)]
  simp only [Program.fieldsOf, Try.underlying66]
  go_simp
  by_cases h1 : a = c
  · subst h1
    by_cases h2 : b = d
    · subst h2; simp
    · simp [h2]
  · simp [h1]
/-- May a piece stand beside the pieces of a box? -/
def blg (s n k : Nat) (ps : List (Nat × List UInt8)) (s' n' m i : Nat) (p : List UInt8) : Bool :=
  if ¬ (s' = s ∧ n' = n) then false else if n < p.length then false else if 0 < k ∧ m ≠ k then false else
  match lkP ps i with
  | none => true
  | some q => decide (q = p)

section
variable {B C d : Nat} {s n k : Nat} {ps : List (Nat × List UInt8)} {w w' : World}
set_option maxHeartbeats 4000000 in
theorem belongs_any (h : Bx B C d s n k ps w) {s' n' m i : Nat} {a : Option Addr} {c : Nat} {p : List UInt8} (hs : s' < 18446744073709551616) (hn : n' < 18446744073709551616) (hm : m < 18446744073709551616) (hi : i < 18446744073709551616) (hp : Rd w (.slice a p.length c) p) :
    Calls Try.prog 38 #[.pointer (some ⟨d, 0, none⟩), .agg #[.int .u64 (s' : Int), .int .u64 (n' : Int), .int .u64 (m : Int), .int .u64 (i : Int), .slice a p.length c]] w fun e w' => e = .returned (.bool (blg s n k ps s' n' m i p)) ∧ Below w.heap.size w w' := by
  have hpl := hp.len
  unfold maxLen at hpl
  obtain ⟨m0, D, fv, h⟩ := h
  have hb0 := pk_al w (.cells #[.int .u64 (s' : Int), .int .u64 (n' : Int), .int .u64 (m : Int), .int .u64 (i : Int), .slice a p.length c] 69)
  have hR0 := pk_new w (.cells #[.int .u64 (s' : Int), .int .u64 (n' : Int), .int .u64 (m : Int), .int .u64 (i : Int), .slice a p.length c] 69)
  have hneq := fun W => neq_whole W (s' : Int) (n' : Int) (s : Int) (n : Int)
  have hk64 := h.k64
  have hn20 := h.n20
  have h0 := h.below hb0 (Nat.le_refl _)
  have hp0 := hp.below hb0 (Nat.le_refl _)
  generalize hbl : blg s n k ps s' n' m i p = res
  unfold blg at hbl
  go_enter Try.func38, Try.ntmps38
  go_upto_region 1 with fail
  generalize (w.alloc (.cells #[.int .u64 (s' : Int), .int .u64 (n' : Int), .int .u64 (m : Int), .int .u64 (i : Int), .slice a p.length c] 69)) = W at *
  obtain ⟨x0, x1, x2, x3, xz⟩ := h0.cells
  obtain ⟨y0, y1, y2, y3, y4, yz⟩ := cells5 hR0
  by_cases c1 : ¬ (s' = s ∧ n' = n)
  · rw [if_pos c1] at hbl
    subst hbl
    have e1 : (!(((s' : Int) == (s : Int)) && ((n' : Int) == (n : Int)))) = true := by
      by_cases q : s' = s
      · have q2 : ¬ n' = n := fun e => c1 ⟨q, e⟩
        have : ((n' : Int) == (n : Int)) = false := by simp; omega
        rw [this]; simp
      · have : ((s' : Int) == (s : Int)) = false := by simp; omega
        rw [this]; rfl
    rw [e1] at hneq
    go_quiet (fail)
    go_wp2_with fail
    go_ret
    exact ⟨rfl, below_drewN hb0 _⟩
  · rw [if_neg c1] at hbl
    obtain ⟨rfl, rfl⟩ : s' = s ∧ n' = n := by
      by_cases q : s' = s ∧ n' = n
      · exact q
      · exact absurd q c1
    have e1 : (!(((s' : Int) == (s' : Int)) && ((n' : Int) == (n' : Int)))) = false := by simp
    rw [e1] at hneq
    by_cases c2 : n' < p.length
    · rw [if_pos c2] at hbl
      subst hbl
      have d2 : decide ((n' : Int) < (p.length : Int)) = true := by simp; omega
      have d2' : (n' : Int) < (p.length : Int) := by omega
      go_quiet (fail)
      go_wp2_with fail
      go_ret
      exact ⟨rfl, below_drewN hb0 _⟩
    · rw [if_neg c2] at hbl
      have d2 : decide ((n' : Int) < (p.length : Int)) = false := by simp; omega
      have d2' : ¬ (n' : Int) < (p.length : Int) := by omega
      have HW : Hid (∀ j, BxI B C d m0 D s' n' k ps fv (W.drewN j) ∧ Rd (W.drewN j) (.slice a p.length c) p ∧ (W.drewN j).heap[w.heap.size]? = some (.cells #[.int .u64 (s' : Int), .int .u64 (n' : Int), .int .u64 (m : Int), .int .u64 (i : Int), .slice a p.length c] 69 (0, 0)) ∧ Below w.heap.size w (W.drewN j)) := fun j => ⟨h0.below (Below.dN W j) (Nat.le_refl _), hp0.drewN j, hR0, below_drewN hb0 j⟩
      go_quiet (fail)
      clear h0 hp0 hR0 x0 x1 x2 x3 xz y0 y1 y2 y3 y4 yz hb0 hneq e1 d2 d2'
      go_upto_region 3 with fail
      obtain ⟨h1, hp1, hR1, hb1⟩ := HW.out nq
      generalize W.drewN nq = W1 at *
      obtain ⟨x0, x1, x2, x3, xz⟩ := h1.cells
      obtain ⟨y0, y1, y2, y3, y4, yz⟩ := cells5 hR1
      clear HW
      by_cases c3 : 0 < k ∧ m ≠ k
      · rw [if_pos c3] at hbl
        subst hbl
        have d3 : decide ((0 : Int) < (k : Int)) = true := by simp; omega
        have d3' : (0 : Int) < (k : Int) := by omega
        have d4 : ((m : Int) != (k : Int)) = true := by simp; omega
        go_quiet (fail)
        go_wp2_with fail
        go_ret
        exact ⟨rfl, below_drewN hb1 _⟩
      · rw [if_neg c3] at hbl
        have HW : Hid (∀ j, BxI B C d m0 D s' n' k ps fv (W1.drewN j) ∧ Rd (W1.drewN j) (.slice a p.length c) p ∧ (W1.drewN j).heap[w.heap.size]? = some (.cells #[.int .u64 (s' : Int), .int .u64 (n' : Int), .int .u64 (m : Int), .int .u64 (i : Int), .slice a p.length c] 69 (0, 0)) ∧ Below w.heap.size w (W1.drewN j)) := fun j => ⟨h1.below (Below.dN W1 j) (Nat.le_refl _), hp1.drewN j, hR1, below_drewN hb1 j⟩
        go_cut [39] from 7 to 57 (fun v wx => v = .bool false ∧ ∃ j, wx = W1.drewN j)
        case first =>
          by_cases c5 : 0 < k
          · have d3 : decide ((0 : Int) < (k : Int)) = true := by simp; omega
            have d3' : (0 : Int) < (k : Int) := by omega
            have d4 : ((m : Int) != (k : Int)) = false := by simp; omega
            go_quiet (fail)
            go_wp2_with fail
            go_meet
            exact ⟨rfl, _, rfl⟩
          · have d3 : decide ((0 : Int) < (k : Int)) = false := by simp; omega
            have d3' : ¬ (0 : Int) < (k : Int) := by omega
            go_quiet (fail)
            go_wp2_with fail
            go_meet
            exact ⟨rfl, _, rfl⟩
        case rest =>
          obtain ⟨rfl, j, rfl⟩ := hcut
          clear h1 hp1 hR1 x0 x1 x2 x3 xz y0 y1 y2 y3 y4 yz hb1
          obtain ⟨h1, hp1, hR1, hb1⟩ := HW.out j
          generalize W1.drewN j = W2 at *
          clear HW
          obtain ⟨x0, x1, x2, x3, xz⟩ := h1.cells
          obtain ⟨y0, y1, y2, y3, y4, yz⟩ := cells5 hR1
          go_upto_region 5 with fail
          cases hlk : lkP ps i with
          | none =>
            rw [hlk] at hbl
            subst hbl
            have hlo := h1.look_none hlk hi
            have hlj := fun j => (h1.below (Below.dN W2 j) (Nat.le_refl _)).look_none hlk hi
            go_quiet (fail)
            go_wp2_with fail
            go_ret
            exact ⟨rfl, below_drewN hb1 _⟩
          | some q =>
            rw [hlk] at hbl
            simp only [] at hbl
            have hlo := h1.look_some hlk hi
            have hq := (h1.el i q hlk).rd
            obtain ⟨aq, cq, eq⟩ := h1.shape hlk
            rw [eq] at hlo hq
            have heq := fun j => bequal_any (hq.drewN j) (hp1.drewN j)
            rw [hbl] at heq
            have hlj := fun j => (h1.below (Below.dN W2 j) (Nat.le_refl _)).look_some hlk hi
            rw [eq] at hlj
            have y4' : ∀ j, (W2.drewN j).cell? ⟨w.heap.size, 4, none⟩ = some (.slice a p.length c) := fun j => y4
            go_quiet (fail)
            go_wp2_with fail
            refine (heq _).mono ?_
            rintro e w1 ⟨rfl, rfl⟩
            go_wp2_with fail
            go_ret
            exact ⟨rfl, below_drewN hb1 _⟩
end
end Go.Proofs.Ytlajncjamafomaa
