/- full, fits and joined. -/
import Derived.Test.YtlajncjamafomaaG12
import Derived.Test.YtlajncjamafomaaG3
import Derived.Deep.CutRange
namespace Go.Proofs.Ytlajncjamafomaa
open Go.RowKit Go.Maps
set_option linter.unusedVariables false
set_option maxRecDepth 100000

/-- How many bytes the parts have that have come. -/
def sumL (left : Lit → Bool) : List (Nat × List UInt8) → Nat
  | [] => 0
  | (i, p) :: r => (if left (kN i) then 0 else p.length) + sumL left r
/-- All parts' bytes. -/
def sumP : List (Nat × List UInt8) → Nat
  | [] => 0
  | (_, p) :: r => p.length + sumP r
/-- The parts one behind the other. -/
def jnP (ps : List (Nat × List UInt8)) : List UInt8 := (ps.map (·.2)).flatten
theorem jnP_len (ps : List (Nat × List UInt8)) : (jnP ps).length = sumP ps := by
  induction ps with
  | nil => rfl
  | cons a r ih =>
    obtain ⟨i, p⟩ := a
    unfold jnP at ih ⊢
    rw [List.map_cons, List.flatten_cons, List.length_append, ih]
    rfl
theorem sumL_le (left : Lit → Bool) (ps : List (Nat × List UInt8)) : sumL left ps ≤ sumP ps := by
  induction ps with
  | nil => exact Nat.le_refl _
  | cons a r ih =>
    obtain ⟨i, p⟩ := a
    simp only [sumL, sumP]
    split <;> omega
theorem sumP_le {n : Nat} (ps : List (Nat × List UInt8)) (h : ∀ x ∈ ps, x.2.length ≤ n) : sumP ps ≤ ps.length * n := by
  induction ps with
  | nil => simp [sumP]
  | cons a r ih =>
    obtain ⟨i, p⟩ := a
    have h1 := h (i, p) (.head _)
    have h2 := ih (fun x hx => h x (.tail _ hx))
    simp only [sumP, List.length_cons, Nat.add_mul, Nat.one_mul]
    simp only [] at h1
    omega
theorem sumL_none (left : Lit → Bool) (ps : List (Nat × List UInt8)) (h : ∀ kl, left kl = false) : sumL left ps = sumP ps := by
  induction ps with
  | nil => rfl
  | cons a r ih =>
    obtain ⟨i, p⟩ := a
    simp only [sumL, sumP]
    rw [ih, if_neg (by rw [h]; decide)]
theorem sumL_all (left : Lit → Bool) (ps : List (Nat × List UInt8)) (h : ∀ x ∈ ps, left (kN x.1) = true) : sumL left ps = 0 := by
  induction ps with
  | nil => rfl
  | cons a r ih =>
    obtain ⟨i, p⟩ := a
    simp only [sumL]
    rw [ih (fun x hx => h x (.tail _ hx)), if_pos (h (i, p) (.head _))]
theorem same_kN (i j : Nat) : (kN j).sameKey (kN i) = decide (j = i) := by
  by_cases e : j = i
  · subst e
    rw [decide_eq_true rfl]
    exact WideAt.sameKey_self (by trivial)
  · rw [decide_eq_false e]
    exact Maps.sameKey_ne (fun q => e (kN_inj q))
theorem sumL_other (left : Lit → Bool) (i : Nat) (ps : List (Nat × List UInt8)) (h : ∀ x ∈ ps, x.1 ≠ i) : sumL (fun z => left z && !z.sameKey (kN i)) ps = sumL left ps := by
  induction ps with
  | nil => rfl
  | cons a r ih =>
    obtain ⟨j, p⟩ := a
    have h1 := h (j, p) (.head _)
    have e1 : (left (kN j) && !(kN j).sameKey (kN i)) = left (kN j) := by rw [same_kN, decide_eq_false h1]; simp
    simp only [sumL]
    rw [ih (fun x hx => h x (.tail _ hx))]
    simp only [e1]
theorem sumL_strike (left : Lit → Bool) {i : Nat} {l : List UInt8} {ps : List (Nat × List UInt8)} (hr : RsP ps) (hlk : lkP ps i = some l) (hl : left (kN i) = true) : sumL (fun z => left z && !z.sameKey (kN i)) ps = sumL left ps + l.length := by
  induction ps with
  | nil => cases hlk
  | cons a r ih =>
    obtain ⟨j, p⟩ := a
    obtain ⟨h1, h2⟩ := List.pairwise_cons.1 hr
    unfold lkP at hlk
    simp only [sumL]
    split at hlk
    · rename_i e
      subst e
      obtain rfl := Option.some.inj hlk
      have e1 : (left (kN j) && !(kN j).sameKey (kN j)) = false := by rw [same_kN, decide_eq_true rfl]; simp
      rw [sumL_other left j r (fun x hx => by have := h1 x hx; simp only [] at this; omega)]
      rw [if_neg (by rw [e1]; decide), if_pos hl]
      omega
    · rename_i e
      have e1 : (left (kN j) && !(kN j).sameKey (kN i)) = left (kN j) := by rw [same_kN, decide_eq_false e]; simp
      rw [ih h2 hlk]
      simp only [e1]
      omega

/-- Where a part's bytes lie. -/
structure Sl3 where
  a : Option Addr
  c : Nat
theorem wpList_next_bx {B C d m : Nat} {D : DataW Value} {s n k : Nat} {ps : List (Nat × List UInt8)} {fv : Nat → Value} {W w : World} (hI : BxI B C d m D s n k ps fv W) {ops : Array Oper} {rest : List Oper} {o : Oper} {a : Act} {Q : Exit → Act → World → Prop}
    (hg : o.guard = none) (it : Operand) (hop : o.op = Op.next it false) (r : Nat) (left : Lit → Bool) (cnt : Nat) (hit : a.eval it = .pointer (some ⟨r, 0, none⟩)) (h : w.ranges Try.prog 64 elR m r ps.length D left cnt)
    (hDone : (∀ kl, left kl = false) → wpList Try.prog ops Q rest (a.put o.dst (.tuple #[.bool false])) w)
    (hMore : ∀ (i : Nat) (l : List UInt8) (t : Sl3) (w' : World) (cnt' : Nat), lkP ps i = some l → left (kN i) = true → w'.ranges Try.prog 64 elR m r ps.length D (fun z => left z && !z.sameKey (kN i)) cnt' → cnt' < cnt → w.grownBy w' (some r) →
      (Instr.entry (.pointer (some ⟨r, 0, none⟩))).run Try.prog w' = .ok (.tuple #[.int .u64 (i : Int), .slice t.a l.length t.c]) w' → wpList Try.prog ops Q rest (a.put o.dst (.tuple #[.bool true, .int .u64 (i : Int), .slice t.a l.length t.c])) w') :
    wpList Try.prog ops Q (o :: rest) a w := by
  refine wpList_plain hg fun K' hK' => ?_
  unfold Oper.wp
  rcases h.next Try.keyedN o.type with ⟨h0, hl, hrun⟩ | ⟨key, v, kl, y, w', cnt', hkey, hlk, hv, hat, hrun, hrg, hlt, hgr, hsz, hen⟩
  · simp [execOp, hop, hit, hrun, Result.andThen]
    exact hK' _ _ (hDone hl)
  · obtain ⟨x, rfl, rfl, hwf⟩ := Maps.keyOf_int_inv Try.underlying64 hkey
    have hx0 : 0 ≤ x := by
      simp [Lit.wf, IntKind.min, IntKind.max, IntKind.signed, IntKind.bits] at hwf
      omega
    obtain ⟨i, rfl⟩ : ∃ i : Nat, x = (i : Int) := ⟨x.toNat, by omega⟩
    have hhas := hI.has i
    rw [show kN i = .int .u64 (i : Int) from rfl, Maps.has_true_of_atKey hat] at hhas
    obtain ⟨l, hl⟩ : ∃ l, lkP ps i = some l := by
      cases q : lkP ps i with
      | none => rw [q] at hhas; cases hhas
      | some l => exact ⟨l, rfl⟩
    have hfv := hI.at_ i l hl
    rw [show kN i = .int .u64 (i : Int) from rfl, hat] at hfv
    obtain ⟨a', n', c', rfl, e2⟩ := elR_inv hv
    rw [e2] at hfv
    simp only [DataW.held.injEq] at hfv
    obtain ⟨af, cf, e3⟩ := hI.shape hl
    rw [e3] at hfv
    simp only [Value.slice.injEq] at hfv
    obtain ⟨rfl, rfl, rfl⟩ := hfv
    simp [execOp, hop, hit, hrun, Result.andThen]
    exact hK' _ _ (hMore i l ⟨a', c'⟩ w' cnt' hl hlk hrg hlt hgr hen)

section
variable {B C d : Nat} {s n k : Nat} {ps : List (Nat × List UInt8)} {w w' : World}
set_option maxHeartbeats 1000000 in
theorem full_any (h : Bx B C d s n k ps w) (hN : ps.length < 2199023255552) :
    Calls Try.prog 44 #[.pointer (some ⟨d, 0, none⟩)] w fun e w' => e = .returned (.bool (decide (0 < k ∧ ps.length = k))) ∧ ∃ j, w' = w.drewN j := by
  obtain ⟨m, D, fv, h⟩ := h
  obtain ⟨x0, x1, x2, x3, xz⟩ := h.cells
  have hk64 := h.k64
  have hln := fun j ty => (h.below (Below.dN w j) (Nat.le_refl _)).map.len (t := 74) Try.underlying74 ty
  rw [h.size] at hln
  generalize hX : decide (0 < k ∧ ps.length = k) = X
  go_enter Try.func44, Try.ntmps44
  go_upto_region 1 with fail
  by_cases c1 : 0 < k
  · have d1 : decide ((0 : Int) < (k : Int)) = true := by simp; omega
    have d1' : (0 : Int) < (k : Int) := by omega
    by_cases c2 : ps.length = k
    · have d2 : ((ps.length : Int) == (k : Int)) = true := by simp [c2]
      obtain rfl : true = X := by rw [← hX]; exact (decide_eq_true ⟨c1, c2⟩).symm
      have H2 : Hid _ := c2
      clear c2 hX
      go_quiet (fail)
      go_wp2_with fail
      go_ret
      exact ⟨rfl, _, rfl⟩
    · have d2 : ((ps.length : Int) == (k : Int)) = false := by simp; omega
      obtain rfl : false = X := by rw [← hX]; exact (decide_eq_false (fun q => c2 q.2)).symm
      have H2 : Hid _ := c2
      clear c2 hX
      go_quiet (fail)
      go_wp2_with fail
      go_ret
      exact ⟨rfl, _, rfl⟩
  · have d1 : decide ((0 : Int) < (k : Int)) = false := by simp; omega
    obtain rfl : false = X := by rw [← hX]; exact (decide_eq_false (fun q => c1 q.1)).symm
    clear hX
    go_quiet (fail)
    go_wp2_with fail
    go_ret
    exact ⟨rfl, _, rfl⟩

set_option maxHeartbeats 2000000 in
theorem fits_any (h : Bx B C d s n k ps w) (hN : ps.length < 2199023255552) :
    Calls Try.prog 45 #[.pointer (some ⟨d, 0, none⟩)] w fun e w' => e = .returned (.bool (decide (sumP ps = n))) ∧ Below w.heap.size w w' := by
  obtain ⟨m, D, fv, h⟩ := h
  obtain ⟨x0, x1, x2, x3, xz⟩ := h.cells
  have hn20 := h.n20
  have hsl : sumP ps < 4611686018427387904 := by
    have := sumP_le (n := 1048576) ps (fun x hx => by have := (h.kb x hx).2; omega)
    omega
  have hmw : m < w.heap.size := by have := h.hi; have := h.cw; omega
  have hdw : d < w.heap.size := by have := h.hi; have := h.cw; omega
  generalize hX : decide (sumP ps = n) = X
  have HX : Hid _ := hX
  clear hX
  go_enter Try.func45, Try.ntmps45
  go_wp2_with (first
    | (at_range; refine wpList_range_own _ rfl _ 74 rfl 64 22 Try.keyedN Try.underlying74 _ m ps.length _ rfl h.map ?_; intro w0 hrg0 hg0 hs0)
    | go_in)
  go_frame
  go_loopw [3, 5] (fun x _ wr => ∃ (left : Lit → Bool) (cnt A : Nat), x = .int .u64 (A : Int) ∧ Hid (A = sumL left ps) ∧ wr.ranges Try.prog 64 elR m w.heap.size ps.length D left cnt ∧ w.grownBy wr none) (fun _ _ wr => wr.rangeLeft m w.heap.size)
  case atStart => exact ⟨_, _, 0, rfl, (sumL_all _ _ (fun x hx => by rw [h.has, lkP_of_mem h.rs (show (x.1, x.2) ∈ ps from hx)]; rfl)).symm, hrg0, hg0⟩
  case round =>
    obtain ⟨left, cnt, A, rfl, HA, hrg, hgw⟩ := hrel
    have hAl : A < 4611686018427387904 := by have := HA.out; have := sumL_le left ps; omega
    clear hrg0 hg0 hs0
    go_wp2_with (first
      | (at_next; refine wpList_next_bx h rfl _ rfl w.heap.size left cnt rfl hrg ?_ ?_)
      | go_in)
    · intro hl0
      have hb : Below w.heap.size w wr := ⟨hgw.os, hgw.tape, hgw.output, hgw.size, fun b hb => hgw.block b hb (by simp)⟩
      have y1 : wr.cell? ⟨d, 1, none⟩ = some (.int .u64 (n : Int)) := by rw [hb.cell hdw]; exact x1
      have hAs : A = sumP ps := by rw [HA.out]; exact sumL_none left ps hl0
      by_cases c1 : A = n
      · have d1 : ((A : Int) == (n : Int)) = true := by simp [c1]
        obtain rfl : true = X := by rw [← HX.out]; exact (decide_eq_true (hAs ▸ c1)).symm
        clear c1 hAs
        go_wp2_with fail
        go_ret
        exact ⟨rfl, hb⟩
      · have d1 : ((A : Int) == (n : Int)) = false := by simp; omega
        obtain rfl : false = X := by rw [← HX.out]; exact (decide_eq_false (hAs ▸ c1)).symm
        clear c1 hAs
        go_wp2_with fail
        go_ret
        exact ⟨rfl, hb⟩
    · intro i l t w1 cnt1 hl hlk hrg1 hlt hg1 hen
      have hstr := sumL_strike left h.rs hl hlk
      have hsl2 := sumL_le (fun z => left z && !z.sameKey (kN i)) ps
      have hsum : A + l.length < 4611686018427387904 := by have := HA.out; omega
      have hsi : (A : Int) + (l.length : Int) < 18446744073709551616 := by omega
      have HS : Hid _ := hstr
      clear hstr hsl2
      have hgw1 : w.grownBy w1 none := hgw.andThen hg1 (fun j hj => by cases hj; exact Or.inl (Nat.le_refl _))
      go_wp2_with fail
      refine ⟨⟨_, cnt1, A + l.length, by go_num, ?_, hrg1, hgw1⟩, ?_⟩
      · show _ = _
        rw [HA.out]
        exact HS.out.symm
      · rw [hrg1.left_eq, hrg.left_eq]; exact hlt
end
end Go.Proofs.Ytlajncjamafomaa
