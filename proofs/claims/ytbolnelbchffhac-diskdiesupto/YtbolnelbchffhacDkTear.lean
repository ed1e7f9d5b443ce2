/- What tear leaves of a file. -/
import Derived.Test.YtbolnelbchffhacDkOps
namespace Go.Proofs.Ytbolnelbchffhac
open Go.RowKit
set_option linter.unusedVariables false
set_option maxRecDepth 100000

/-- How many bytes stay of what is loose. -/
def stays (k : Int) (loose : Nat) : Nat := min k.toNat loose

section
variable {B d n m : Nat} {D : DataW Unit} {fb : Nm → Nat} {fv : Nm → Value} {own : Nat → Option Role} {st : Nm → Option (List UInt8 × Nat)} {sz : Nat} {may : Value} {left : Int} {w : World}

theorem Ow.pre {B : Nat} {w : World} {a : Option Addr} {c : Nat} {l : List UInt8} (h : Ow B w (.slice a l.length c) l) (k : Nat) (hk : k ≤ l.length) : Ow B w (.slice a k c) (l.take k) := by
  have hlen : (l.take k).length = k := by rw [List.length_take]; omega
  obtain ⟨h1, h2⟩ := h
  refine ⟨by simp [cel_length, hlen], ?_⟩
  rw [hlen]
  rcases h2 with ⟨q, q0⟩ | ⟨g, cap, cur, hv, hg, hh, hn, hcap, hsz, ht⟩
  · left
    injection q with q1 q2 q3
    subst q1; subst q3
    exact ⟨by rw [show k = 0 by omega], by omega⟩
  · right
    injection hv with q1 q2 q3
    subst q1; subst q3
    refine ⟨g, c, cur, rfl, hg, hh, by omega, hcap, hsz, ?_⟩
    have : cel (l.take k) = (cel l).take k := by simp [cel]
    rw [this, ← ht, List.take_take]
    congr 1
    simp only [Nat.mul_one]
    omega

theorem DkI.torn (h : DkI B d n m D fb fv own st sz may left w) {nm : Nm} {f : List UInt8 × Nat} (e : st nm = some f) {a : Option Addr} {c : Nat} (efv : fv nm = .slice a f.1.length c) (k : Nat) (hk : k ≤ f.1.length) :
    (∃ own', Dk B d n own' (setF st nm (some (f.1.take k, k))) sz may left ((w.setCell ⟨fb nm, 1, none⟩ (.int .i64 (k : Int))).setCell ⟨fb nm, 0, none⟩ (.slice a k c)) ∧ ∀ b, own' b ≠ none → own b ≠ none ∨ w.heap.size ≤ b) ∧
      Chg (fun b => own b ≠ none) w ((w.setCell ⟨fb nm, 1, none⟩ (.int .i64 (k : Int))).setCell ⟨fb nm, 0, none⟩ (.slice a k c)) := by
  obtain ⟨h1, h2, h3⟩ := h.file nm f e
  have hof := h.ofl nm f e
  rw [efv] at h1 h2
  have hc : Chg (fun b => own b = some (.file nm) ∨ own b = some (.data nm)) w ((w.setCell ⟨fb nm, 1, none⟩ (.int .i64 (k : Int))).setCell ⟨fb nm, 0, none⟩ (.slice a k c)) := ((Chg.refl _ w).put (fb nm) 1 _ (.inl hof)).put (fb nm) 0 _ (.inl hof)
  have hc2 : Chg (fun b => b = fb nm) w ((w.setCell ⟨fb nm, 1, none⟩ (.int .i64 (k : Int))).setCell ⟨fb nm, 0, none⟩ (.slice a k c)) := ((Chg.refl (fun b => b = fb nm) w).put (fb nm) 1 _ rfl).put (fb nm) 0 _ rfl
  have hov : ∀ b, (Value.slice a k c).ownBlock = some b → own b = some (.data nm) := fun b hb => h.ov nm f b e (by rw [efv]; cases a <;> exact hb)
  have hb1 : (w.setCell ⟨fb nm, 1, none⟩ (.int .i64 (k : Int))).heap[fb nm]? = some (.cells #[.slice a f.1.length c, .int .i64 (k : Int)] 74 (0, 0)) := by
    rw [heap_setCell_same w _ 1 _ _ _ h1]; rfl
  refine ⟨⟨_, ⟨m, D, fb, _, h.upd e hc (fv' := .slice a k c) (bytes' := f.1.take k) (s' := k) (by rw [heap_setCell_same _ _ 0 _ _ _ hb1]; rfl) ((h2.pre k hk).keptC hc2 (fun b hb q => ?_)) (by rw [List.length_take]; omega) (fun b hb => .inl (hov b hb))⟩, fun b hb => ?_⟩, hc.mono (fun b _ q => by rcases q with q | q <;> rw [q] <;> simp)⟩
  · have := hov b hb
    rw [q, hof] at this; cases this
  · left
    by_cases q : (Value.slice a k c).ownBlock = some b
    · rw [hov b q]; simp
    · rw [if_neg q] at hb; exact hb

set_option maxHeartbeats 1000000 in
theorem tear_any (h : DkI B d n m D fb fv own st sz may left w) {nm : Nm} {f : List UInt8 × Nat} (e : st nm = some f) (hlt : f.2 < f.1.length) (hfl : f.1.length ≤ 16777216) (k : Int) (hk : -9223372036854775808 ≤ k ∧ k ≤ 9223372036854775807) :
    Calls Try.prog 42 #[.pointer (some ⟨fb nm, 0, none⟩), .int .i64 k] w fun e w' => e = .returned (.int .i64 ((f.1.length - f.2 - stays k (f.1.length - f.2) : Nat) : Int)) ∧
      (∃ own', Dk B d n own' (setF st nm (some (f.1.take (f.2 + stays k (f.1.length - f.2)), f.2 + stays k (f.1.length - f.2)))) sz may left w' ∧ ∀ b, own' b ≠ none → own b ≠ none ∨ w.heap.size ≤ b) ∧ Chg (fun b => own b ≠ none) w w' := by
  obtain ⟨fa, fc, efv, hln, f0, f1, hfz, hrd⟩ := h.fcell e
  have hfz0 := hfz 0
  have hfz1 := hfz 1
  generalize hg : fb nm = g at *
  obtain ⟨fl, fs⟩ := f
  simp only [] at *
  obtain ⟨ad, rfl⟩ : ∃ ad, fa = some ad := by
    obtain ⟨ao, c, q, _, _, q3, q4⟩ := hrd
    obtain ⟨a, qa, _⟩ := q4 0 (by omega)
    injection q with q1
    exact ⟨a, by rw [q1]; exact qa⟩
  have hcap : fl.length ≤ fc ∧ fc ≤ 9223372036854775807 := by
    obtain ⟨ao, c, q, q1, q2, _, _⟩ := hrd
    injection q with _ _ q5
    unfold maxLen at q2
    omega
  obtain ⟨q, hq⟩ : ∃ q, stays k (fl.length - fs) = q := ⟨_, rfl⟩
  have hq3 : k < 0 ∧ q = 0 ∨ 0 ≤ k ∧ k ≤ (fl.length : Int) - (fs : Int) ∧ k = (q : Int) ∨ 0 ≤ k ∧ (fl.length : Int) - (fs : Int) < k ∧ q = fl.length - fs := by
    unfold stays at hq
    omega
  rw [hq]
  clear hq
  have hqb : fs + q ≤ fl.length := by omega
  have HS : Hid _ := h
  have hbk : w.heap[g]? = some (.cells #[.slice (some ad) fl.length fc, .int .i64 (fs : Int)] 74 (0, 0)) := by
    have := (h.file nm _ e).1
    rw [hg, efv] at this
    exact this
  have hW : ∀ j, ((w.drewN j).setCell ⟨g, 1, none⟩ (.int .i64 ((fs + q : Nat) : Int))).heap[g]? = some (.cells #[.slice (some ad) fl.length fc, .int .i64 ((fs + q : Nat) : Int)] 74 (0, 0)) := fun j => by
    rw [heap_setCell_same (w.drewN j) g 1 _ _ _ hbk]; rfl
  have HW : Hid _ := hW
  clear hW hbk
  go_enter Try.func42, Try.ntmps42
  rcases hq3 with ⟨k1, rfl⟩ | ⟨k1, k2, rfl⟩ | ⟨k1, k2, rfl⟩
  all_goals
    go_wp2_with fail
    go_quiet (fail)
    go_wp2_with fail
    go_region
    all_goals go_wp2_with fail
    all_goals go_ret
    all_goals
      have ht := ((HS.out.drN nq).torn e efv (fs + _) hqb)
      rw [hg] at ht
      obtain ⟨⟨own', x1, x2⟩, x3⟩ := ht
      have x1' := x1.drN 1
      have x3' := x3.dN 1
      have hd0 : Chg (fun b => own b ≠ none) w (w.drewN nq) := (Chg.of_below (Below.dN w nq)).mono (fun b hb q => by omega)
      refine ⟨ret_int (by omega), ⟨own', ?_, x2⟩, hd0.trans ((?_ : Chg (fun b => own b ≠ none) _ _).mono (fun b _ q => Or.inl q))⟩
      · first | exact x1' | (simp only [Int.natCast_add] at x1' ⊢; exact x1') | (simp only [Int.natCast_add, show ((fl.length - fs : Nat) : Int) = (fl.length : Int) - (fs : Int) by omega] at x1'; exact x1')
      · first | exact x3' | (simp only [Int.natCast_add] at x3'; exact x3') | (simp only [Int.natCast_add, show ((fl.length - fs : Nat) : Int) = (fl.length : Int) - (fs : Int) by omega] at x3'; exact x3')
end
end Go.Proofs.Ytbolnelbchffhac
