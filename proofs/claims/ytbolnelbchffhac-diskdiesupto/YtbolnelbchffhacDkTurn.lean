/- Each call that changes an armed disk: an error and nothing else; or it dies; or it is done and one less is left. -/
import Derived.Test.YtbolnelbchffhacDkArm1
import Derived.Test.YtbolnelbchffhacDkArmR
import Derived.Test.YtbolnelbchffhacDkArmW
import Derived.Test.YtbolnelbchffhacDkArmV
import Derived.Test.YtbolnelbchffhacDkArmN
import Derived.Test.YtbolnelbchffhacDkArmM
import Derived.Test.YtbolnelbchffhacDkSum
namespace Go.Proofs.Ytbolnelbchffhac
open Go.RowKit
set_option linter.unusedVariables false
set_option maxRecDepth 100000

/-- An armed disk with L changes left. -/
def DD (B d N L : Nat) (w : World) : Prop := ∃ (n : Nat) (own : Nat → Option Role) (st : Nm → Option (List UInt8 × Nat)) (sz : Nat), n ≤ N ∧ Dk B d n own st sz (armed d) (L : Int) w ∧ Sum st sz ∧ sz ≤ 16777216
/-- A dead one. -/
def DX (B d : Nat) (w : World) : Prop := ∃ (n : Nat) (own : Nat → Option Role) (st : Nm → Option (List UInt8 × Nat)) (sz : Nat), Dk B d n own st sz (dead d) 0 w
/-- Behind a call that answered e. -/
def After (B d N L : Nat) (e : Int) (w w' : World) : Prop :=
  Below B w w' ∧ ((e ≠ 0 ∧ e ≠ 21 ∧ DD B d N L w') ∨ (e = 21 ∧ L = 0 ∧ DX B d w') ∨ (e = 0 ∧ ∃ K, L = K + 1 ∧ DD B d N K w'))

section
variable {B d N L : Nat} {w : World}

theorem DD.below {w' : World} (h : DD B d N L w) (hb : Below w.heap.size w w') : DD B d N L w' := by
  obtain ⟨n, own, st, sz, h1, h2, h3, h4⟩ := h
  exact ⟨n, own, st, sz, h1, h2.below hb, h3, h4⟩
theorem DD.leB (h : DD B d N L w) : B ≤ w.heap.size := by
  obtain ⟨n, own, st, sz, h1, h2, h3, h4⟩ := h
  exact h2.leB
theorem DX.drN (h : DX B d w) (q : Nat) : DX B d (w.drewN q) := by
  obtain ⟨n, own, st, sz, h⟩ := h
  exact ⟨n, own, st, sz, h.drN q⟩
theorem after_same {n : Nat} {own : Nat → Option Role} {st : Nm → Option (List UInt8 × Nat)} {sz : Nat} {e : Int} (h1 : n ≤ N) (h2 : Dk B d n own st sz (armed d) (L : Int) w) (h3 : Sum st sz) (h4 : sz ≤ 16777216) (q : Nat) (he : e ≠ 0 ∧ e ≠ 21) : After B d (N + 1) L e w (w.drewN q) :=
  ⟨(Below.dN w q).mono h2.leB, .inl ⟨he.1, he.2, n, own, st, sz, by omega, h2.drN q, h3, h4⟩⟩

theorem sync_turn (h : DD B d N L w) (hL : L ≤ 9223372036854775807) (s : ByteArray) (hs : s.size ≤ maxLen) :
    Calls Try.prog 13 #[.pointer (some ⟨d, 0, none⟩), .string s] w fun e w' => ∃ v, e = .returned (.int .i64 v) ∧ After B d (N + 1) L v w w' := by
  obtain ⟨n, own, st, sz, h1, h2, h3, h4⟩ := h
  cases e : st s.data.toList with
  | none =>
    refine (sync_err h2 s hs e).mono ?_
    rintro _ w' ⟨rfl, q, rfl⟩
    exact ⟨20, rfl, after_same h1 h2 h3 h4 q (by decide)⟩
  | some f =>
    cases L with
    | zero =>
      refine (sync_dies h2 s hs f e).mono ?_
      rintro _ w' ⟨rfl, hd, hc⟩
      exact ⟨21, rfl, h2.chg hc, .inr (.inl ⟨rfl, rfl, n, own, st, sz, hd⟩)⟩
    | succ K =>
      refine (sync_ok h2 (by omega) s hs f e).mono ?_
      rintro _ w' ⟨rfl, ⟨own', hd, _⟩, hc⟩
      exact ⟨0, rfl, h2.chg hc, .inr (.inr ⟨rfl, K, rfl, n, own', _, sz, by omega, hd, h3.set _ _ (by rw [e]; rfl), h4⟩)⟩

theorem remove_turn (h : DD B d N L w) (hL : L ≤ 9223372036854775807) (s : ByteArray) (hs : s.size ≤ maxLen) :
    Calls Try.prog 20 #[.pointer (some ⟨d, 0, none⟩), .string s] w fun e w' => ∃ v, e = .returned (.int .i64 v) ∧ After B d (N + 1) L v w w' := by
  obtain ⟨n, own, st, sz, h1, h2, h3, h4⟩ := h
  cases e : st s.data.toList with
  | none =>
    refine (remove_err h2 s hs e).mono ?_
    rintro _ w' ⟨rfl, q, rfl⟩
    exact ⟨20, rfl, after_same h1 h2 h3 h4 q (by decide)⟩
  | some f =>
    have hle : f.1.length ≤ sz := by have := h3.le s.data.toList; rw [e] at this; exact this
    cases L with
    | zero =>
      refine (remove_dies h2 s hs f e).mono ?_
      rintro _ w' ⟨rfl, hd, hc⟩
      exact ⟨21, rfl, h2.chg hc, .inr (.inl ⟨rfl, rfl, n, own, st, sz, hd⟩)⟩
    | succ K =>
      refine (remove_ok h2 (by omega) s hs f e hle (by omega)).mono ?_
      rintro _ w' ⟨rfl, ⟨own', hd, _⟩, hc⟩
      exact ⟨0, rfl, h2.chg hc, .inr (.inr ⟨rfl, K, rfl, n, own', _, _, by omega, hd, h3.set _ _ (by rw [e]; simp only [lenO]; omega), by omega⟩)⟩

theorem write_turn (h : DD B d N L w) (hL : L ≤ 9223372036854775807) (hN : N ≤ 1099511627776) (s : ByteArray) (hs : s.size ≤ maxLen) {vb : Value} {l : List UInt8} (hr : ∀ W, Below B w W → Rd W vb l) (hl : l.length ≤ 1099511627776) :
    Calls Try.prog 12 #[.pointer (some ⟨d, 0, none⟩), .string s, vb] w fun e w' => ∃ v, e = .returned (.int .i64 v) ∧ After B d (N + 1) L v w w' := by
  obtain ⟨n, own, st, sz, h1, h2, h3, h4⟩ := h
  have hr0 := hr w (Below.refl _ _)
  by_cases he : wErr s l.length sz = 0
  · have hg : (1 ≤ s.size ∧ s.size ≤ 64) ∧ sz + l.length ≤ 16777216 := by
      unfold wErr at he
      by_cases q : 1 ≤ s.size ∧ s.size ≤ 64
      · rw [if_neg (by simpa using q)] at he
        by_cases q2 : 16777216 < sz + l.length
        · rw [if_pos q2] at he; cases he
        · exact ⟨q, by omega⟩
      · rw [if_pos q] at he; cases he
    cases L with
    | zero =>
      refine (write_dies h2 s hr0 hl h4 he).mono ?_
      rintro _ w' ⟨rfl, hd, hc⟩
      exact ⟨21, rfl, h2.chg hc, .inr (.inl ⟨rfl, rfl, n, own, st, sz, hd⟩)⟩
    | succ K =>
      cases e : st s.data.toList with
      | none =>
        refine (write_okN h2 (by omega) s hg.1.1 hg.1.2 e hr hg.2 (by omega)).mono ?_
        rintro _ w' ⟨rfl, ⟨own', hd, _⟩, hc⟩
        exact ⟨0, rfl, h2.chg hc, .inr (.inr ⟨rfl, K, rfl, n + 1, own', _, _, by omega, hd, h3.set _ _ (by rw [e]; simp only [lenO]; omega), hg.2⟩)⟩
      | some f =>
        have hle : f.1.length ≤ sz := by have := h3.le s.data.toList; rw [e] at this; exact this
        refine (write_okT h2 (by omega) s hg.1.1 hg.1.2 f e hr hg.2 (by omega)).mono ?_
        rintro _ w' ⟨rfl, ⟨own', hd, _⟩, hc⟩
        exact ⟨0, rfl, h2.chg hc, .inr (.inr ⟨rfl, K, rfl, n, own', _, _, by omega, hd, h3.set _ _ (by rw [e]; simp only [lenO, List.length_append]; omega), hg.2⟩)⟩
  · refine (write_err h2 s hr0 hl h4 he).mono ?_
    rintro _ w' ⟨rfl, q, rfl⟩
    refine ⟨_, rfl, after_same h1 h2 h3 h4 q ?_⟩
    have : wErr s l.length sz ≤ 2 := by unfold wErr; split; omega; split <;> omega
    omega

theorem rename_turn (h : DD B d N L w) (hL : L ≤ 9223372036854775807) (hN : N ≤ 1099511627776) (s t : ByteArray) (hs : s.size ≤ maxLen) :
    Calls Try.prog 21 #[.pointer (some ⟨d, 0, none⟩), .string s, .string t] w fun e w' => ∃ v, e = .returned (.int .i64 v) ∧ After B d (N + 1) L v w w' := by
  obtain ⟨n, own, st, sz, h1, h2, h3, h4⟩ := h
  by_cases he : rErr st s t = 0
  · have hg : st s.data.toList ≠ none ∧ 1 ≤ t.size ∧ t.size ≤ 64 := by
      unfold rErr at he
      by_cases q : st s.data.toList = none
      · rw [if_pos q] at he; cases he
      · rw [if_neg q] at he
        by_cases q2 : 1 ≤ t.size ∧ t.size ≤ 64
        · exact ⟨q, q2⟩
        · rw [if_pos q2] at he; cases he
    obtain ⟨f, e⟩ := Option.ne_none_iff_exists'.1 hg.1
    cases L with
    | zero =>
      refine (rename_dies h2 s t hs he).mono ?_
      rintro _ w' ⟨rfl, hd, hc⟩
      exact ⟨21, rfl, h2.chg hc, .inr (.inl ⟨rfl, rfl, n, own, st, sz, hd⟩)⟩
    | succ K =>
      have hle : f.1.length ≤ sz := by have := h3.le s.data.toList; rw [e] at this; exact this
      have h3' : Sum (setF st s.data.toList none) (sz - f.1.length) := h3.set _ _ (by rw [e]; simp only [lenO]; omega)
      cases et : setF st s.data.toList none t.data.toList with
      | none =>
        refine (rename_okN h2 (by omega) s t hs hg.2.1 hg.2.2 f e et (by omega)).mono ?_
        rintro _ w' ⟨rfl, ⟨own', hd, _⟩, hc⟩
        exact ⟨0, rfl, h2.chg hc, .inr (.inr ⟨rfl, K, rfl, n + 1, own', _, _, by omega, hd, h3'.set _ _ (by rw [et]; simp only [lenO]; omega), h4⟩)⟩
      | some f2 =>
        have hle2 : f2.1.length ≤ sz - f.1.length := by have := h3'.le t.data.toList; rw [et] at this; exact this
        refine (rename_okO h2 (by omega) s t hs hg.2.1 hg.2.2 f f2 e et (by omega) (by omega) (by omega)).mono ?_
        rintro _ w' ⟨rfl, ⟨own', hd, _⟩, hc⟩
        exact ⟨0, rfl, h2.chg hc, .inr (.inr ⟨rfl, K, rfl, n + 1, own', _, _, by omega, hd, h3'.set _ _ (by rw [et]; simp only [lenO]; omega), by omega⟩)⟩
  · refine (rename_err h2 s t hs he).mono ?_
    rintro _ w' ⟨rfl, q, rfl⟩
    refine ⟨_, rfl, after_same h1 h2 h3 h4 q ?_⟩
    have : rErr st s t ≤ 20 := by unfold rErr; split; omega; split <;> omega
    omega
end
end Go.Proofs.Ytbolnelbchffhac
