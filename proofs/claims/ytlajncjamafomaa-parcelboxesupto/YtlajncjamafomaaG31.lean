/- What ParcelSizes asks of a box to which all pieces but one have come. -/
import Derived.Test.YtlajncjamafomaaG30
import Derived.Test.YtlajncjamafomaaG13
import Derived.Test.YtlajncjamafomaaG4
import Derived.Test.YtlajncjamafomaaG1
import Derived.Test.YtlajncjamafomaaG24
namespace Go.Proofs.Ytlajncjamafomaa
open Go.RowKit Go.Maps
set_option linter.unusedVariables false

def pkRow (b : List UInt8) (size i : Nat) : List UInt8 := M.row [M.vi (M.crc b), M.vi b.length, M.vi (pkM b.length size), M.vi i, pkP b size i]
theorem pkI_tf (b : List UInt8) (size i : Nat) (hb : b.length ≤ 1048576) : M.tf (pkI b size i) = (pkRow b size i, [], 0) := by
  have hl := pkRow_len (M.crc b) b.length (pkM b.length size) i (pkP b size i)
  have hp := pkP_len b size i
  have := M.tf_back (pkRow b size i) [] (by unfold pkRow; omega)
  rw [List.append_nil] at this
  exact this
theorem pkI_tr (b : List UInt8) (size i : Nat) (hb : b.length ≤ 1048576) : M.tr (pkRow b size i) = ([M.vi (M.crc b), M.vi b.length, M.vi (pkM b.length size), M.vi i, pkP b size i], 0) := by
  refine M.tr_row _ (by simp) (fun f hf => ?_)
  have h1 := vi_le (M.crc b)
  have h2 := vi_le b.length
  have h3 := vi_le (pkM b.length size)
  have h4 := vi_le i
  have h5 := pkP_len b size i
  simp only [List.mem_cons, List.not_mem_nil, or_false] at hf
  rcases hf with rfl | rfl | rfl | rfl | rfl <;> omega
theorem pkRow_le (b : List UInt8) (size i : Nat) (hb : b.length ≤ 1048576) : (pkRow b size i).length ≤ 1099511627776 := by
  have hl := pkRow_len (M.crc b) b.length (pkM b.length size) i (pkP b size i)
  have hp := pkP_len b size i
  unfold pkRow; omega
/-- k pieces have come, but the one of number sk. -/
structure SzI (b : List UInt8) (sz sk k kk : Nat) (ps : List (Nat × List UInt8)) : Prop where
  pb : PB b sz kk ps
  lk : ∀ j, (lkP ps j).isSome = decide (j < k ∧ j ≠ sk)
  len : ps.length = if sk < k then k - 1 else k
theorem SzI.nil (b : List UInt8) (sz sk : Nat) : SzI b sz sk 0 0 [] := ⟨PB.nil _ _, fun j => by simp [lkP], by simp⟩
theorem SzI.skip {b : List UInt8} {sz sk kk : Nat} {ps : List (Nat × List UInt8)} (h : SzI b sz sk sk kk ps) : SzI b sz sk (sk + 1) kk ps := by
  refine ⟨h.pb, fun j => ?_, ?_⟩
  · rw [h.lk j]
    congr 1
    apply propext
    constructor
    · rintro ⟨q1, q2⟩; exact ⟨by omega, q2⟩
    · rintro ⟨q1, q2⟩; exact ⟨by omega, q2⟩
  · rw [h.len, if_neg (by omega), if_pos (by omega)]; omega
theorem SzI.put {b : List UInt8} {sz sk k kk : Nat} {ps : List (Nat × List UInt8)} (h : SzI b sz sk k kk ps) (hne : k ≠ sk) (hs : 0 < sz) (hb : b.length ≤ 1048576) (hi : k < pkM b.length sz) :
    bxPut (M.crc b) b.length kk ps (pkR (pkI b sz k)) = ((pkM b.length sz, putP ps k (pkP b sz k)), 0) ∧ SzI b sz sk (k + 1) (pkM b.length sz) (putP ps k (pkP b sz k)) := by
  obtain ⟨e, b1⟩ := h.pb.put hs hb hi
  have hn : (lkP ps k).isSome = false := by rw [h.lk k]; simp
  refine ⟨e, b1, fun j => ?_, ?_⟩
  · rw [putP_lk, h.lk j]
    by_cases q : j = k
    · subst q
      simp [hne]
    · by_cases q2 : j < k
      · by_cases q3 : j = sk
        · subst q3; simp [q]
        · simp [q, q2, q3]; omega
      · have : ¬ j < k + 1 := by omega
        simp [q, q2, this]
  · rw [putP_len, hn, h.len]
    simp only [Bool.false_eq_true, if_false]
    by_cases q : sk < k
    · rw [if_pos q, if_pos (show sk < k + 1 by omega)]; omega
    · rw [if_neg q, if_neg (show ¬ sk < k + 1 by omega)]
theorem absP_one {ps : List (Nat × List UInt8)} {sk M0 : Nat} (h : ∀ j, (lkP ps j).isSome = decide (j < M0 ∧ j ≠ sk)) (j : Nat) (hj : j ≤ M0) : absP ps j = if sk < j then [(sk : Int)] else [] := by
  induction j with
  | zero => simp [absP]
  | succ j ih =>
    rw [absP_succ, ih (by omega), h j]
    by_cases q : j = sk
    · subst q
      have e : decide (j < M0 ∧ j ≠ j) = false := by simp
      rw [e, if_neg (show ¬ j < j by omega), if_pos (show j < j + 1 by omega)]
      rfl
    · have e : decide (j < M0 ∧ j ≠ sk) = true := by simp [q]; omega
      rw [e]
      simp only [if_true, List.append_nil]
      by_cases q2 : sk < j
      · rw [if_pos q2, if_pos (by omega)]
      · rw [if_neg q2, if_neg (by omega)]
theorem SzI.miss {b : List UInt8} {sz sk kk : Nat} {ps : List (Nat × List UInt8)} (h : SzI b sz sk (pkM b.length sz) kk ps) (hk : sk < pkM b.length sz) (h1 : 1 < pkM b.length sz) : msP ps kk = [(sk : Int)] := by
  have hl := h.len
  rw [if_pos hk] at hl
  have hkk : kk = pkM b.length sz := by
    rcases h.pb.kk with ⟨e, _⟩ | e
    · rw [e] at hl; simp at hl; omega
    · exact e
  unfold msP
  rw [hkk, show max 1 (pkM b.length sz) = pkM b.length sz by omega, absP_one h.lk _ (Nat.le_refl _), if_pos hk]
  rfl
theorem SzI.undone {b : List UInt8} {sz sk kk : Nat} {ps : List (Nat × List UInt8)} (h : SzI b sz sk (pkM b.length sz) kk ps) (hk : sk < pkM b.length sz) (hs : 0 < sz) : bxDone (M.crc b) b.length kk ps = none := by
  have hl := h.len
  rw [if_pos hk] at hl
  rw [h.pb.done hs, if_neg (by omega)]
theorem SzI.last {b : List UInt8} {sz sk kk : Nat} {ps : List (Nat × List UInt8)} (h : SzI b sz sk (pkM b.length sz) kk ps) (hk : sk < pkM b.length sz) (hs : 0 < sz) (hb : b.length ≤ 1048576) :
    bxPut (M.crc b) b.length kk ps (pkR (pkI b sz sk)) = ((pkM b.length sz, putP ps sk (pkP b sz sk)), 0) ∧ bxDone (M.crc b) b.length (pkM b.length sz) (putP ps sk (pkP b sz sk)) = some b ∧ (putP ps sk (pkP b sz sk)).length = pkM b.length sz := by
  obtain ⟨e, b1⟩ := h.pb.put hs hb hk
  have hl := h.len
  rw [if_pos hk] at hl
  have hn : (lkP ps sk).isSome = false := by rw [h.lk sk]; simp
  have hlen : (putP ps sk (pkP b sz sk)).length = pkM b.length sz := by rw [putP_len, hn, hl]; simp; omega
  exact ⟨e, by rw [b1.done hs, if_pos hlen], hlen⟩
theorem whole_all (b : List UInt8) (sz : Nat) (hs : 0 < sz) : b.take (pkM b.length sz * sz) = b := by
  have := pkP_all b sz hs
  rw [pkP_join] at this
  exact this
theorem msP_nil : msP [] 0 = [0] := by decide
end Go.Proofs.Ytlajncjamafomaa
