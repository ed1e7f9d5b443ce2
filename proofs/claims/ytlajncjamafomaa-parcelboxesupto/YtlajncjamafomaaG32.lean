/- What ParcelBack asks: a piece of which a byte is turned is refused; all pieces have come. -/
import Derived.Test.YtlajncjamafomaaG31
import Derived.Test.YtlajncjamafomaaG11
namespace Go.Proofs.Ytlajncjamafomaa
open Go.RowKit Go.Maps
set_option linter.unusedVariables false

theorem pkI_flen (b : List UInt8) (sz i : Nat) : (pkI b sz i).length = (M.vi (pkRow b sz i).length).length + (4 + (pkRow b sz i).length) := by
  show (M.frame (pkRow b sz i)).length = _
  simp [M.frame, M.be_length]
theorem pkI_turn (b : List UInt8) (sz i r : Nat) (hr : r < 4) (hb : b.length ≤ 1048576) : ∃ (A : Nat) (x y : UInt8), A + 1 + r = (pkI b sz i).length ∧ (pkI b sz i)[A]? = some x ∧ bits .xor .u8 (x.toNat : Int) 1 = (y.toNat : Int) ∧ pkR ((pkI b sz i).set A y) = (pk0, 11) := by
  have hl := pkI_flen b sz i
  have hrl := pkRow_le b sz i hb
  have hA : (M.vi (pkRow b sz i).length).length + (4 + (pkRow b sz i).length - 1 - r) < (pkI b sz i).length := by omega
  refine ⟨(M.vi (pkRow b sz i).length).length + (4 + (pkRow b sz i).length - 1 - r), (pkI b sz i)[(M.vi (pkRow b sz i).length).length + (4 + (pkRow b sz i).length - 1 - r)], (pkI b sz i)[(M.vi (pkRow b sz i).length).length + (4 + (pkRow b sz i).length - 1 - r)] ^^^ 1, by omega, by simp, ?_, ?_⟩
  · have := u8_xor_nat ((pkI b sz i)[(M.vi (pkRow b sz i).length).length + (4 + (pkRow b sz i).length - 1 - r)]).toNat (1 : UInt8).toNat (UInt8.toNat_lt _) (UInt8.toNat_lt _)
    rw [UInt8.toNat_xor]
    exact this
  · have := turned_refused (pkRow b sz i) (4 + (pkRow b sz i).length - 1 - r) (by omega) 1 (by decide) (by omega) hA
    unfold pkR
    have e : M.tf ((pkI b sz i).set ((M.vi (pkRow b sz i).length).length + (4 + (pkRow b sz i).length - 1 - r)) ((pkI b sz i)[(M.vi (pkRow b sz i).length).length + (4 + (pkRow b sz i).length - 1 - r)] ^^^ 1)) = ([], [], 11) := this
    rw [e]
    simp
theorem bxPut_bad (s n k : Nat) (ps : List (Nat × List UInt8)) : bxPut s n k ps (pk0, 11) = ((k, ps), 11) := by
  unfold bxPut
  simp
theorem and62n (j : Nat) (h : j < 4611686018427387904) : bits .and .i64 (j : Int) 4611686018427387903 = (j : Int) := by
  have h1 : (BitVec.ofInt 64 (4611686018427387903 : Int)).toNat = 2 ^ 62 - 1 := by decide
  have h0 : (BitVec.ofInt 64 (j : Int)).toNat = j := by
    rw [BitVec.toNat_ofInt]
    omega
  have hb : bits .and .i64 (j : Int) 4611686018427387903 = IntKind.i64.wrap ((((BitVec.ofInt 64 (j : Int)) &&& (BitVec.ofInt 64 (4611686018427387903 : Int))).toNat : Nat) : Int) := rfl
  rw [hb, BitVec.toNat_and, h1, h0, Nat.and_two_pow_sub_one_eq_mod, Nat.mod_eq_of_lt (by omega), IntKind.wrap_i64]
  omega
theorem absP_none {ps : List (Nat × List UInt8)} {M0 : Nat} (h : ∀ j, j < M0 → (lkP ps j).isSome = true) (j : Nat) (hj : j ≤ M0) : absP ps j = [] := by
  induction j with
  | zero => simp [absP]
  | succ j ih =>
    rw [absP_succ, ih (by omega), h j (by omega)]
    rfl
/-- All have come. -/
theorem PB.all {b : List UInt8} {sz kk : Nat} {ps : List (Nat × List UInt8)} (h : PB b sz kk ps) (hl : ∀ j, j < pkM b.length sz → (lkP ps j).isSome = true) : ps.length = pkM b.length sz ∧ msP ps kk = [] := by
  have h1 := absP_none hl _ (Nat.le_refl _)
  have h2 := absP_cnt h.rs (pkM b.length sz)
  rw [h1] at h2
  have h3 := cntP_le ps (pkM b.length sz)
  have h4 := h.len
  have hm1 : 1 ≤ pkM b.length sz := by unfold pkM; omega
  have hlen : ps.length = pkM b.length sz := by simp at h2; omega
  refine ⟨hlen, ?_⟩
  have hkk : kk = pkM b.length sz := by
    rcases h.kk with ⟨e, _⟩ | e
    · rw [e] at hlen; simp at hlen; omega
    · exact e
  unfold msP
  rw [hkk, show max 1 (pkM b.length sz) = pkM b.length sz by omega, h1]
  rfl
theorem Bx.keptT {B C d s n k : Nat} {ps : List (Nat × List UInt8)} {w w' : World} {g : Nat} {cs : Array Value} {t : TypeId} {fr : Nat × Nat} (h : Bx B C d s n k ps w) (hg : w.heap[g]? = some (.cells cs t fr)) (ht : t ≠ 5) (hC : C ≤ g) (hc : Chg (fun b => b = g) w w') : Bx B C d s n k ps w' := by
  obtain ⟨m, D, fv, h⟩ := h
  have := h.hi
  exact ⟨m, D, fv, h.next hc (by omega) (by omega) (fun i l e b e2 q => ow_ne (h.el i l e) hg ht b e2 q)⟩
/-- A row of Booleans. -/
def BoR (g : Nat) (fb : List Bool) (w : World) : Prop := w.heap[g]? = some (.cells (fb.map Value.bool).toArray 4 (0, 0))
theorem BoR.at {g : Nat} {fb : List Bool} {w : World} (h : BoR g fb w) (k : Nat) (x : Bool) (e : fb[k]? = some x) : w.cell? ⟨g, k, none⟩ = some (.bool x) ∧ w.frozen? ⟨g, k, none⟩ = false := by
  refine ⟨?_, frozen_of_row _ _ _ _ _ h⟩
  rw [cell_of_row _ _ _ _ _ _ h]
  simp [e]
theorem BoR.put {g : Nat} {fb : List Bool} {w : World} (h : BoR g fb w) (k : Nat) (x : Bool) : BoR g (fb.set k x) (w.setCell ⟨g, k, none⟩ (.bool x)) := by
  unfold BoR
  rw [heap_setCell_same _ _ k _ _ (.bool x) h]
  congr 2
  simp [List.map_set]
theorem Try.infoBo : (Try.prog.info? 4).map (fun i => (i.zero, i.size, i.bytes)) = some (some (.bool false), 1, 1) := by kernel_rfl
end Go.Proofs.Ytlajncjamafomaa
