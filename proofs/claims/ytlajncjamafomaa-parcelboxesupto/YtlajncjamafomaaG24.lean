/- Frames of which a byte is turned; numbers of which 62 bits are taken. -/
import Derived.Test.YtlajncjamafomaaG14
import Derived.Test.YtlajncjamafomaaG3
namespace Go.Proofs.Ytlajncjamafomaa
open Go.RowKit
set_option linter.unusedVariables false
set_option maxRecDepth 100000

theorem and62 (x : Int) : ∃ m : Nat, m < 4611686018427387904 ∧ bits .and .i64 x 4611686018427387903 = (m : Int) := by
  have h1 : (BitVec.ofInt 64 (4611686018427387903 : Int)).toNat = 4611686018427387903 := by decide
  have h2 : ((BitVec.ofInt 64 x) &&& (BitVec.ofInt 64 (4611686018427387903 : Int))).toNat ≤ 4611686018427387903 := by
    rw [BitVec.toNat_and, h1]; exact Nat.and_le_right
  refine ⟨((BitVec.ofInt 64 x) &&& (BitVec.ofInt 64 (4611686018427387903 : Int))).toNat, by omega, ?_⟩
  have hb : bits .and .i64 x 4611686018427387903 = IntKind.i64.wrap ((((BitVec.ofInt 64 x) &&& (BitVec.ofInt 64 (4611686018427387903 : Int))).toNat : Nat) : Int) := rfl
  rw [hb]
  generalize ((BitVec.ofInt 64 x) &&& (BitVec.ofInt 64 (4611686018427387903 : Int))).toNat = m at *
  exact IntWalk.i64_in _ ⟨by omega, by omega⟩

theorem Ow.at {B : Nat} {w : World} {v : Value} {l : List UInt8} (h : Ow B w v l) (h0 : 0 < l.length) : ∃ g c, v = .slice (some ⟨g, 0, none⟩) l.length c ∧ B ≤ g ∧ l.length ≤ c ∧ c ≤ maxLen := by
  rcases h.2 with ⟨_, e⟩ | ⟨g, cap, cur, e, hg, hh, hn, hm, _⟩
  · omega
  · exact ⟨g, cap, e, hg, hn, hm⟩
theorem Ow.put {B g n c : Nat} {w : World} {l : List UInt8} (h : Ow B w (.slice (some ⟨g, 0, none⟩) n c) l) (hn : n = l.length) (i : Nat) (x : UInt8) (z : Int) (hz : z = (x.toNat : Int)) : Ow B (w.setCell ⟨g, i, none⟩ (.int .u8 z)) (.slice (some ⟨g, 0, none⟩) n c) (l.set i x) := by
  subst hn
  have := (World.ownsRow.stored h i (.int .u8 z)).1
  unfold Ow
  subst hz
  simpa [cel, List.map_set] using this

/-- The frame of l with one byte behind its length turned is refused by its sum. -/
theorem turned_refused (l : List UInt8) (j : Nat) (hj : j < 4 + l.length) (τ : UInt8) (hτ : τ ≠ 0) (hl : l.length < 18446744073709551616) (hat : (M.vi l.length).length + j < (M.frame l).length) :
    M.tf ((M.frame l).set ((M.vi l.length).length + j) ((M.frame l)[(M.vi l.length).length + j] ^^^ τ)) = ([], [], 11) := by
  have hxne : ∀ x : UInt8, x ^^^ τ ≠ x := fun x e => hτ (by
    have := congrArg (fun y => x ^^^ y) e
    simpa [← UInt8.xor_assoc] using this)
  have e0 : (M.frame l).set ((M.vi l.length).length + j) ((M.frame l)[(M.vi l.length).length + j] ^^^ τ) = M.vi l.length ++ ((M.be 4 (M.crc l) ++ l).set j (((M.be 4 (M.crc l) ++ l)[j]'(by simp [M.be_length]; omega)) ^^^ τ)) := by
    have hg : (M.frame l)[(M.vi l.length).length + j] = (M.be 4 (M.crc l) ++ l)[j]'(by simp [M.be_length]; omega) := by
      have : M.frame l = M.vi l.length ++ (M.be 4 (M.crc l) ++ l) := by simp [M.frame]
      simp only [this]
      rw [List.getElem_append_right (by omega)]
      congr 1
      omega
    rw [hg, show M.frame l = M.vi l.length ++ (M.be 4 (M.crc l) ++ l) by simp [M.frame], List.set_append_right _ _ (by omega), Nat.add_sub_cancel_left]
  rw [e0]
  by_cases h4 : j < 4
  · rw [List.set_append_left _ _ (by rw [M.be_length]; exact h4)]
    refine M.tf_turned _ _ _ hl (by simp [M.be_length]) rfl ?_
    intro e
    have hc : M.num (M.be 4 (M.crc l)) = M.crc l := M.num_be 4 _ (by have := M.crc_lt l; simpa using this)
    have := M.num_inj _ _ (by simp) (hc.trans e).symm
    have h2 := congrArg (fun y => y[j]?) this
    rw [List.getElem?_set_self (by rw [M.be_length]; exact h4), List.getElem?_eq_getElem (by rw [M.be_length]; exact h4), List.getElem_append_left (by rw [M.be_length]; exact h4)] at h2
    exact hxne _ (Option.some.inj h2)
  · obtain ⟨i, rfl⟩ : ∃ i, j = 4 + i := ⟨j - 4, by omega⟩
    have hi : i < l.length := by omega
    have hb4 := M.be_length 4 (M.crc l)
    have hgi : ((M.be 4 (M.crc l) ++ l)[4 + i]'(by simp [M.be_length]; omega)) = l[i] := by
      rw [List.getElem_append_right (by omega)]
      congr 1
      omega
    rw [hgi, List.set_append_right _ _ (by omega), show 4 + i - (M.be 4 (M.crc l)).length = i by omega]
    refine M.tf_turned _ _ _ hl hb4 (by simp) ?_
    rw [M.num_be 4 _ (by have := M.crc_lt l; simpa using this)]
    intro e
    have hz : M.zx (l.set i (l[i] ^^^ τ)) l = List.replicate i 0 ++ [τ] ++ List.replicate (l.length - (i + 1)) 0 := by
      have e1 : l.set i (l[i] ^^^ τ) = l.take i ++ [l[i] ^^^ τ] ++ l.drop (i + 1) := by rw [List.set_eq_take_append_cons_drop, if_pos hi]; simp
      have e2 : l.take i ++ [l[i]] ++ l.drop (i + 1) = l := by simp
      have e3 : M.zx (l.set i (l[i] ^^^ τ)) l = M.zx (l.take i ++ [l[i] ^^^ τ] ++ l.drop (i + 1)) (l.take i ++ [l[i]] ++ l.drop (i + 1)) := by rw [e1, e2]
      rw [e3, M.zx_mid (l.take i) [l[i] ^^^ τ] [l[i]] (l.drop (i + 1)) rfl, List.length_take, List.length_drop, Nat.min_eq_left (by omega)]
      have e4 : M.zx [l[i] ^^^ τ] [l[i]] = [τ] := by
        show [(l[i] ^^^ τ) ^^^ l[i]] = [τ]
        rw [UInt8.xor_comm l[i] τ, UInt8.xor_assoc, UInt8.xor_self, UInt8.xor_zero]
      rw [e4]
    have := (M.crc_burst _ l (by simp) i (l.length - (i + 1)) [τ] (by simp) hz).1 e τ (by simp)
    exact hτ this

theorem turn_put {B g n c : Nat} {w : World} {F : List UInt8} (h : Ow B w (.slice (some ⟨g, 0, none⟩) n c) F) (hn : n = F.length) (A : Nat) (hA : A < F.length) (τ : UInt8) :
    Ow B (w.setCell ⟨g, A, none⟩ (.int .u8 (bits BinOp.xor IntKind.u8 (F[A].toNat : Int) (τ.toNat : Int)))) (.slice (some ⟨g, 0, none⟩) n c) (F.set A (F[A] ^^^ τ)) :=
  h.put hn A (F[A] ^^^ τ) _ (by rw [u8_xor_nat _ _ F[A].toNat_lt τ.toNat_lt, UInt8.toNat_xor])
end Go.Proofs.Ytlajncjamafomaa
