/- Proved here: CodecTurned answers true for every text, every place and every turn: a frame of which one byte behind its length is turned is refused by its sum, and texts unlike in one to four neighbouring bytes have unlike sums; no condition. -/
import Derived.Test.YtbajnekhpnpbbabArgs
import Derived.Test.YtbajnekhpnpbbabBackMath
namespace Go.Proofs.Ytbajnekhpnpbbab
open Go.ChangeShapes Go.WideShapes Go.ChangeAt Go.RowKit
set_option linter.unusedVariables false
set_option maxRecDepth 100000

theorem and62 (x : Int) : ∃ m : Nat, m < 4611686018427387904 ∧ bits .and .i64 x 4611686018427387903 = (m : Int) := by
  have h1 : (BitVec.ofInt 64 (4611686018427387903 : Int)).toNat = 4611686018427387903 := by decide
  have h2 : ((BitVec.ofInt 64 x) &&& (BitVec.ofInt 64 (4611686018427387903 : Int))).toNat ≤ 4611686018427387903 := by
    rw [BitVec.toNat_and, h1]; exact Nat.and_le_right
  refine ⟨((BitVec.ofInt 64 x) &&& (BitVec.ofInt 64 (4611686018427387903 : Int))).toNat, by omega, ?_⟩
  have hb : bits .and .i64 x 4611686018427387903 = IntKind.i64.wrap ((((BitVec.ofInt 64 x) &&& (BitVec.ofInt 64 (4611686018427387903 : Int))).toNat : Nat) : Int) := rfl
  rw [hb]
  generalize ((BitVec.ofInt 64 x) &&& (BitVec.ofInt 64 (4611686018427387903 : Int))).toNat = m at *
  exact IntWalk.i64_in _ ⟨by omega, by omega⟩

theorem lcopy_any {v : Value} {l : List UInt8} {w : World} (hr : Rd w v l) (hl : l.length ≤ 140737488355328) :
    Calls Try.prog 28 #[v] w fun e w' => ∃ v', e = .returned v' ∧ Ow w.heap.size w' v' l ∧ Below w.heap.size w w' := by
  go_enter Try.func28, Try.ntmps28
  go_wp2_with (first | (at_builtin; refine wpList_app rfl _ _ rfl w.heap.size _ [] rfl (Ow.nil _ _) _ l rfl hr (Nat.le_refl _) (by simpa using hl) ?_; intro v' w' ho' hb' hg') | fail)
  go_ret
  exact ⟨_, rfl, ho', hb'⟩

theorem Ow.at {B : Nat} {w : World} {v : Value} {l : List UInt8} (h : Ow B w v l) (h0 : 0 < l.length) : ∃ g c, v = .slice (some ⟨g, 0, none⟩) l.length c ∧ B ≤ g ∧ l.length ≤ c ∧ c ≤ maxLen := by
  rcases h.2 with ⟨_, e⟩ | ⟨g, cap, cur, e, hg, hh, hn, hm, _⟩
  · omega
  · exact ⟨g, cap, e, hg, hn, hm⟩
theorem Ow.put {B g n c : Nat} {w : World} {l : List UInt8} (h : Ow B w (.slice (some ⟨g, 0, none⟩) n c) l) (hn : n = l.length) (i : Nat) (x : UInt8) (z : Int) (hz : z = (x.toNat : Int)) : Ow B (w.setCell ⟨g, i, none⟩ (.int .u8 z)) (.slice (some ⟨g, 0, none⟩) n c) (l.set i x) := by
  subst hn
  have := (World.ownsRow.stored h i (.int .u8 z)).1
  unfold Ow
  subst hz
  simpa [cel, List.map_set] using this

/-- The frame of l with one byte behind its length turned is refused by its sum. -/
theorem turned_refused (l : List UInt8) (j : Nat) (hj : j < 4 + l.length) (τ : UInt8) (hτ : τ ≠ 0) (hl : l.length < 18446744073709551616) (hat : (M.vi l.length).length + j < (M.frame l).length) :
    M.tf ((M.frame l).set ((M.vi l.length).length + j) ((M.frame l)[(M.vi l.length).length + j] ^^^ τ)) = ([], [], 11) := by
  have hxne : ∀ x : UInt8, x ^^^ τ ≠ x := fun x e => hτ (by
    have := congrArg (fun y => x ^^^ y) e
    simpa [← UInt8.xor_assoc] using this)
  have e0 : (M.frame l).set ((M.vi l.length).length + j) ((M.frame l)[(M.vi l.length).length + j] ^^^ τ) = M.vi l.length ++ ((M.be 4 (M.crc l) ++ l).set j (((M.be 4 (M.crc l) ++ l)[j]'(by simp [M.be_length]; omega)) ^^^ τ)) := by
    have hg : (M.frame l)[(M.vi l.length).length + j] = (M.be 4 (M.crc l) ++ l)[j]'(by simp [M.be_length]; omega) := by
      have : M.frame l = M.vi l.length ++ (M.be 4 (M.crc l) ++ l) := by simp [M.frame]
      simp only [this]
      rw [List.getElem_append_right (by omega)]
      congr 1
      omega
    rw [hg, show M.frame l = M.vi l.length ++ (M.be 4 (M.crc l) ++ l) by simp [M.frame], List.set_append_right _ _ (by omega), Nat.add_sub_cancel_left]
  rw [e0]
  by_cases h4 : j < 4
  · rw [List.set_append_left _ _ (by rw [M.be_length]; exact h4)]
    refine M.tf_turned _ _ _ hl (by simp [M.be_length]) rfl ?_
    intro e
    have hc : M.num (M.be 4 (M.crc l)) = M.crc l := M.num_be 4 _ (by have := M.crc_lt l; simpa using this)
    have := M.num_inj _ _ (by simp) (hc.trans e).symm
    have h2 := congrArg (fun y => y[j]?) this
    rw [List.getElem?_set_self (by rw [M.be_length]; exact h4), List.getElem?_eq_getElem (by rw [M.be_length]; exact h4), List.getElem_append_left (by rw [M.be_length]; exact h4)] at h2
    exact hxne _ (Option.some.inj h2)
  · obtain ⟨i, rfl⟩ : ∃ i, j = 4 + i := ⟨j - 4, by omega⟩
    have hi : i < l.length := by omega
    have hb4 := M.be_length 4 (M.crc l)
    have hgi : ((M.be 4 (M.crc l) ++ l)[4 + i]'(by simp [M.be_length]; omega)) = l[i] := by
      rw [List.getElem_append_right (by omega)]
      congr 1
      omega
    rw [hgi, List.set_append_right _ _ (by omega), show 4 + i - (M.be 4 (M.crc l)).length = i by omega]
    refine M.tf_turned _ _ _ hl hb4 (by simp) ?_
    rw [M.num_be 4 _ (by have := M.crc_lt l; simpa using this)]
    intro e
    have hz : M.zx (l.set i (l[i] ^^^ τ)) l = List.replicate i 0 ++ [τ] ++ List.replicate (l.length - (i + 1)) 0 := by
      have e1 : l.set i (l[i] ^^^ τ) = l.take i ++ [l[i] ^^^ τ] ++ l.drop (i + 1) := by rw [List.set_eq_take_append_cons_drop, if_pos hi]; simp
      have e2 : l.take i ++ [l[i]] ++ l.drop (i + 1) = l := by simp
      have e3 : M.zx (l.set i (l[i] ^^^ τ)) l = M.zx (l.take i ++ [l[i] ^^^ τ] ++ l.drop (i + 1)) (l.take i ++ [l[i]] ++ l.drop (i + 1)) := by rw [e1, e2]
      rw [e3, M.zx_mid (l.take i) [l[i] ^^^ τ] [l[i]] (l.drop (i + 1)) rfl, List.length_take, List.length_drop, Nat.min_eq_left (by omega)]
      have e4 : M.zx [l[i] ^^^ τ] [l[i]] = [τ] := by
        show [(l[i] ^^^ τ) ^^^ l[i]] = [τ]
        rw [UInt8.xor_comm l[i] τ, UInt8.xor_assoc, UInt8.xor_self, UInt8.xor_zero]
      rw [e4]
    have := (M.crc_burst _ l (by simp) i (l.length - (i + 1)) [τ] (by simp) hz).1 e τ (by simp)
    exact hτ this

theorem turned_at (l : List UInt8) (m : Nat) (hl : l.length ≤ 140737488351232) : ∃ A : Nat, ∃ h : A < (M.frame l).length,
    wrap64 (((M.vi l.length).length : Int) + (m : Int) % (((M.frame l).length : Int) - ((M.vi l.length).length : Int))) = (A : Int) ∧
    ∀ τ : UInt8, τ ≠ 0 → M.tf ((M.frame l).set A ((M.frame l)[A] ^^^ τ)) = ([], [], 11) := by
  have hvl := vi_len l.length
  have hfl : (M.frame l).length = (M.vi l.length).length + (4 + l.length) := by simp [M.frame, M.be_length]
  have hj : m % (4 + l.length) < 4 + l.length := Nat.mod_lt _ (by omega)
  have hat : (M.vi l.length).length + m % (4 + l.length) < (M.frame l).length := by omega
  refine ⟨(M.vi l.length).length + m % (4 + l.length), hat, ?_, fun τ hτ => turned_refused l _ hj τ hτ (by omega) hat⟩
  have e1 : (((M.frame l).length : Int) - ((M.vi l.length).length : Int)) = ((4 + l.length : Nat) : Int) := by omega
  have e2 : (m : Int) % ((4 + l.length : Nat) : Int) = ((m % (4 + l.length) : Nat) : Int) := (Int.natCast_emod m (4 + l.length)).symm
  rw [e1, e2]
  generalize m % (4 + l.length) = j at *
  unfold wrap64
  omega

theorem frame_len (l : List UInt8) (hl : l.length ≤ 140737488351232) : (M.vi l.length).length + 4 ≤ (M.frame l).length ∧ (M.frame l).length ≤ 140737488355000 ∧ 0 < (M.frame l).length := by
  have hvl := vi_len l.length
  have hfl : (M.frame l).length = (M.vi l.length).length + (4 + l.length) := by simp [M.frame, M.be_length]
  omega

/-- The byte that is laid on. -/
theorem turn_of {w : World} {yo : Option Addr} {n cy : Nat} {ly : List UInt8} (h : Rd w (.slice yo n cy) ly) : ∃ τ : UInt8, τ ≠ 0 ∧ ((ly.length < 1 ∧ τ = 1) ∨ (∃ (h : 0 < ly.length) (a : Addr), yo = some a ∧ w.cell? a = some (.int .u8 (ly[0].toNat : Int)) ∧ ((ly[0].toNat = 0 ∧ τ = 1) ∨ (ly[0].toNat ≠ 0 ∧ τ = ly[0])))) := by
  by_cases h0 : 0 < ly.length
  · obtain ⟨yo', cy', ev, _, _, _, q4⟩ := h
    simp only [Value.slice.injEq] at ev
    obtain ⟨rfl, rfl, rfl⟩ := ev
    obtain ⟨a, rfl, hc⟩ := q4 0 h0
    rw [add_zero] at hc
    by_cases hz : ly[0].toNat = 0
    · exact ⟨1, by decide, .inr ⟨h0, a, rfl, hc, .inl ⟨hz, rfl⟩⟩⟩
    · exact ⟨ly[0], fun e => hz (by rw [e]; rfl), .inr ⟨h0, a, rfl, hc, .inr ⟨hz, rfl⟩⟩⟩
  · exact ⟨1, by decide, .inl ⟨by omega, rfl⟩⟩

theorem turn_put {B g n c : Nat} {w : World} {F : List UInt8} (h : Ow B w (.slice (some ⟨g, 0, none⟩) n c) F) (hn : n = F.length) (A : Nat) (hA : A < F.length) (τ : UInt8) :
    Ow B (w.setCell ⟨g, A, none⟩ (.int .u8 (bits BinOp.xor IntKind.u8 (F[A].toNat : Int) (τ.toNat : Int)))) (.slice (some ⟨g, 0, none⟩) n c) (F.set A (F[A] ^^^ τ)) :=
  h.put hn A (F[A] ^^^ τ) _ (by rw [u8_xor_nat _ _ F[A].toNat_lt τ.toNat_lt, UInt8.toNat_xor])

/-- The text with k bytes from P on turned. -/
def turnK (l ly : List UInt8) (P k : Nat) : List UInt8 := l.take P ++ M.zx ((l.drop P).take k) (ly.take k) ++ l.drop (P + k)

theorem turnK_zero (l ly : List UInt8) (P : Nat) : turnK l ly P 0 = l := by simp [turnK, M.zx]
theorem turnK_len (l ly : List UInt8) (P k : Nat) (h1 : P + k ≤ l.length) (h2 : k ≤ ly.length) : (turnK l ly P k).length = l.length := by
  simp [turnK, M.zx]; omega
theorem turnK_get (l ly : List UInt8) (P k : Nat) (h1 : P + k < l.length) (h2 : k ≤ ly.length) : (turnK l ly P k)[P + k]? = some l[P + k] := by
  have hl : (l.take P ++ M.zx ((l.drop P).take k) (ly.take k)).length = P + k := by simp [M.zx]; omega
  unfold turnK
  rw [List.getElem?_append_right (by omega), hl, Nat.sub_self, List.drop_eq_getElem_cons h1]
  rfl
theorem turnK_cell {B g n c : Nat} {w : World} {l ly : List UInt8} {P k : Nat} (h : Ow B w (.slice (some ⟨g, 0, none⟩) n c) (turnK l ly P k)) (hn : n = l.length) (h1 : P + k < l.length) (h2 : k ≤ ly.length) :
    w.cell? ⟨g, P + k, none⟩ = some (.int .u8 (l[P + k].toNat : Int)) ∧ w.frozen? ⟨g, P + k, none⟩ = false := by
  subst hn
  have hl := turnK_len l ly P k (by omega) h2
  have h' : w.ownsRow B 5 1 (.slice (some ⟨g, 0, none⟩) l.length c) l.length (cel (turnK l ly P k)) := by
    have := h; unfold Ow at this; rw [hl] at this; exact this
  refine ⟨?_, h'.frozenAt (P + k)⟩
  rw [h'.cellAt (P + k) (by omega)]
  have := turnK_get l ly P k h1 h2
  simp [cel, this]
theorem turnK_succ (l ly : List UInt8) (P k : Nat) (h1 : P + k < l.length) (h2 : k < ly.length) : turnK l ly P (k + 1) = (turnK l ly P k).set (P + k) (l[P + k] ^^^ ly[k]) := by
  have hl : (l.take P ++ M.zx ((l.drop P).take k) (ly.take k)).length = P + k := by simp [M.zx]; omega
  have e1 : (l.drop P).take (k + 1) = (l.drop P).take k ++ [l[P + k]] := by
    rw [take_snoc (l.drop P) k (by simp; omega)]; simp
  have e2 : ly.take (k + 1) = ly.take k ++ [ly[k]] := take_snoc ly k h2
  have e3 : l.drop (P + k) = l[P + k] :: l.drop (P + (k + 1)) := by rw [List.drop_eq_getElem_cons h1]; rfl
  unfold turnK
  rw [List.set_append_right _ _ (by omega), hl, Nat.sub_self, e3, List.set_cons_zero, e1, e2, M.zx_app _ _ _ _ (by simp; omega)]
  have e4 : M.zx [l[P + k]] [ly[k]] = [l[P + k] ^^^ ly[k]] := rfl
  rw [e4]
  simp
theorem turnK_put {B g n c : Nat} {w : World} {l ly : List UInt8} {P k : Nat} (h : Ow B w (.slice (some ⟨g, 0, none⟩) n c) (turnK l ly P k)) (hn : n = l.length) (h1 : P + k < l.length) (h2 : k < ly.length) :
    Ow B (w.setCell ⟨g, P + k, none⟩ (.int .u8 (bits BinOp.xor IntKind.u8 (l[P + k].toNat : Int) (ly[k].toNat : Int)))) (.slice (some ⟨g, 0, none⟩) n c) (turnK l ly P (k + 1)) := by
  rw [turnK_succ l ly P k h1 h2]
  exact h.put (by rw [hn, turnK_len l ly P k (by omega) (by omega)]) (P + k) _ _ (by rw [u8_xor_nat _ _ l[P + k].toNat_lt ly[k].toNat_lt, UInt8.toNat_xor])

theorem turnK_crc (l ly : List UInt8) (P k : Nat) (h1 : P + k ≤ l.length) (h2 : k ≤ ly.length) (hk : k ≤ 4) : M.crc (turnK l ly P k) = M.crc l ↔ ∀ x ∈ ly.take k, x = 0 := by
  have e2 : l.take P ++ (l.drop P).take k ++ l.drop (P + k) = l := by
    rw [← List.drop_drop, List.append_assoc, List.take_append_drop, List.take_append_drop]
  have hz : M.zx (turnK l ly P k) l = List.replicate P 0 ++ ly.take k ++ List.replicate (l.length - (P + k)) 0 := by
    have e3 : M.zx (turnK l ly P k) l = M.zx (l.take P ++ M.zx ((l.drop P).take k) (ly.take k) ++ l.drop (P + k)) (l.take P ++ (l.drop P).take k ++ l.drop (P + k)) := by rw [e2]; rfl
    have hlen : ((l.drop P).take k).length = (ly.take k).length := by simp; omega
    rw [e3, M.zx_mid (l.take P) _ _ (l.drop (P + k)) (M.zx_len _ _ hlen), M.zx_zx _ _ hlen, List.length_take, List.length_drop, Nat.min_eq_left (by omega)]
  exact M.crc_burst _ l (turnK_len l ly P k h1 h2) P _ (ly.take k) (by simp; omega) hz

set_option maxHeartbeats 2000000 in
theorem turned_core {vb vy : Value} {l ly : List UInt8} {w : World} (hrb : Rd w vb l) (hl : l.length ≤ 140737488351232) (x : Int) (hry : Rd w vy ly) (hly : ly.length ≤ 140737488351232) (m : Nat) (hm : m < 4611686018427387904) (hbits : bits .and .i64 x 4611686018427387903 = (m : Int)) :
    Calls Try.prog 7 #[vb, .int .i64 x, vy] w fun e w' => e = .returned (.bool true) ∧ Below w.heap.size w w' := by
  have hrb0 := hrb
  obtain ⟨ao, cb, rfl, b1, b2, b3, b4⟩ := hrb
  have hry0 := hry
  obtain ⟨yo, cy, rfl, y1, y2, y3, y4⟩ := hry
  unfold maxLen at b2 y2
  clear b3 b4 y3 y4
  have hvl := vi_len l.length
  obtain ⟨hf4, hfN, hf0⟩ := frame_len l hl
  obtain ⟨A, hA, hval, href⟩ := turned_at l m hl
  have HV : Hid _ := And.intro hval href
  clear hval href
  go_enter Try.func7, Try.ntmps7
  go_wp2_with fail
  refine (awake_any _).mono ?_
  rintro e w1 ⟨rfl, hb1⟩
  go_wp2_with fail
  refine (frame_any (hrb0.below hb1 (Nat.le_refl _)) (by omega)).mono ?_
  rintro e w2 ⟨vf, rfl, hof, hb2⟩
  have hb12 := Below.tr hb1 hb2
  go_wp2_with fail
  refine (varint_any l.length _ (by omega)).mono ?_
  rintro e w3 ⟨vv, rfl, hov, hb3⟩
  have hb13 := Below.tr hb12 hb3
  have hof3 := hof.below hb3 (Nat.le_refl _)
  have hofr := hof3.rd
  obtain ⟨af, cf, rfl, f1, f2, _, _⟩ := hof3.rd
  obtain ⟨av, cv, rfl, v1, v2, _, _⟩ := hov.rd
  unfold maxLen at f2 v2
  clear hov hof hof3
  go_wp2_with fail
  rw [HV.out.1]
  refine (lcopy_any hofr (by omega)).mono ?_
  rintro e w4 ⟨vt, rfl, hot, hb4⟩
  have hb14 := Below.tr hb13 hb4
  obtain ⟨g, ct, rfl, t1, t2, t3⟩ := hot.at hf0
  unfold maxLen at t3
  have hcg := World.ownsRow.cellAt hot A (by omega)
  rw [cel_get (M.frame l) A hA] at hcg
  have hfg := World.ownsRow.frozenAt hot A
  have hxg := (M.frame l)[A].toNat_lt
  have hrb4 := hrb0.below hb14 (Nat.le_refl _)
  have hry4 := hry0.below hb14 (Nat.le_refl _)
  obtain ⟨τ, hτ, hcase⟩ := turn_of hry4
  have HQ : Hid _ := And.intro (turn_put hot rfl A hA τ) (HV.out.2 τ hτ)
  clear HV hofr f1 f2 v1 v2 hot
  have hlF : ((M.frame l).set A ((M.frame l)[A] ^^^ τ)).length ≤ 140737488355000 := by simpa using hfN
  have HL : Hid _ := hlF
  clear hlF
  rcases hcase with ⟨h1, rfl⟩ | ⟨h0, a, rfl, hca, hc⟩
  · go_wp2_with fail
    refine (tframe_any HQ.out.1.rd HL.out).mono ?_
    rintro e w5 ⟨v5, v6, rfl, ho5, ho6, _, hb5⟩
    rw [HQ.out.2] at ho5 ho6 ⊢
    obtain ⟨a5, c5, rfl, _, _, _, _⟩ := ho5.rd
    obtain ⟨a6, c6, rfl, _, _, _, _⟩ := ho6.rd
    clear ho5 ho6
    simp only [List.length_nil]
    have hsz := hb5.size
    simp only [World.size_setCell] at hsz
    have hw5 : Below w.heap.size w w5 := (hb14.setCell (p := ⟨g, A, none⟩) (Nat.le_trans hb13.size t1) _).trans (hb5.mono (by simp only [World.size_setCell]; exact hb14.size))
    by_cases hN : l.length < 1
    · go_wp2_with fail
      go_ret
      exact ⟨rfl, hw5⟩
    · have hNe : (((l.length : Nat) : Int) == 0) = false := beq_eq_false_iff_ne.2 (by omega)
      have hPl : m % l.length < l.length := Nat.mod_lt _ (by omega)
      have hmod : (m : Int) % ((l.length : Nat) : Int) = ((m % l.length : Nat) : Int) := (Int.natCast_emod m l.length).symm
      generalize m % l.length = P at *
      have HMOD : Hid _ := hmod
      clear hmod
      go_wp2_with fail
      refine (lcopy_any (hrb0.below hw5 (Nat.le_refl _)) (by omega)).mono ?_
      rintro e w6 ⟨vc, rfl, hoc, hb6⟩
      have hw6 := Below.tr hw5 hb6
      obtain ⟨gc, cc, rfl, s1, s2, s3⟩ := hoc.at (by omega)
      unfold maxLen at s3
      have hoc0 : Ow w5.heap.size w6 (.slice (some ⟨gc, 0, none⟩) l.length cc) (turnK l ly P 0) := by rw [turnK_zero]; exact hoc
      clear hoc HQ HL hcg hfg
      have hgw : w.heap.size ≤ gc := Nat.le_trans hw5.size s1
      go_wp2_with fail
      rw [HMOD.out]
      clear HMOD
      go_loopw [17, 18] (fun sm i wr => ∃ (k : Nat) (σ : Bool), k ≤ 4 ∧ k ≤ ly.length ∧ P + k ≤ l.length ∧ i = .int .i64 k ∧ sm = .bool σ ∧ (σ = true ↔ ∀ x ∈ ly.take k, x = 0) ∧ Ow w5.heap.size wr (.slice (some ⟨gc, 0, none⟩) l.length cc) (turnK l ly P k) ∧ Below w.heap.size w wr) (fun _ i _ => 4 - (intOf i).toNat)
      case atStart => exact ⟨0, true, by omega, by omega, by omega, rfl, rfl, by simp, hoc0, hw6⟩
      case round =>
        obtain ⟨k, σ, hk4, hky, hkl, rfl, rfl, hσ, hok, hbk⟩ := hrel
        have HS : Hid _ := hσ
        clear hσ hoc0
        by_cases hcond : k < 4 ∧ k < ly.length ∧ P + k < l.length
        · exfalso; omega
        · have hres : ((((M.crc (turnK l ly P k) : Nat) : Int) == ((M.crc l : Nat) : Int)) == σ) = true := by
            have h1 := turnK_crc l ly P k hkl hky hk4
            have h2 := HS.out
            rw [beq_iff_eq, Bool.eq_iff_iff, h2, ← h1, beq_iff_eq]
            omega
          have HR : Hid _ := hres
          clear hres
          have d1 : k < 4 := by omega
          have d2 : ly.length ≤ k := by omega
          clear hcond HS
          all_goals
            go_wp2_with fail
            refine (sum_any hok.rd).mono ?_
            rintro e w8 ⟨rfl, k8, rfl⟩
            go_wp2_with fail
            refine (sum_any ((hrb0.below hbk (Nat.le_refl _)).drewN k8)).mono ?_
            rintro e w9 ⟨rfl, k9, rfl⟩
            go_wp2_with fail
            go_ret
            exact ⟨congrArg (fun b => Ending.returned (.bool b)) HR.out, hbk.trans (below_drewN (Below.refl _ _) _)⟩
  · rcases hc with ⟨hz, rfl⟩ | ⟨hz, rfl⟩
    · have hne : (((ly[0].toNat : Nat) : Int) != 0) = false := by simp [hz]
      go_wp2_with fail
      refine (tframe_any HQ.out.1.rd HL.out).mono ?_
      rintro e w5 ⟨v5, v6, rfl, ho5, ho6, _, hb5⟩
      rw [HQ.out.2] at ho5 ho6 ⊢
      obtain ⟨a5, c5, rfl, _, _, _, _⟩ := ho5.rd
      obtain ⟨a6, c6, rfl, _, _, _, _⟩ := ho6.rd
      clear ho5 ho6
      simp only [List.length_nil]
      have hsz := hb5.size
      simp only [World.size_setCell] at hsz
      have hw5 : Below w.heap.size w w5 := (hb14.setCell (p := ⟨g, A, none⟩) (Nat.le_trans hb13.size t1) _).trans (hb5.mono (by simp only [World.size_setCell]; exact hb14.size))
      by_cases hN : l.length < 1
      · go_wp2_with fail
        go_ret
        exact ⟨rfl, hw5⟩
      · have hNe : (((l.length : Nat) : Int) == 0) = false := beq_eq_false_iff_ne.2 (by omega)
        have hPl : m % l.length < l.length := Nat.mod_lt _ (by omega)
        have hmod : (m : Int) % ((l.length : Nat) : Int) = ((m % l.length : Nat) : Int) := (Int.natCast_emod m l.length).symm
        generalize m % l.length = P at *
        have HMOD : Hid _ := hmod
        clear hmod
        go_wp2_with fail
        refine (lcopy_any (hrb0.below hw5 (Nat.le_refl _)) (by omega)).mono ?_
        rintro e w6 ⟨vc, rfl, hoc, hb6⟩
        have hw6 := Below.tr hw5 hb6
        obtain ⟨gc, cc, rfl, s1, s2, s3⟩ := hoc.at (by omega)
        unfold maxLen at s3
        have hoc0 : Ow w5.heap.size w6 (.slice (some ⟨gc, 0, none⟩) l.length cc) (turnK l ly P 0) := by rw [turnK_zero]; exact hoc
        clear hoc HQ HL hcg hfg
        have hgw : w.heap.size ≤ gc := Nat.le_trans hw5.size s1
        go_wp2_with fail
        rw [HMOD.out]
        clear HMOD
        go_loopw [17, 18] (fun sm i wr => ∃ (k : Nat) (σ : Bool), k ≤ 4 ∧ k ≤ ly.length ∧ P + k ≤ l.length ∧ i = .int .i64 k ∧ sm = .bool σ ∧ (σ = true ↔ ∀ x ∈ ly.take k, x = 0) ∧ Ow w5.heap.size wr (.slice (some ⟨gc, 0, none⟩) l.length cc) (turnK l ly P k) ∧ Below w.heap.size w wr) (fun _ i _ => 4 - (intOf i).toNat)
        case atStart => exact ⟨0, true, by omega, by omega, by omega, rfl, rfl, by simp, hoc0, hw6⟩
        case round =>
          obtain ⟨k, σ, hk4, hky, hkl, rfl, rfl, hσ, hok, hbk⟩ := hrel
          have HS : Hid _ := hσ
          clear hσ hoc0
          by_cases hcond : k < 4 ∧ k < ly.length ∧ P + k < l.length
          · obtain ⟨c1, c2, c3⟩ := hcond
            obtain ⟨q1, q2⟩ := turnK_cell hok rfl c3 (by omega)
            obtain ⟨ya, yc, ev, _, _, _, z4⟩ := hry0.below hbk (Nat.le_refl _)
            simp only [Value.slice.injEq, true_and] at ev
            obtain ⟨rfl, rfl⟩ := ev
            obtain ⟨ya, eya, q3⟩ := z4 k c2
            have eya2 : ya = a := (Option.some.inj eya).symm
            subst eya2
            clear z4
            have hya : (ya.add k).block < w.heap.size := by
              obtain ⟨yo', yc', ev', _, _, _, z4'⟩ := hry0
              simp only [Value.slice.injEq, true_and] at ev'
              obtain ⟨rfl, rfl⟩ := ev'
              obtain ⟨a', ea', hca'⟩ := z4' k c2
              obtain rfl := Option.some.inj ea'
              exact World.block_lt_of_cell? w _ hca'
            have q4 : ∀ u, (wr.setCell ⟨gc, P + k, none⟩ u).cell? (ya.add k) = some (.int .u8 (ly[k].toNat : Int)) := fun u => by
              rw [World.cell?_setCell_other _ _ _ _ (by intro e; have := congrArg Addr.block e; simp only [] at this; omega)]
              exact q3
            have hx1 := (l[P + k]'c3).toNat_lt
            have hx2 := ly[k].toNat_lt
            have hput := turnK_put hok rfl c3 c2
            have hbp := hbk.setCell (p := ⟨gc, P + k, none⟩) hgw (.int .u8 (bits BinOp.xor IntKind.u8 ((l[P + k]'c3).toNat : Int) (ly[k].toNat : Int)))
            have HP : Hid _ := And.intro hput hbp
            clear hput hbp hok hbk
            have hσ2 : (∀ x ∈ ly.take (k + 1), x = 0) ↔ (∀ x ∈ ly.take k, x = 0) ∧ ly[k] = 0 := by
              rw [take_snoc ly k c2]
              constructor
              · intro h; exact ⟨fun x hx => h x (List.mem_append_left _ hx), h _ (List.mem_append_right _ (List.mem_singleton.2 rfl))⟩
              · rintro ⟨h1, h2⟩ x hx
                rcases List.mem_append.1 hx with h | h
                · exact h1 x h
                · rw [List.mem_singleton.1 h]; exact h2
            have HS2 : Hid _ := hσ2
            clear hσ2
            cases σ with
            | false =>
              go_wp2
              go_region
              all_goals go_wp2
              all_goals exact ⟨⟨k + 1, false, by omega, by omega, by omega, by go_num, rfl, by rw [HS2.out, ← HS.out]; simp, HP.out.1, Below.drew HP.out.2⟩, by simp [intOf]; omega⟩
            | true =>
              by_cases hz0 : ly[k].toNat = 0
              · have hne0 : (((ly[k].toNat : Nat) : Int) == 0) = true := by simp [hz0]
                have hk0 : ly[k] = 0 := UInt8.toNat_inj.1 (by simpa using hz0)
                have HK0 : Hid _ := hk0
                clear hk0 hz0
                go_wp2
                go_region
                all_goals go_wp2
                all_goals exact ⟨⟨k + 1, true, by omega, by omega, by omega, by go_num, rfl, by rw [HS2.out, ← HS.out]; simp [HK0.out], HP.out.1, Below.drew HP.out.2⟩, by simp [intOf]; omega⟩
              · have hne0 : (((ly[k].toNat : Nat) : Int) == 0) = false := beq_eq_false_iff_ne.2 (by omega)
                have HK0 : Hid (¬ ly[k] = 0) := fun e => hz0 (by rw [e]; rfl)
                clear hz0
                go_wp2
                go_region
                all_goals go_wp2
                all_goals exact ⟨⟨k + 1, false, by omega, by omega, by omega, by go_num, rfl, by rw [HS2.out, ← HS.out]; simp [HK0.out], HP.out.1, Below.drew HP.out.2⟩, by simp [intOf]; omega⟩
          · have hres : ((((M.crc (turnK l ly P k) : Nat) : Int) == ((M.crc l : Nat) : Int)) == σ) = true := by
              have h1 := turnK_crc l ly P k hkl hky hk4
              have h2 := HS.out
              rw [beq_iff_eq, Bool.eq_iff_iff, h2, ← h1, beq_iff_eq]
              omega
            have HR : Hid _ := hres
            clear hres
            have h3 : 4 ≤ k ∨ (k < 4 ∧ ly.length ≤ k) ∨ (k < 4 ∧ k < ly.length ∧ l.length ≤ P + k) := by omega
            clear hcond HS
            rcases h3 with d1 | ⟨d1, d2⟩ | ⟨d1, d2, d3⟩
            all_goals
              go_wp2_with fail
              refine (sum_any hok.rd).mono ?_
              rintro e w8 ⟨rfl, k8, rfl⟩
              go_wp2_with fail
              refine (sum_any ((hrb0.below hbk (Nat.le_refl _)).drewN k8)).mono ?_
              rintro e w9 ⟨rfl, k9, rfl⟩
              go_wp2_with fail
              go_ret
              exact ⟨congrArg (fun b => Ending.returned (.bool b)) HR.out, hbk.trans (below_drewN (Below.refl _ _) _)⟩
    · have hne : (((ly[0].toNat : Nat) : Int) != 0) = true := by simp; omega
      go_wp2_with fail
      refine (tframe_any HQ.out.1.rd HL.out).mono ?_
      rintro e w5 ⟨v5, v6, rfl, ho5, ho6, _, hb5⟩
      rw [HQ.out.2] at ho5 ho6 ⊢
      obtain ⟨a5, c5, rfl, _, _, _, _⟩ := ho5.rd
      obtain ⟨a6, c6, rfl, _, _, _, _⟩ := ho6.rd
      clear ho5 ho6
      simp only [List.length_nil]
      have hsz := hb5.size
      simp only [World.size_setCell] at hsz
      have hw5 : Below w.heap.size w w5 := (hb14.setCell (p := ⟨g, A, none⟩) (Nat.le_trans hb13.size t1) _).trans (hb5.mono (by simp only [World.size_setCell]; exact hb14.size))
      by_cases hN : l.length < 1
      · go_wp2_with fail
        go_ret
        exact ⟨rfl, hw5⟩
      · have hNe : (((l.length : Nat) : Int) == 0) = false := beq_eq_false_iff_ne.2 (by omega)
        have hPl : m % l.length < l.length := Nat.mod_lt _ (by omega)
        have hmod : (m : Int) % ((l.length : Nat) : Int) = ((m % l.length : Nat) : Int) := (Int.natCast_emod m l.length).symm
        generalize m % l.length = P at *
        have HMOD : Hid _ := hmod
        clear hmod
        go_wp2_with fail
        refine (lcopy_any (hrb0.below hw5 (Nat.le_refl _)) (by omega)).mono ?_
        rintro e w6 ⟨vc, rfl, hoc, hb6⟩
        have hw6 := Below.tr hw5 hb6
        obtain ⟨gc, cc, rfl, s1, s2, s3⟩ := hoc.at (by omega)
        unfold maxLen at s3
        have hoc0 : Ow w5.heap.size w6 (.slice (some ⟨gc, 0, none⟩) l.length cc) (turnK l ly P 0) := by rw [turnK_zero]; exact hoc
        clear hoc HQ HL hcg hfg
        have hgw : w.heap.size ≤ gc := Nat.le_trans hw5.size s1
        go_wp2_with fail
        rw [HMOD.out]
        clear HMOD
        go_loopw [17, 18] (fun sm i wr => ∃ (k : Nat) (σ : Bool), k ≤ 4 ∧ k ≤ ly.length ∧ P + k ≤ l.length ∧ i = .int .i64 k ∧ sm = .bool σ ∧ (σ = true ↔ ∀ x ∈ ly.take k, x = 0) ∧ Ow w5.heap.size wr (.slice (some ⟨gc, 0, none⟩) l.length cc) (turnK l ly P k) ∧ Below w.heap.size w wr) (fun _ i _ => 4 - (intOf i).toNat)
        case atStart => exact ⟨0, true, by omega, by omega, by omega, rfl, rfl, by simp, hoc0, hw6⟩
        case round =>
          obtain ⟨k, σ, hk4, hky, hkl, rfl, rfl, hσ, hok, hbk⟩ := hrel
          have HS : Hid _ := hσ
          clear hσ hoc0
          by_cases hcond : k < 4 ∧ k < ly.length ∧ P + k < l.length
          · obtain ⟨c1, c2, c3⟩ := hcond
            obtain ⟨q1, q2⟩ := turnK_cell hok rfl c3 (by omega)
            obtain ⟨ya, yc, ev, _, _, _, z4⟩ := hry0.below hbk (Nat.le_refl _)
            simp only [Value.slice.injEq, true_and] at ev
            obtain ⟨rfl, rfl⟩ := ev
            obtain ⟨ya, eya, q3⟩ := z4 k c2
            have eya2 : ya = a := (Option.some.inj eya).symm
            subst eya2
            clear z4
            have hya : (ya.add k).block < w.heap.size := by
              obtain ⟨yo', yc', ev', _, _, _, z4'⟩ := hry0
              simp only [Value.slice.injEq, true_and] at ev'
              obtain ⟨rfl, rfl⟩ := ev'
              obtain ⟨a', ea', hca'⟩ := z4' k c2
              obtain rfl := Option.some.inj ea'
              exact World.block_lt_of_cell? w _ hca'
            have q4 : ∀ u, (wr.setCell ⟨gc, P + k, none⟩ u).cell? (ya.add k) = some (.int .u8 (ly[k].toNat : Int)) := fun u => by
              rw [World.cell?_setCell_other _ _ _ _ (by intro e; have := congrArg Addr.block e; simp only [] at this; omega)]
              exact q3
            have hx1 := (l[P + k]'c3).toNat_lt
            have hx2 := ly[k].toNat_lt
            have hput := turnK_put hok rfl c3 c2
            have hbp := hbk.setCell (p := ⟨gc, P + k, none⟩) hgw (.int .u8 (bits BinOp.xor IntKind.u8 ((l[P + k]'c3).toNat : Int) (ly[k].toNat : Int)))
            have HP : Hid _ := And.intro hput hbp
            clear hput hbp hok hbk
            have hσ2 : (∀ x ∈ ly.take (k + 1), x = 0) ↔ (∀ x ∈ ly.take k, x = 0) ∧ ly[k] = 0 := by
              rw [take_snoc ly k c2]
              constructor
              · intro h; exact ⟨fun x hx => h x (List.mem_append_left _ hx), h _ (List.mem_append_right _ (List.mem_singleton.2 rfl))⟩
              · rintro ⟨h1, h2⟩ x hx
                rcases List.mem_append.1 hx with h | h
                · exact h1 x h
                · rw [List.mem_singleton.1 h]; exact h2
            have HS2 : Hid _ := hσ2
            clear hσ2
            cases σ with
            | false =>
              go_wp2
              go_region
              all_goals go_wp2
              all_goals exact ⟨⟨k + 1, false, by omega, by omega, by omega, by go_num, rfl, by rw [HS2.out, ← HS.out]; simp, HP.out.1, Below.drew HP.out.2⟩, by simp [intOf]; omega⟩
            | true =>
              by_cases hz0 : ly[k].toNat = 0
              · have hne0 : (((ly[k].toNat : Nat) : Int) == 0) = true := by simp [hz0]
                have hk0 : ly[k] = 0 := UInt8.toNat_inj.1 (by simpa using hz0)
                have HK0 : Hid _ := hk0
                clear hk0 hz0
                go_wp2
                go_region
                all_goals go_wp2
                all_goals exact ⟨⟨k + 1, true, by omega, by omega, by omega, by go_num, rfl, by rw [HS2.out, ← HS.out]; simp [HK0.out], HP.out.1, Below.drew HP.out.2⟩, by simp [intOf]; omega⟩
              · have hne0 : (((ly[k].toNat : Nat) : Int) == 0) = false := beq_eq_false_iff_ne.2 (by omega)
                have HK0 : Hid (¬ ly[k] = 0) := fun e => hz0 (by rw [e]; rfl)
                clear hz0
                go_wp2
                go_region
                all_goals go_wp2
                all_goals exact ⟨⟨k + 1, false, by omega, by omega, by omega, by go_num, rfl, by rw [HS2.out, ← HS.out]; simp [HK0.out], HP.out.1, Below.drew HP.out.2⟩, by simp [intOf]; omega⟩
          · have hres : ((((M.crc (turnK l ly P k) : Nat) : Int) == ((M.crc l : Nat) : Int)) == σ) = true := by
              have h1 := turnK_crc l ly P k hkl hky hk4
              have h2 := HS.out
              rw [beq_iff_eq, Bool.eq_iff_iff, h2, ← h1, beq_iff_eq]
              omega
            have HR : Hid _ := hres
            clear hres
            have h3 : 4 ≤ k ∨ (k < 4 ∧ ly.length ≤ k) ∨ (k < 4 ∧ k < ly.length ∧ l.length ≤ P + k) := by omega
            clear hcond HS
            rcases h3 with d1 | ⟨d1, d2⟩ | ⟨d1, d2, d3⟩
            all_goals
              go_wp2_with fail
              refine (sum_any hok.rd).mono ?_
              rintro e w8 ⟨rfl, k8, rfl⟩
              go_wp2_with fail
              refine (sum_any ((hrb0.below hbk (Nat.le_refl _)).drewN k8)).mono ?_
              rintro e w9 ⟨rfl, k9, rfl⟩
              go_wp2_with fail
              go_ret
              exact ⟨congrArg (fun b => Ending.returned (.bool b)) HR.out, hbk.trans (below_drewN (Below.refl _ _) _)⟩

theorem turned_walk {vb vy : Value} {l ly : List UInt8} {w : World} (hrb : Rd w vb l) (hl : l.length ≤ 140737488351232) (x : Int) (hx : -9223372036854775808 ≤ x ∧ x ≤ 9223372036854775807) (hry : Rd w vy ly) (hly : ly.length ≤ 140737488351232) :
    Calls Try.prog 7 #[vb, .int .i64 x, vy] w fun e w' => e = .returned (.bool true) ∧ Below w.heap.size w w' := by
  obtain ⟨m, hm, hb⟩ := and62 x
  exact turned_core hrb hl x hry hly m hm hb

namespace codecTurned
theorem own : ownKnob Try.prog.godebug = none := by kernel_rfl
theorem laidOut : laidOutB Try.prog = true := by kernel_rfl

theorem lifted (os : Os) (started : os.Started) (H : Type) (enc : TypeId × Value → H) :
    ReturnsInHanded {} Try.checked os 7 .any (Rows.codecTurnedSpec.pre6 enc Try.prog Try.f7 Rows.codecTurnedRow.domain false) (Rows.codecTurnedSpec.post enc Try.prog Try.f7 false true false false) := by
  refine returnsInHanded_of_change_sized (C := Try.checked) own started (by kernel_rfl) Try.func7
    (ChangeSpec.witness6 (enc := enc) (C := Try.checked) false ⟨#[], #[.slice none 0 0, .int .i64 0, .slice none 0 0], []⟩ 8 (by kernel_rfl) (by kernel_rfl) (by kernel_rfl) (by kernel_rfl)) ?_
  intro W base args ds gs before hval0 hW _ hsz0 _
  have hsz : (DataW.weightsEach Try.prog (Try.f7.params.toList ++ Rows.codecTurnedSpec.plain.varTypes Try.prog) (ds ++ gs)).all (· ≤ reachBytes) = true := hsz0
  have hval : ∀ (j : Nat) t v, Try.f7.params[j]? = some t → args[j]? = some v → Value.okWide Try.prog W .any base t v := hval0
  have hW' := hW
  obtain ⟨p, q, hA0, hV, rfl, hfz, hnd⟩ := hW
  have hA : DataW.TrodAll enc Try.prog W 0 (fun _ => true) true Try.f7.params.toList args.toList ds p := hA0
  rw [Try.params7] at hA hval hsz
  obtain ⟨v0, vs0, d0, ds0, p0, q0, hargs, rfl, rfl, h0, r0⟩ := trodAll_cons hA
  obtain ⟨v1, vs1, d1, ds1, p1, q1, rfl, rfl, rfl, h1, r1⟩ := trodAll_cons r0
  obtain ⟨v2, vs2, d2, ds2, p2, q2, rfl, rfl, rfl, h2, r2⟩ := trodAll_cons r1
  obtain ⟨rfl, rfl, rfl⟩ := trodAll_nil r2
  obtain rfl : args = #[v0, v1, v2] := by cases args; simp_all
  obtain ⟨rfl, rfl⟩ := trodVars_none hV
  obtain ⟨a0, len0, cap0, rfl⟩ := okWide_slice Try.underlying25 (hval 0 25 v0 rfl rfl)
  have k0 := h0
  have lt0 : ∀ x ∈ p0, x.block < W.heap.size := by obtain ⟨m, hm⟩ := k0; exact DataW.trod_lt m _ _ _ hm
  obtain ⟨l0, hr0, hlen0, zs0, hz0⟩ := open_bytes h0
  have hl0 : l0.length ≤ 140737488351232 := by
    rcases hz0 with ⟨_, h⟩ | ⟨hd, hzl, hle⟩
    · omega
    · subst hd
      have := sized_slice hsz (j := 0) (t := 25) (e := 5) rfl rfl Try.underlying25
      rw [Try.bytes5] at this
      simp only [lits, List.length_map, List.length_take, List.length_drop, reachBytes] at this
      omega
  obtain ⟨x1, rfl, rfl, rfl, w1⟩ := open_int Try.underlying3 (hval 1 3 v1 rfl rfl) h1
  have hx1 : -9223372036854775808 ≤ x1 ∧ x1 ≤ 9223372036854775807 := by simpa [Lit.wf, IntKind.min, IntKind.max, IntKind.signed, IntKind.bits] using w1
  obtain ⟨a2, len2, cap2, rfl⟩ := okWide_slice Try.underlying25 (hval 2 25 v2 rfl rfl)
  have k2 := h2
  have lt2 : ∀ x ∈ p2, x.block < W.heap.size := by obtain ⟨m, hm⟩ := k2; exact DataW.trod_lt m _ _ _ hm
  obtain ⟨l2, hr2, hlen2, zs2, hz2⟩ := open_bytes h2
  have hl2 : l2.length ≤ 140737488351232 := by
    rcases hz2 with ⟨_, h⟩ | ⟨hd, hzl, hle⟩
    · omega
    · subst hd
      have := sized_slice hsz (j := 2) (t := 25) (e := 5) rfl rfl Try.underlying25
      rw [Try.bytes5] at this
      simp only [lits, List.length_map, List.length_take, List.length_drop, reachBytes] at this
      omega
  clear hA0 hval0
  refine (turned_walk hr0 hl0 x1 hx1 hr2 hl2).mono fun e W' ⟨he, bel⟩ => ?_
  subst he
  exact ⟨_, rfl, _, _, _, [], _, [], hW', trodAll_mk1 (shut_bool Try.underlying4 _), (trodAll_cons_mk (Below.trod laidOut (by kernel_rfl) (of_decide_eq_true (by kernel_rfl)) k0 bel lt0) (trodAll_cons_mk (shut_int Try.underlying3 w1) (trodAll_cons_mk (Below.trod laidOut (by kernel_rfl) (of_decide_eq_true (by kernel_rfl)) k2 bel lt2) trodAll_mk0))), rfl, bel.frame _, fun h => by cases h⟩
end codecTurned

/-- The statement. -/
theorem codecTurned_holds : Rows.CodecTurnedSaid :=
  OpenClaim.holds_of_wide 7 Try.f7 rfl rfl rfl rfl rfl rfl rfl ⟨rfl, rfl, rfl, rfl, rfl⟩ rfl rfl rfl rfl rfl (by kernel_rfl) Try.func7 (by kernel_rfl)
    (of_decide_eq_true (by kernel_rfl)) (by unfold Func.isWrapper; first | (rw [if_pos (by decide +kernel)]; kernel_rfl) | (rw [if_neg (by decide +kernel)]; exact ⟨rfl, rfl⟩))
    (fun os started H enc _ => codecTurned.lifted os started H enc)
#print axioms codecTurned_holds
end Go.Proofs.Ytbajnekhpnpbbab
