/- The walk of TableBuilds. -/
import Derived.Test.YtdfhhliapcdebaaG4
import Derived.Test.YtdfhhliapcdebaaG3
import Derived.Test.YtdfhhliapcdebaaG1
import Derived.Test.YtdfhhliapcdebaaG2
import Derived.Deep.RegionHeld3
namespace Go.Proofs.Ytdfhhliapcdebaa
open Go.RowKit
set_option linter.unusedVariables false
set_option maxRecDepth 100000

theorem tnum_any (k : Int) (w : World) : Calls Try.prog 14 #[.int .i64 k] w fun e w' => e = .returned (.int .i64 k) ∧ w' = w := by
  go_enter Try.func14, Try.ntmps14
  go_wp2
  go_ret
  exact ⟨rfl, rfl⟩

set_option maxHeartbeats 1000000 in
theorem builds_walk {v : Value} {ps : List P3} {w : World} (hr : RdQ w v ps) (hl : totP ps ≤ 1048576) :
    Calls Try.prog 3 #[v] w fun e w' => e = .returned (.bool true) ∧ Below w.heap.size w w' := by
  have hrb := fun W (hW : Below w.heap.size w W) => hr.below hW (Nat.le_refl _)
  obtain ⟨av, cv, rfl, _⟩ := hr
  go_enter Try.func3, Try.ntmps3
  go_wp2_with fail
  refine (tawake_any _).mono ?_
  rintro e w1 ⟨rfl, hb1⟩
  go_wp2_with fail
  refine (copypairs_any (hrb w1 hb1) hl).mono ?_
  rintro e w2 ⟨v2, us2, rfl, ho2, hb2⟩
  have hB2 : Below w.heap.size w w2 := hb1.trans (hb2.mono hb1.size)
  have hq2 := ho2.rdq
  obtain ⟨a2, c2, rfl, _⟩ := ho2.rdq
  clear ho2
  go_wp2_with fail
  refine (build_any hq2 (by omega)).mono ?_
  rintro e w3 ⟨v3, rfl, ho3, hb3⟩
  have hB3 : Below w.heap.size w w3 := hB2.trans (hb3.mono hB2.size)
  obtain ⟨a3, c3, rfl⟩ := ho3.shape
  go_wp2_with fail
  refine (rbuild_any (hrb w3 hB3) (by omega)).mono ?_
  rintro e w4 ⟨v4, rfl, ho4, hb4⟩
  have hB4 : Below w.heap.size w w4 := hB3.trans (hb4.mono hB3.size)
  obtain ⟨a4, c4, rfl⟩ := ho4.shape
  have hsm := same_any (ho3.below hb4 (Nat.le_refl _)).rd ho4.rd
  rw [decide_eq_true rfl] at hsm
  have hsp := fun m => samep_any ((hq2.below (Below.tr hb3 hb4) (Nat.le_refl _)).drewN m) ((hrb w4 hB4).drewN m)
  generalize M.bld ps = bb at *
  obtain ⟨bl, be⟩ := bb
  simp only [] at *
  clear ho3 ho4 hq2 hrb
  go_wp2_with fail
  refine hsm.mono ?_
  rintro e w5 ⟨rfl, n5, rfl⟩
  go_wp2_with fail
  refine (tnum_any _ _).mono ?_
  rintro e w6 ⟨rfl, rfl⟩
  go_wp2_with fail
  refine (hsp n5).mono ?_
  rintro e w7 ⟨rfl, n7, rfl⟩
  go_wp2_with fail
  go_ret
  exact ⟨by simp, hB4.trans ((Below.dN w4 _).mono hB4.size)⟩
end Go.Proofs.Ytdfhhliapcdebaa

/- Frames of which a byte is turned; numbers of which 62 bits are taken. -/
namespace Go.Proofs.Ytdfhhliapcdebaa
open Go.RowKit
set_option linter.unusedVariables false
set_option maxRecDepth 100000

theorem and62 (x : Int) : ∃ m : Nat, m < 4611686018427387904 ∧ bits .and .i64 x 4611686018427387903 = (m : Int) := by
  have h1 : (BitVec.ofInt 64 (4611686018427387903 : Int)).toNat = 4611686018427387903 := by decide
  have h2 : ((BitVec.ofInt 64 x) &&& (BitVec.ofInt 64 (4611686018427387903 : Int))).toNat ≤ 4611686018427387903 := by
    rw [BitVec.toNat_and, h1]; exact Nat.and_le_right
  refine ⟨((BitVec.ofInt 64 x) &&& (BitVec.ofInt 64 (4611686018427387903 : Int))).toNat, by omega, ?_⟩
  have hb : bits .and .i64 x 4611686018427387903 = IntKind.i64.wrap ((((BitVec.ofInt 64 x) &&& (BitVec.ofInt 64 (4611686018427387903 : Int))).toNat : Nat) : Int) := rfl
  rw [hb]
  generalize ((BitVec.ofInt 64 x) &&& (BitVec.ofInt 64 (4611686018427387903 : Int))).toNat = m at *
  exact IntWalk.i64_in _ ⟨by omega, by omega⟩

theorem Ow.at {B : Nat} {w : World} {v : Value} {l : List UInt8} (h : Ow B w v l) (h0 : 0 < l.length) : ∃ g c, v = .slice (some ⟨g, 0, none⟩) l.length c ∧ B ≤ g ∧ l.length ≤ c ∧ c ≤ maxLen := by
  rcases h.2 with ⟨_, e⟩ | ⟨g, cap, cur, e, hg, hh, hn, hm, _⟩
  · omega
  · exact ⟨g, cap, e, hg, hn, hm⟩
theorem Ow.put {B g n c : Nat} {w : World} {l : List UInt8} (h : Ow B w (.slice (some ⟨g, 0, none⟩) n c) l) (hn : n = l.length) (i : Nat) (x : UInt8) (z : Int) (hz : z = (x.toNat : Int)) : Ow B (w.setCell ⟨g, i, none⟩ (.int .u8 z)) (.slice (some ⟨g, 0, none⟩) n c) (l.set i x) := by
  subst hn
  have := (World.ownsRow.stored h i (.int .u8 z)).1
  unfold Ow
  subst hz
  simpa [cel, List.map_set] using this

/-- The frame of l with one byte behind its length turned is refused by its sum. -/
theorem turned_refused (l : List UInt8) (j : Nat) (hj : j < 4 + l.length) (τ : UInt8) (hτ : τ ≠ 0) (hl : l.length < 18446744073709551616) (hat : (M.vi l.length).length + j < (M.frame l).length) :
    M.tf ((M.frame l).set ((M.vi l.length).length + j) ((M.frame l)[(M.vi l.length).length + j] ^^^ τ)) = ([], [], 11) := by
  have hxne : ∀ x : UInt8, x ^^^ τ ≠ x := fun x e => hτ (by
    have := congrArg (fun y => x ^^^ y) e
    simpa [← UInt8.xor_assoc] using this)
  have e0 : (M.frame l).set ((M.vi l.length).length + j) ((M.frame l)[(M.vi l.length).length + j] ^^^ τ) = M.vi l.length ++ ((M.be 4 (M.crc l) ++ l).set j (((M.be 4 (M.crc l) ++ l)[j]'(by simp [M.be_length]; omega)) ^^^ τ)) := by
    have hg : (M.frame l)[(M.vi l.length).length + j] = (M.be 4 (M.crc l) ++ l)[j]'(by simp [M.be_length]; omega) := by
      have : M.frame l = M.vi l.length ++ (M.be 4 (M.crc l) ++ l) := by simp [M.frame]
      simp only [this]
      rw [List.getElem_append_right (by omega)]
      congr 1
      omega
    rw [hg, show M.frame l = M.vi l.length ++ (M.be 4 (M.crc l) ++ l) by simp [M.frame], List.set_append_right _ _ (by omega), Nat.add_sub_cancel_left]
  rw [e0]
  by_cases h4 : j < 4
  · rw [List.set_append_left _ _ (by rw [M.be_length]; exact h4)]
    refine M.tf_turned _ _ _ hl (by simp [M.be_length]) rfl ?_
    intro e
    have hc : M.num (M.be 4 (M.crc l)) = M.crc l := M.num_be 4 _ (by have := M.crc_lt l; simpa using this)
    have := M.num_inj _ _ (by simp) (hc.trans e).symm
    have h2 := congrArg (fun y => y[j]?) this
    rw [List.getElem?_set_self (by rw [M.be_length]; exact h4), List.getElem?_eq_getElem (by rw [M.be_length]; exact h4), List.getElem_append_left (by rw [M.be_length]; exact h4)] at h2
    exact hxne _ (Option.some.inj h2)
  · obtain ⟨i, rfl⟩ : ∃ i, j = 4 + i := ⟨j - 4, by omega⟩
    have hi : i < l.length := by omega
    have hb4 := M.be_length 4 (M.crc l)
    have hgi : ((M.be 4 (M.crc l) ++ l)[4 + i]'(by simp [M.be_length]; omega)) = l[i] := by
      rw [List.getElem_append_right (by omega)]
      congr 1
      omega
    rw [hgi, List.set_append_right _ _ (by omega), show 4 + i - (M.be 4 (M.crc l)).length = i by omega]
    refine M.tf_turned _ _ _ hl hb4 (by simp) ?_
    rw [M.num_be 4 _ (by have := M.crc_lt l; simpa using this)]
    intro e
    have hz : M.zx (l.set i (l[i] ^^^ τ)) l = List.replicate i 0 ++ [τ] ++ List.replicate (l.length - (i + 1)) 0 := by
      have e1 : l.set i (l[i] ^^^ τ) = l.take i ++ [l[i] ^^^ τ] ++ l.drop (i + 1) := by rw [List.set_eq_take_append_cons_drop, if_pos hi]; simp
      have e2 : l.take i ++ [l[i]] ++ l.drop (i + 1) = l := by simp
      have e3 : M.zx (l.set i (l[i] ^^^ τ)) l = M.zx (l.take i ++ [l[i] ^^^ τ] ++ l.drop (i + 1)) (l.take i ++ [l[i]] ++ l.drop (i + 1)) := by rw [e1, e2]
      rw [e3, M.zx_mid (l.take i) [l[i] ^^^ τ] [l[i]] (l.drop (i + 1)) rfl, List.length_take, List.length_drop, Nat.min_eq_left (by omega)]
      have e4 : M.zx [l[i] ^^^ τ] [l[i]] = [τ] := by
        show [(l[i] ^^^ τ) ^^^ l[i]] = [τ]
        rw [UInt8.xor_comm l[i] τ, UInt8.xor_assoc, UInt8.xor_self, UInt8.xor_zero]
      rw [e4]
    have := (M.crc_burst _ l (by simp) i (l.length - (i + 1)) [τ] (by simp) hz).1 e τ (by simp)
    exact hτ this

theorem turn_put {B g n c : Nat} {w : World} {F : List UInt8} (h : Ow B w (.slice (some ⟨g, 0, none⟩) n c) F) (hn : n = F.length) (A : Nat) (hA : A < F.length) (τ : UInt8) :
    Ow B (w.setCell ⟨g, A, none⟩ (.int .u8 (bits BinOp.xor IntKind.u8 (F[A].toNat : Int) (τ.toNat : Int)))) (.slice (some ⟨g, 0, none⟩) n c) (F.set A (F[A] ^^^ τ)) :=
  h.put hn A (F[A] ^^^ τ) _ (by rw [u8_xor_nat _ _ F[A].toNat_lt τ.toNat_lt, UInt8.toNat_xor])
end Go.Proofs.Ytdfhhliapcdebaa

/- Plain facts: bytes of a table of which one is turned, or some come behind, are refused. -/
namespace Go.Proofs.Ytdfhhliapcdebaa
open Go.RowKit
set_option linter.unusedVariables false
set_option maxRecDepth 100000

theorem viF_mono (k n m : Nat) (h : n ≤ m) : (M.viF k n).length ≤ (M.viF k m).length := by
  induction k generalizing n m with
  | zero => simp [M.viF]
  | succ k ih =>
    rw [M.viF, M.viF]
    by_cases h1 : n < 128
    · rw [if_pos h1]
      split
      · simp
      · simp
    · rw [if_neg h1, if_neg (by omega)]
      have := ih (n / 128) (m / 128) (by omega)
      simpa using this
theorem frame_inj_len (a b : List UInt8) (h : (M.frame a).length = (M.frame b).length) : a.length = b.length := by
  have h1 := M.be_length 4 (M.crc a)
  have h2 := M.be_length 4 (M.crc b)
  simp only [M.frame, List.length_append, h1, h2] at h
  rcases Nat.lt_trichotomy a.length b.length with q | q | q
  · have := viF_mono 9 a.length b.length (by omega)
    unfold M.vi at h
    omega
  · exact q
  · have := viF_mono 9 b.length a.length (by omega)
    unfold M.vi at h
    omega

theorem frame_head (b : List UInt8) (n A : Nat) (hn : b.length = n) (hA : A < (M.vi n).length) : (M.frame b)[A]? = (M.vi n)[A]? := by
  subst hn
  unfold M.frame
  rw [List.append_assoc, List.getElem?_append_left hA]
/-- A frame of which any byte is turned is no whole frame. -/
theorem frame_turned (l : List UInt8) (A : Nat) (hA : A < (M.frame l).length) (τ : UInt8) (hτ : τ ≠ 0) (hl : l.length < 18446744073709551616) :
    (M.tf ((M.frame l).set A ((M.frame l)[A] ^^^ τ))).2.2 ≠ 0 ∨ (M.tf ((M.frame l).set A ((M.frame l)[A] ^^^ τ))).2.1 ≠ [] := by
  have hxne : ∀ x : UInt8, x ^^^ τ ≠ x := fun x e => hτ (by
    have := congrArg (fun y => x ^^^ y) e
    simpa [← UInt8.xor_assoc] using this)
  by_cases h0 : (M.tf ((M.frame l).set A ((M.frame l)[A] ^^^ τ))).2.2 = 0
  · refine .inr fun hre => ?_
    have e := M.tf_form _ h0
    rw [hre, List.append_nil] at e
    have hlen := congrArg List.length e
    rw [List.length_set] at hlen
    have hn := frame_inj_len _ _ hlen
    by_cases hv : A < (M.vi l.length).length
    · have hg := congrArg (fun y => y[A]?) e
      rw [List.getElem?_set_self hA] at hg
      have e1 := frame_head _ _ A hn hv
      have e2 := frame_head l _ A rfl hv
      rw [e1, ← e2, List.getElem?_eq_getElem hA] at hg
      exact hxne _ (Option.some.inj hg).symm
    · obtain ⟨j, rfl⟩ : ∃ j, A = (M.vi l.length).length + j := ⟨A - (M.vi l.length).length, by omega⟩
      have hfl : (M.frame l).length = (M.vi l.length).length + (4 + l.length) := by simp [M.frame, M.be_length]
      have := turned_refused l j (by omega) τ hτ hl hA
      rw [this] at h0
      cases h0
  · exact .inl h0

theorem opn_no {l : List UInt8} (h : (M.tf l).2.2 ≠ 0 ∨ (M.tf l).2.1 ≠ []) : M.opn l = none := by
  unfold M.opn
  rw [if_neg]
  rintro ⟨h1, h2, _⟩
  rcases h with q | q
  · exact q h1
  · exact q h2
theorem opn_turned (ps : List P3) (hl : totP ps ≤ 4194304) (A : Nat) (hA : A < (M.tab ps).length) (τ : UInt8) (hτ : τ ≠ 0) : M.opn ((M.tab ps).set A ((M.tab ps)[A] ^^^ τ)) = none := by
  have h1 := row_tot ps
  exact opn_no (frame_turned (M.row (ps.map M.prow)) A hA τ hτ (by omega))
theorem opn_more (ps : List P3) (hl : totP ps ≤ 4194304) (x : UInt8) : M.opn (M.tab ps ++ [x]) = none := by
  have h1 := row_tot ps
  refine opn_no (.inr ?_)
  unfold M.tab
  rw [M.tf_back (M.row (ps.map M.prow)) [x] (by omega)]
  simp

/-- The whole. -/
theorem plK_nil (ps : List P3) : M.plK ps [] = 0 := by
  cases ps with
  | nil => rfl
  | cons p r =>
    obtain ⟨k, v, g⟩ := p
    simp only [M.plK]
    rw [if_neg]
    cases k <;> simp [M.cmpL]
theorem rng_all (ps : List P3) : rng ps [] [] = ps := by
  unfold rng
  rw [plK_nil]
  simp
theorem tab_pos (ps : List P3) : 5 ≤ (M.tab ps).length := by
  have h3 := M.be_length 4 (M.crc (M.row (ps.map M.prow)))
  have h1 := M.vi_pos (M.row (ps.map M.prow)).length
  simp only [M.tab, M.frame, List.length_append]
  omega
end Go.Proofs.Ytdfhhliapcdebaa

/- Plain facts on ranges of a table, and lists of pairs joined. -/
namespace Go.Proofs.Ytdfhhliapcdebaa
open Go.RowKit
set_option linter.unusedVariables false
set_option maxRecDepth 100000

theorem plK_mono {ps : List P3} (h : M.ris ps = true) {a b : List UInt8} (hab : M.cmpL a b ≤ 0) : M.plK ps a ≤ M.plK ps b := by
  rcases Nat.lt_or_ge (M.plK ps b) (M.plK ps a) with q | q
  · have hl := M.plK_le ps a
    obtain ⟨x, hx⟩ : ∃ x, ps[M.plK ps b]? = some x := ⟨_, List.getElem?_eq_getElem (by omega)⟩
    have h1 := M.plK_lt q hx
    have h2 := M.cmpL_lt_le h1 hab
    exact absurd h2 (M.plK_ge hx)
  · exact q
theorem rng_to {ps : List P3} {a : List UInt8} (ha : 0 < a.length) : rng ps [] a = ps.take (M.plK ps a) := by
  unfold rng; rw [plK_nil, if_neg (by omega)]; rfl
theorem rng_on {ps : List P3} (b : List UInt8) : rng ps b [] = ps.drop (M.plK ps b) := by
  unfold rng; simp
theorem rng_three {ps : List P3} (h : M.ris ps = true) {a b : List UInt8} (hab : M.cmpL a b ≤ 0) (ha : 0 < a.length) (hb : 0 < b.length) : rng ps [] a ++ rng ps a b ++ rng ps b [] = ps := by
  have hm := plK_mono h hab
  rw [rng_to ha, rng_on]
  unfold rng
  rw [if_neg (by omega)]
  have e : ps.take (M.plK ps a) = (ps.take (M.plK ps b)).take (M.plK ps a) := by rw [List.take_take, Nat.min_eq_left hm]
  rw [e, List.take_append_drop, List.take_append_drop]
theorem rng_two {ps : List P3} {b : List UInt8} (hb : 0 < b.length) : rng ps [] b ++ rng ps b [] = ps := by
  rw [rng_to hb, rng_on, List.take_append_drop]
theorem rng_none {ps : List P3} (h : M.ris ps = true) {a b : List UInt8} (hab : M.cmpL a b ≤ 0) (ha : 0 < a.length) : rng ps b a = [] := by
  have hm := plK_mono h hab
  unfold rng
  rw [if_neg (by omega)]
  exact List.drop_eq_nil_of_le (by simp; omega)
theorem rng_len (ps : List P3) (a b : List UInt8) : (rng ps a b).length ≤ ps.length := by
  unfold rng; simp; omega
theorem getK_at {ps : List P3} (h : M.ris ps = true) {i : Nat} {p : P3} (hi : ps[i]? = some p) : getK ps p.1 = some p := by
  have e : M.plK ps p.1 = i := M.plK_eq (fun j x hj hx => M.ris_pair h hx hi hj) (fun x hx => by
    rw [hi] at hx
    obtain rfl := Option.some.inj hx
    rw [M.cmpL_self]; omega) (by have := (List.getElem?_eq_some_iff.1 hi).1; omega)
  have e2 : M.isK ps p.1 = true := by
    unfold M.isK
    rw [e, hi]
    simp [M.cmpL_self]
  unfold getK
  rw [if_pos e2, e, hi]

/-- One pair out of a list of pairs. -/
theorem RdQ.one {w : World} {a : Addr} {n c i : Nat} {ps : List P3} {p : P3} (h : RdQ w (.slice (some a) n c) ps) (hi : ps[i]? = some p) : RdQ w (.slice (some (a.add (i * 3))) 1 (c - i)) [p] := by
  obtain ⟨ao, c', e, h1, h2, h4⟩ := h
  simp only [Value.slice.injEq] at e
  obtain ⟨rfl, rfl, rfl⟩ := e
  have hl := (List.getElem?_eq_some_iff.1 hi).1
  obtain ⟨a', u1, u2, ea, hp⟩ := h4 i p hi
  obtain rfl := Option.some.inj ea
  refine ⟨some (a.add (i * 3)), c - i, rfl, by simp; omega, by omega, fun j q hj => ?_⟩
  match j with
  | 0 => simp at hj; subst hj; exact ⟨_, u1, u2, rfl, hp⟩
  | j + 1 => simp at hj
/-- One pair in a new block. -/
theorem rdq_one (w : World) (H : Nat) (hH : w.heap.size = H) {B : Nat} {u : V3} {p : P3} (t : TypeId) (h : El3 B w u p) {cs : Array Value} (hcs : cs = #[u.1, u.2.1, .bool u.2.2]) : RdQ (w.alloc (.cells cs t)) (.slice (some ⟨H, 0, none⟩) 1 1) [p] := by
  subst hH
  subst hcs
  have hb := bel_al w (.cells #[u.1, u.2.1, .bool u.2.2] t)
  have hc : ∀ j v, #[u.1, u.2.1, .bool u.2.2][j]? = some v → (w.alloc (.cells #[u.1, u.2.1, .bool u.2.2] t)).cell? ⟨w.heap.size, j, none⟩ = some v := fun j v e => by
    rw [World.cell?_alloc_at _ _ _ _ rfl]; exact e
  refine ⟨some ⟨w.heap.size, 0, none⟩, 1, rfl, by simp, by simp [maxLen], fun i r hi => ?_⟩
  match i with
  | 0 =>
    simp at hi; subst hi
    exact ⟨⟨w.heap.size, 0, none⟩, u.1, u.2.1, rfl, hc 0 _ rfl, hc 1 _ rfl, by rw [← h.2.2]; exact hc 2 _ rfl, h.1.rd.below hb (Nat.le_refl _), h.2.1.rd.below hb (Nat.le_refl _)⟩
  | i + 1 => simp at hi

/-- New pairs behind others. -/
theorem OwQ.join {B : Nat} {w w1 w2 : World} {v v1 v2 : Value} {ps qs : List P3} {us xs : List V3} (h : OwQ B w v ps us) (hb : Below w.heap.size w w1) (k : OwQ w.heap.size w1 v1 qs xs) (hB : B ≤ w.heap.size)
    (hrow : w2.ownsRow B 48 3 v2 (us ++ xs).length (q3s (us ++ xs))) (hg : w1.grownBy w2 v.ownBlock) (hv : v2.ownBlock = v.ownBlock ∨ v2.ownBlock = some w1.heap.size) : OwQ B w2 v2 (ps ++ qs) (us ++ xs) ∧ Below B w w2 := by
  refine ⟨(h.below hb (Nat.le_refl _)).app k.len (fun i u p e1 e2 => (k.el i u p e1 e2).mono hB) (fun u hu b hbb q => ?_) hrow hg hv, h.grown hb hB hg⟩
  obtain ⟨p, hp⟩ := k.elem u hu
  have := (hp.lt hbb).1
  have := (World.ownsRow.lt h.row b q).2
  omega
/-- A cell that was there stays behind a new block and draws. -/
theorem keepc {w : World} {o : Obj} {a : Addr} {v : Value} {n : Nat} (h : w.cell? a = some v) : ((w.alloc o).drew.drewN n).cell? a = some v := by
  have hb : Below w.heap.size w ((w.alloc o).drew.drewN n) := Below.tr (Below.tr (bel_al w o) (bel_drew _)) (Below.dN _ n)
  rw [hb.cell (World.block_lt_of_cell? _ _ h)]; exact h
end Go.Proofs.Ytdfhhliapcdebaa

/- The walk of TableRanges: some of its cases. -/
namespace Go.Proofs.Ytdfhhliapcdebaa
open Go.RowKit
set_option linter.unusedVariables false
set_option maxRecDepth 100000

set_option maxHeartbeats 1000000 in
theorem ranges_n2 {v va vb : Value} {ps : List P3} {LB : List UInt8} {w : World} (hr : RdQ w v ps) (hl : totP ps ≤ 1048576) (hri : M.ris ps = true) (hra : Rd w va []) (hrb : Rd w vb LB) (hlb : LB.length ≤ 1048576) (hb0 : 0 < LB.length) :
    Calls Try.prog 8 #[v, va, vb] w fun e w' => e = .returned (.bool true) ∧ Below w.heap.size w w' := by
  have hrp := fun W (hW : Below w.heap.size w W) => hr.below hW (Nat.le_refl _)
  have ra := fun W (hW : Below w.heap.size w W) => hra.below hW (Nat.le_refl _)
  have rb := fun W (hW : Below w.heap.size w W) => hrb.below hW (Nat.le_refl _)
  have hbld : M.bld ps = (M.tab ps, 0) := by unfold M.bld; rw [if_pos hri]
  have hopn := opn_tab ps hri (by omega)
  have htl := tab_len ps
  have hpl := totP_len ps
  have hz1 : M.cmpL [] LB = -1 := by cases LB with | nil => simp at hb0 | cons x r => rfl
  have hz2 : M.cmpL LB [] = 1 := by rw [M.cmpL_swap, hz1]; rfl
  have HJ : Hid _ := rng_two (ps := ps) hb0
  have HG : Hid (∀ (i : Nat) (p : P3), ps[i]? = some p → getK ps p.1 = some p) := fun i p hp => getK_at hri hp
  obtain ⟨av, cv, rfl, v1, v2, _⟩ := hr
  unfold maxLen at v2
  obtain ⟨aa, ca, rfl, a1, a2, _⟩ := hra
  obtain ⟨ab, cb, rfl, b1, b2, _⟩ := hrb
  unfold maxLen at a2 b2
  have HO : Hid _ := hopn
  clear hopn
  try simp only [List.length_nil] at *
  go_enter Try.func8, Try.ntmps8
  go_wp2_with fail
  refine (tawake_any _).mono ?_
  rintro e w1 ⟨rfl, hb1⟩
  have hbd := build_any (hrp w1 hb1) (by omega)
  rw [hbld] at hbd
  go_wp2_with fail
  refine hbd.mono ?_
  rintro e w2 ⟨v2', rfl, ho2, hb2⟩
  have hB2 : Below w.heap.size w w2 := hb1.trans (hb2.mono hb1.size)
  have hT := ho2.rd
  obtain ⟨a2', c2', rfl, t1, t2, t3, t4⟩ := ho2.rd
  clear ho2 hbd t4
  go_wp2_with fail
  refine (open_any hT (by omega)).mono ?_
  rintro e w3 ⟨hor, hb3⟩
  rcases hor with ⟨qs, t, hqs, rfl, ht⟩ | ⟨hno, _⟩
  rotate_left
  · rw [HO.out] at hno; cases hno
  rw [HO.out] at hqs
  obtain rfl := Option.some.inj hqs
  have hB3 : Below w.heap.size w w3 := hB2.trans (hb3.mono hB2.size)
  have hB3s := hB3.size
  have htb := fun W (hW : Below w3.heap.size w3 W) => ht.below hW (Nat.le_refl _)
  have ra3 := fun W (hW : Below w3.heap.size w3 W) => ra W (hB3.trans (hW.mono hB3s))
  have rb3 := fun W (hW : Below w3.heap.size w3 W) => rb W (hB3.trans (hW.mono hB3s))
  obtain ⟨tb, sv, rfl, _⟩ := ht
  clear hrp ra rb hT HO htl hb1 hb2 hb3 hB2 t1 t2 t3
  have hcf := cmp_any (ra3 w3 (Below.refl _ _)) (rb3 w3 (Below.refl _ _))
  rw [hz1] at hcf
  go_wp2_with fail
  refine hcf.mono ?_
  rintro e w4 ⟨rfl, n4, rfl⟩
  have hB4 : Below w3.heap.size w3 (w3.drewN n4) := Below.dN w3 n4
  generalize w3.drewN n4 = w4 at *
  have hall0 := range_any (htb w4 hB4) (Rd.nil w4) (Rd.nil w4) hri (by omega)
  rw [rng_all ps] at hall0
  go_wp2_with fail
  refine hall0.mono ?_
  rintro e w5 ⟨v5, us5, rfl, ho5, hb5⟩
  have hal := fun W (hW : Below w5.heap.size w5 W) => ho5.rdq.below hW (Nat.le_refl _)
  have hB5 : Below w3.heap.size w3 w5 := hB4.trans (hb5.mono hB4.size)
  obtain ⟨a5, c5, rfl, l51, l52, l54⟩ := ho5.rdq
  unfold maxLen at l52
  have hp0 : OwQ w5.heap.size w5 (.slice none 0 0) [] [] := OwQ.nil _ _
  clear ho5 hall0 hcf l54
  have hcs := cmp_any (ra3 w5 hB5) (rb3 w5 hB5)
  rw [hz1] at hcs
  go_wp2_with fail
  refine hcs.mono ?_
  rintro e wc ⟨rfl, nc, rfl⟩
  have hWwc0 : Below w5.heap.size w5 w5 := Below.refl _ _
  have hWwc : Below w5.heap.size w5 (w5.drewN nc) := hWwc0.trans ((Below.dN w5 nc).mono hWwc0.size)
  have hBwc : Below w3.heap.size w3 (w5.drewN nc) := hB5.trans (hWwc.mono hB5.size)
  have hpc := hp0.below (Below.dN w5 nc) (Nat.le_refl _)
  generalize w5.drewN nc = wc at *
  clear hcs
  have hw51 : Below w5.heap.size w5 wc := hWwc
  have hs51 := hw51.size
  have hrg1 := range_any (htb wc hBwc) (ra3 wc hBwc) (rb3 wc hBwc) hri (by omega)
  go_wp2_with fail
  refine hrg1.mono ?_
  rintro e x1 ⟨y1, xs1, rfl, hq1, hbx1⟩
  have hsx1 := hbx1.size
  have hrv1 := hq1.rdv
  have hlx1 : xs1.length ≤ 1048576 := by have := hq1.len; have := rng_len ps [] LB; omega
  have hrw1 := ownsRow_belW hpc.row hbx1 (Nat.le_refl _)
  obtain ⟨ay1, ny1, cy1, ey1⟩ := row_shape hq1.row
  subst ey1
  go_wp2_with (first | (at_builtin; refine wpList_appQ rfl _ _ rfl w5.heap.size (.slice none 0 0) [] rfl hrw1 _ xs1 rfl hrv1 (by omega) (by simp; omega) ?_; intro z1 q1 hoz1 hgz1 hvz1) | fail)
  obtain ⟨hp1, hbq1⟩ := OwQ.join hpc hbx1 hq1 hs51 hoz1 hgz1 hvz1
  have hWq1 : Below w5.heap.size w5 q1 := hw51.trans hbq1
  have hBq1 : Below w3.heap.size w3 q1 := hB5.trans (hWq1.mono hB5.size)
  obtain ⟨az1, nz1, cz1, ez1⟩ := row_shape hp1.row
  subst ez1
  have hlp1 : ([] ++ xs1).length ≤ 1048576 := by rw [List.length_append]; simp; omega
  clear hrg1 hrv1 hrw1 hoz1 hgz1 hvz1 hq1 hbx1
  have hw52 : Below w5.heap.size w5 q1 := hWq1
  have hs52 := hw52.size
  have hrg2 := range_any (htb q1 hBq1) (rb3 q1 hBq1) (Rd.nil _) hri (by omega)
  go_wp2_with fail
  refine hrg2.mono ?_
  rintro e x2 ⟨y2, xs2, rfl, hq2, hbx2⟩
  have hsx2 := hbx2.size
  have hrv2 := hq2.rdv
  have hlx2 : xs2.length ≤ 1048576 := by have := hq2.len; have := rng_len ps LB []; omega
  have hrw2 := ownsRow_belW hp1.row hbx2 (Nat.le_refl _)
  obtain ⟨ay2, ny2, cy2, ey2⟩ := row_shape hq2.row
  subst ey2
  go_wp2_with (first | (at_builtin; refine wpList_appQ rfl _ _ rfl w5.heap.size (.slice az1 nz1 cz1) ([] ++ xs1) rfl hrw2 _ xs2 rfl hrv2 (by omega) (by omega) ?_; intro z2 q2 hoz2 hgz2 hvz2) | fail)
  obtain ⟨hp2, hbq2⟩ := OwQ.join hp1 hbx2 hq2 hs52 hoz2 hgz2 hvz2
  have hWq2 : Below w5.heap.size w5 q2 := hw52.trans hbq2
  have hBq2 : Below w3.heap.size w3 q2 := hB5.trans (hWq2.mono hB5.size)
  obtain ⟨az2, nz2, cz2, ez2⟩ := row_shape hp2.row
  subst ez2
  have hlp2 : (([] ++ xs1) ++ xs2).length ≤ 2097152 := by rw [List.length_append]; omega
  clear hrg2 hrv2 hrw2 hoz2 hgz2 hvz2 hq2 hbx2
  have hpj : (([] ++ rng ps [] LB) ++ rng ps LB []) = ps := by simpa using HJ.out
  have hsp := samep_any (hpj ▸ hp2.rdq) (hal q2 hWq2)
  go_wp2_with fail
  refine hsp.mono ?_
  rintro e w8 ⟨rfl, n8, rfl⟩
  have hB8 : Below w5.heap.size w5 (q2.drewN n8) := hWq2.trans ((Below.dN q2 n8).mono hWq2.size)
  generalize q2.drewN n8 = w8 at *
  clear hsp hpj hp2
  have hs35 := hB5.size
  go_wp2_with fail
  go_loopw [12, 13, 14] (fun i _ _ wr => ∃ k : Nat, k ≤ ps.length ∧ i = .int .i64 k ∧ Below w5.heap.size w5 wr) (fun i _ _ _ => ps.length - (intOf i).toNat)
  case atStart => exact ⟨0, Nat.zero_le _, rfl, hB8⟩
  case round =>
    obtain ⟨k, hk, rfl, hb⟩ := hrel
    clear hB8
    have hbs := hb.size
    have hBr : Below w3.heap.size w3 wr := hB5.trans (hb.mono hB5.size)
    by_cases hlk : k < ps.length
    · obtain ⟨p, hp⟩ : ∃ p, ps[k]? = some p := ⟨_, List.getElem?_eq_getElem hlk⟩
      have hqr := hal wr hb
      obtain ⟨ao, cx, ex, _, _, h4⟩ := hqr
      simp only [Value.slice.injEq, true_and] at ex
      obtain ⟨rfl, rfl⟩ := ex
      obtain ⟨a, u1, u2, rfl, hpa⟩ := h4 k p hp
      have hone := fun W (hW : Below w5.heap.size w5 W) => (hal W hW).one hp
      have hget := get_any (htb wr hBr) hpa.r1 hri (by omega)
      rw [HG.out k p hp] at hget
      have c0 := hpa.c0
      obtain ⟨x1, y1, rfl, _⟩ := hpa.r1
      have hki : (k : Int) < (ps.length : Int) := by omega
      clear h4 hpa hp
      go_wp2_with fail
      refine hget.mono ?_
      rintro e w9 ⟨u9, rfl, hE9, hb9⟩
      simp only [Option.getD_some] at hE9
      obtain ⟨⟨q0, q1, q2, e0⟩, q3, q4, q5, e1⟩ := hE9.sl
      obtain ⟨m0, m1, m2⟩ := u9
      simp only [] at *
      subst e0
      subst e1
      have hE10 := hE9.below (bel_al w9 (.cells #[.slice q0 q1 q2, .slice q3 q4 q5, .bool m2] 48)) (Nat.le_refl _)
      have hW10 : Below w5.heap.size w5 (w9.alloc (.cells #[.slice q0 q1 q2, .slice q3 q4 q5, .bool m2] 48)) := hb.trans ((Below.tr hb9 (bel_al w9 _)).mono hbs)
      obtain ⟨f0, f1, f2, _⟩ := cells3 (heap_alloc_new w9 (.cells #[.slice q0 q1 q2, .slice q3 q4 q5, .bool m2] 48))
      have hsz : (w9.alloc (.cells #[.slice q0 q1 q2, .slice q3 q4 q5, .bool m2] 48)).heap.size = w9.heap.size + 1 := by simp
      clear hb9 hE9 hget c0
      go_wp2_with fail
      generalize (w9.alloc (.cells #[.slice q0 q1 q2, .slice q3 q4 q5, .bool m2] 48)) = W0 at *
      have hN := rdq_one W0 (w9.heap.size + 1) hsz 48 hE10 rfl
      have hw1 : IntKind.i64.wrap ((k : Int) + 1) = (k : Int) + 1 := by rw [IntKind.wrap_i64]; omega
      have g0 : (0 : Int) ≤ (k : Int) := by omega
      have g1 : (k : Int) + 1 ≤ (c5 : Int) := by omega
      have g2 : (k : Int) ≤ (k : Int) + 1 := by omega
      have g3 : (ps.length : Int) ≤ (c5 : Int) := by omega
      have g4 : ¬ c5 = k := by omega
      have g5 : (k : Int) + 1 ≤ (ps.length : Int) := by omega
      have nn0 := World.new_ne W0 _ f0
      have nn1 := World.new_ne W0 _ f1
      have nn2 := World.new_ne W0 _ f2
      go_region_held3 (fun w' => w'.cell? ⟨w9.heap.size, 0, none⟩ = some (.slice q0 q1 q2) ∧ w'.cell? ⟨w9.heap.size, 1, none⟩ = some (.slice q3 q4 q5) ∧ w'.cell? ⟨w9.heap.size, 2, none⟩ = some (.bool m2)) (go_keep) (first
        | (go_at_call 15; refine (samep_any (ps := [p]) (RdQ.below hN (bel_drew _) (Nat.le_refl _)) (hone _ (hW10.trans ((Below.tr (bel_al W0 _) (bel_drew _)).mono hW10.size)))).mono ?_; rintro e w11 ⟨rfl, n11, rfl⟩; have s0 : ((W0.alloc (.cells #[.slice q0 q1 q2, .slice q3 q4 q5, .bool m2] 48)).drew.drewN n11).cell? ⟨w9.heap.size, 0, none⟩ = some (.slice q0 q1 q2) := keepc f0; have s1 : ((W0.alloc (.cells #[.slice q0 q1 q2, .slice q3 q4 q5, .bool m2] 48)).drew.drewN n11).cell? ⟨w9.heap.size, 1, none⟩ = some (.slice q3 q4 q5) := keepc f1; have s2 : ((W0.alloc (.cells #[.slice q0 q1 q2, .slice q3 q4 q5, .bool m2] 48)).drew.drewN n11).cell? ⟨w9.heap.size, 2, none⟩ = some (.bool m2) := keepc f2)
        | fail)
      go_wp2_with fail
      exact ⟨⟨k + 1, by omega, by go_num, hW10.trans ((Below.tr (bel_al W0 _) (Below.dN _ _)).mono hW10.size)⟩, by simp [intOf]; omega⟩
    · obtain rfl : k = ps.length := by omega
      have hlast := range_any (htb wr hBr) (rb3 wr hBr) (ra3 wr hBr) hri (by omega)
      go_wp2_with fail
      refine hlast.mono ?_
      rintro e w12 ⟨v12, us12, rfl, ho12, hb12⟩
      obtain ⟨a12, n12, c12, e12⟩ := row_shape ho12.row
      subst e12
      have hfin := hB3.trans ((hBr.trans (hb12.mono hBr.size)).mono hB3s)
      clear ho12
      cases hn : ((n12 : Int) == 0)
      all_goals
        go_wp2_with fail
        go_ret
        exact ⟨rfl, hfin⟩

end Go.Proofs.Ytdfhhliapcdebaa

/- The walk of TableRanges: some of its cases. -/
namespace Go.Proofs.Ytdfhhliapcdebaa
open Go.RowKit
set_option linter.unusedVariables false
set_option maxRecDepth 100000

set_option maxHeartbeats 1000000 in
theorem ranges_s2 {v va vb : Value} {ps : List P3} {LB : List UInt8} {w : World} (hr : RdQ w v ps) (hl : totP ps ≤ 1048576) (hri : M.ris ps = true) (hra : Rd w va []) (hrb : Rd w vb LB) (hlb : LB.length ≤ 1048576) (hb0 : 0 < LB.length) :
    Calls Try.prog 8 #[v, vb, va] w fun e w' => e = .returned (.bool true) ∧ Below w.heap.size w w' := by
  have hrp := fun W (hW : Below w.heap.size w W) => hr.below hW (Nat.le_refl _)
  have ra := fun W (hW : Below w.heap.size w W) => hra.below hW (Nat.le_refl _)
  have rb := fun W (hW : Below w.heap.size w W) => hrb.below hW (Nat.le_refl _)
  have hbld : M.bld ps = (M.tab ps, 0) := by unfold M.bld; rw [if_pos hri]
  have hopn := opn_tab ps hri (by omega)
  have htl := tab_len ps
  have hpl := totP_len ps
  have hz1 : M.cmpL [] LB = -1 := by cases LB with | nil => simp at hb0 | cons x r => rfl
  have hz2 : M.cmpL LB [] = 1 := by rw [M.cmpL_swap, hz1]; rfl
  have HJ : Hid _ := rng_two (ps := ps) hb0
  have HG : Hid (∀ (i : Nat) (p : P3), ps[i]? = some p → getK ps p.1 = some p) := fun i p hp => getK_at hri hp
  obtain ⟨av, cv, rfl, v1, v2, _⟩ := hr
  unfold maxLen at v2
  obtain ⟨aa, ca, rfl, a1, a2, _⟩ := hra
  obtain ⟨ab, cb, rfl, b1, b2, _⟩ := hrb
  unfold maxLen at a2 b2
  have HO : Hid _ := hopn
  clear hopn
  try simp only [List.length_nil] at *
  go_enter Try.func8, Try.ntmps8
  go_wp2_with fail
  refine (tawake_any _).mono ?_
  rintro e w1 ⟨rfl, hb1⟩
  have hbd := build_any (hrp w1 hb1) (by omega)
  rw [hbld] at hbd
  go_wp2_with fail
  refine hbd.mono ?_
  rintro e w2 ⟨v2', rfl, ho2, hb2⟩
  have hB2 : Below w.heap.size w w2 := hb1.trans (hb2.mono hb1.size)
  have hT := ho2.rd
  obtain ⟨a2', c2', rfl, t1, t2, t3, t4⟩ := ho2.rd
  clear ho2 hbd t4
  go_wp2_with fail
  refine (open_any hT (by omega)).mono ?_
  rintro e w3 ⟨hor, hb3⟩
  rcases hor with ⟨qs, t, hqs, rfl, ht⟩ | ⟨hno, _⟩
  rotate_left
  · rw [HO.out] at hno; cases hno
  rw [HO.out] at hqs
  obtain rfl := Option.some.inj hqs
  have hB3 : Below w.heap.size w w3 := hB2.trans (hb3.mono hB2.size)
  have hB3s := hB3.size
  have htb := fun W (hW : Below w3.heap.size w3 W) => ht.below hW (Nat.le_refl _)
  have ra3 := fun W (hW : Below w3.heap.size w3 W) => ra W (hB3.trans (hW.mono hB3s))
  have rb3 := fun W (hW : Below w3.heap.size w3 W) => rb W (hB3.trans (hW.mono hB3s))
  obtain ⟨tb, sv, rfl, _⟩ := ht
  clear hrp ra rb hT HO htl hb1 hb2 hb3 hB2 t1 t2 t3
  have hcf := cmp_any (rb3 w3 (Below.refl _ _)) (ra3 w3 (Below.refl _ _))
  rw [hz2] at hcf
  go_wp2_with fail
  refine hcf.mono ?_
  rintro e w4 ⟨rfl, n4, rfl⟩
  have hB4 : Below w3.heap.size w3 (w3.drewN n4) := Below.dN w3 n4
  generalize w3.drewN n4 = w4 at *
  have hall0 := range_any (htb w4 hB4) (Rd.nil w4) (Rd.nil w4) hri (by omega)
  rw [rng_all ps] at hall0
  go_wp2_with fail
  refine hall0.mono ?_
  rintro e w5 ⟨v5, us5, rfl, ho5, hb5⟩
  have hal := fun W (hW : Below w5.heap.size w5 W) => ho5.rdq.below hW (Nat.le_refl _)
  have hB5 : Below w3.heap.size w3 w5 := hB4.trans (hb5.mono hB4.size)
  obtain ⟨a5, c5, rfl, l51, l52, l54⟩ := ho5.rdq
  unfold maxLen at l52
  have hp0 : OwQ w5.heap.size w5 (.slice none 0 0) [] [] := OwQ.nil _ _
  clear ho5 hall0 hcf l54
  have hcs := cmp_any (ra3 w5 hB5) (rb3 w5 hB5)
  rw [hz1] at hcs
  go_wp2_with fail
  refine hcs.mono ?_
  rintro e wc ⟨rfl, nc, rfl⟩
  have hWwc0 : Below w5.heap.size w5 w5 := Below.refl _ _
  have hWwc : Below w5.heap.size w5 (w5.drewN nc) := hWwc0.trans ((Below.dN w5 nc).mono hWwc0.size)
  have hBwc : Below w3.heap.size w3 (w5.drewN nc) := hB5.trans (hWwc.mono hB5.size)
  have hpc := hp0.below (Below.dN w5 nc) (Nat.le_refl _)
  generalize w5.drewN nc = wc at *
  clear hcs
  have hw51 : Below w5.heap.size w5 wc := hWwc
  have hs51 := hw51.size
  have hrg1 := range_any (htb wc hBwc) (ra3 wc hBwc) (rb3 wc hBwc) hri (by omega)
  go_wp2_with fail
  refine hrg1.mono ?_
  rintro e x1 ⟨y1, xs1, rfl, hq1, hbx1⟩
  have hsx1 := hbx1.size
  have hrv1 := hq1.rdv
  have hlx1 : xs1.length ≤ 1048576 := by have := hq1.len; have := rng_len ps [] LB; omega
  have hrw1 := ownsRow_belW hpc.row hbx1 (Nat.le_refl _)
  obtain ⟨ay1, ny1, cy1, ey1⟩ := row_shape hq1.row
  subst ey1
  go_wp2_with (first | (at_builtin; refine wpList_appQ rfl _ _ rfl w5.heap.size (.slice none 0 0) [] rfl hrw1 _ xs1 rfl hrv1 (by omega) (by simp; omega) ?_; intro z1 q1 hoz1 hgz1 hvz1) | fail)
  obtain ⟨hp1, hbq1⟩ := OwQ.join hpc hbx1 hq1 hs51 hoz1 hgz1 hvz1
  have hWq1 : Below w5.heap.size w5 q1 := hw51.trans hbq1
  have hBq1 : Below w3.heap.size w3 q1 := hB5.trans (hWq1.mono hB5.size)
  obtain ⟨az1, nz1, cz1, ez1⟩ := row_shape hp1.row
  subst ez1
  have hlp1 : ([] ++ xs1).length ≤ 1048576 := by rw [List.length_append]; simp; omega
  clear hrg1 hrv1 hrw1 hoz1 hgz1 hvz1 hq1 hbx1
  have hw52 : Below w5.heap.size w5 q1 := hWq1
  have hs52 := hw52.size
  have hrg2 := range_any (htb q1 hBq1) (rb3 q1 hBq1) (Rd.nil _) hri (by omega)
  go_wp2_with fail
  refine hrg2.mono ?_
  rintro e x2 ⟨y2, xs2, rfl, hq2, hbx2⟩
  have hsx2 := hbx2.size
  have hrv2 := hq2.rdv
  have hlx2 : xs2.length ≤ 1048576 := by have := hq2.len; have := rng_len ps LB []; omega
  have hrw2 := ownsRow_belW hp1.row hbx2 (Nat.le_refl _)
  obtain ⟨ay2, ny2, cy2, ey2⟩ := row_shape hq2.row
  subst ey2
  go_wp2_with (first | (at_builtin; refine wpList_appQ rfl _ _ rfl w5.heap.size (.slice az1 nz1 cz1) ([] ++ xs1) rfl hrw2 _ xs2 rfl hrv2 (by omega) (by omega) ?_; intro z2 q2 hoz2 hgz2 hvz2) | fail)
  obtain ⟨hp2, hbq2⟩ := OwQ.join hp1 hbx2 hq2 hs52 hoz2 hgz2 hvz2
  have hWq2 : Below w5.heap.size w5 q2 := hw52.trans hbq2
  have hBq2 : Below w3.heap.size w3 q2 := hB5.trans (hWq2.mono hB5.size)
  obtain ⟨az2, nz2, cz2, ez2⟩ := row_shape hp2.row
  subst ez2
  have hlp2 : (([] ++ xs1) ++ xs2).length ≤ 2097152 := by rw [List.length_append]; omega
  clear hrg2 hrv2 hrw2 hoz2 hgz2 hvz2 hq2 hbx2
  have hpj : (([] ++ rng ps [] LB) ++ rng ps LB []) = ps := by simpa using HJ.out
  have hsp := samep_any (hpj ▸ hp2.rdq) (hal q2 hWq2)
  go_wp2_with fail
  refine hsp.mono ?_
  rintro e w8 ⟨rfl, n8, rfl⟩
  have hB8 : Below w5.heap.size w5 (q2.drewN n8) := hWq2.trans ((Below.dN q2 n8).mono hWq2.size)
  generalize q2.drewN n8 = w8 at *
  clear hsp hpj hp2
  have hs35 := hB5.size
  go_wp2_with fail
  go_loopw [12, 13, 14] (fun i _ _ wr => ∃ k : Nat, k ≤ ps.length ∧ i = .int .i64 k ∧ Below w5.heap.size w5 wr) (fun i _ _ _ => ps.length - (intOf i).toNat)
  case atStart => exact ⟨0, Nat.zero_le _, rfl, hB8⟩
  case round =>
    obtain ⟨k, hk, rfl, hb⟩ := hrel
    clear hB8
    have hbs := hb.size
    have hBr : Below w3.heap.size w3 wr := hB5.trans (hb.mono hB5.size)
    by_cases hlk : k < ps.length
    · obtain ⟨p, hp⟩ : ∃ p, ps[k]? = some p := ⟨_, List.getElem?_eq_getElem hlk⟩
      have hqr := hal wr hb
      obtain ⟨ao, cx, ex, _, _, h4⟩ := hqr
      simp only [Value.slice.injEq, true_and] at ex
      obtain ⟨rfl, rfl⟩ := ex
      obtain ⟨a, u1, u2, rfl, hpa⟩ := h4 k p hp
      have hone := fun W (hW : Below w5.heap.size w5 W) => (hal W hW).one hp
      have hget := get_any (htb wr hBr) hpa.r1 hri (by omega)
      rw [HG.out k p hp] at hget
      have c0 := hpa.c0
      obtain ⟨x1, y1, rfl, _⟩ := hpa.r1
      have hki : (k : Int) < (ps.length : Int) := by omega
      clear h4 hpa hp
      go_wp2_with fail
      refine hget.mono ?_
      rintro e w9 ⟨u9, rfl, hE9, hb9⟩
      simp only [Option.getD_some] at hE9
      obtain ⟨⟨q0, q1, q2, e0⟩, q3, q4, q5, e1⟩ := hE9.sl
      obtain ⟨m0, m1, m2⟩ := u9
      simp only [] at *
      subst e0
      subst e1
      have hE10 := hE9.below (bel_al w9 (.cells #[.slice q0 q1 q2, .slice q3 q4 q5, .bool m2] 48)) (Nat.le_refl _)
      have hW10 : Below w5.heap.size w5 (w9.alloc (.cells #[.slice q0 q1 q2, .slice q3 q4 q5, .bool m2] 48)) := hb.trans ((Below.tr hb9 (bel_al w9 _)).mono hbs)
      obtain ⟨f0, f1, f2, _⟩ := cells3 (heap_alloc_new w9 (.cells #[.slice q0 q1 q2, .slice q3 q4 q5, .bool m2] 48))
      have hsz : (w9.alloc (.cells #[.slice q0 q1 q2, .slice q3 q4 q5, .bool m2] 48)).heap.size = w9.heap.size + 1 := by simp
      clear hb9 hE9 hget c0
      go_wp2_with fail
      generalize (w9.alloc (.cells #[.slice q0 q1 q2, .slice q3 q4 q5, .bool m2] 48)) = W0 at *
      have hN := rdq_one W0 (w9.heap.size + 1) hsz 48 hE10 rfl
      have hw1 : IntKind.i64.wrap ((k : Int) + 1) = (k : Int) + 1 := by rw [IntKind.wrap_i64]; omega
      have g0 : (0 : Int) ≤ (k : Int) := by omega
      have g1 : (k : Int) + 1 ≤ (c5 : Int) := by omega
      have g2 : (k : Int) ≤ (k : Int) + 1 := by omega
      have g3 : (ps.length : Int) ≤ (c5 : Int) := by omega
      have g4 : ¬ c5 = k := by omega
      have g5 : (k : Int) + 1 ≤ (ps.length : Int) := by omega
      have nn0 := World.new_ne W0 _ f0
      have nn1 := World.new_ne W0 _ f1
      have nn2 := World.new_ne W0 _ f2
      go_region_held3 (fun w' => w'.cell? ⟨w9.heap.size, 0, none⟩ = some (.slice q0 q1 q2) ∧ w'.cell? ⟨w9.heap.size, 1, none⟩ = some (.slice q3 q4 q5) ∧ w'.cell? ⟨w9.heap.size, 2, none⟩ = some (.bool m2)) (go_keep) (first
        | (go_at_call 15; refine (samep_any (ps := [p]) (RdQ.below hN (bel_drew _) (Nat.le_refl _)) (hone _ (hW10.trans ((Below.tr (bel_al W0 _) (bel_drew _)).mono hW10.size)))).mono ?_; rintro e w11 ⟨rfl, n11, rfl⟩; have s0 : ((W0.alloc (.cells #[.slice q0 q1 q2, .slice q3 q4 q5, .bool m2] 48)).drew.drewN n11).cell? ⟨w9.heap.size, 0, none⟩ = some (.slice q0 q1 q2) := keepc f0; have s1 : ((W0.alloc (.cells #[.slice q0 q1 q2, .slice q3 q4 q5, .bool m2] 48)).drew.drewN n11).cell? ⟨w9.heap.size, 1, none⟩ = some (.slice q3 q4 q5) := keepc f1; have s2 : ((W0.alloc (.cells #[.slice q0 q1 q2, .slice q3 q4 q5, .bool m2] 48)).drew.drewN n11).cell? ⟨w9.heap.size, 2, none⟩ = some (.bool m2) := keepc f2)
        | fail)
      go_wp2_with fail
      exact ⟨⟨k + 1, by omega, by go_num, hW10.trans ((Below.tr (bel_al W0 _) (Below.dN _ _)).mono hW10.size)⟩, by simp [intOf]; omega⟩
    · obtain rfl : k = ps.length := by omega
      have hlast := range_any (htb wr hBr) (rb3 wr hBr) (ra3 wr hBr) hri (by omega)
      go_wp2_with fail
      refine hlast.mono ?_
      rintro e w12 ⟨v12, us12, rfl, ho12, hb12⟩
      obtain ⟨a12, n12, c12, e12⟩ := row_shape ho12.row
      subst e12
      have hfin := hB3.trans ((hBr.trans (hb12.mono hBr.size)).mono hB3s)
      clear ho12
      cases hn : ((n12 : Int) == 0)
      all_goals
        go_wp2_with fail
        go_ret
        exact ⟨rfl, hfin⟩

set_option maxHeartbeats 1000000 in
theorem ranges_n4 {v va vb : Value} {ps : List P3} {LA : List UInt8} {w : World} (hr : RdQ w v ps) (hl : totP ps ≤ 1048576) (hri : M.ris ps = true) (hra : Rd w va LA) (hrb : Rd w vb LA) (hla : LA.length ≤ 1048576) (ha0 : 0 < LA.length) :
    Calls Try.prog 8 #[v, va, vb] w fun e w' => e = .returned (.bool true) ∧ Below w.heap.size w w' := by
  have hrp := fun W (hW : Below w.heap.size w W) => hr.below hW (Nat.le_refl _)
  have ra := fun W (hW : Below w.heap.size w W) => hra.below hW (Nat.le_refl _)
  have rb := fun W (hW : Below w.heap.size w W) => hrb.below hW (Nat.le_refl _)
  have hbld : M.bld ps = (M.tab ps, 0) := by unfold M.bld; rw [if_pos hri]
  have hopn := opn_tab ps hri (by omega)
  have htl := tab_len ps
  have hpl := totP_len ps
  have hz1 : M.cmpL LA LA = 0 := M.cmpL_self _
  have HJ : Hid _ := rng_two (ps := ps) ha0
  have HN : Hid (rng ps LA LA = []) := rng_none hri (by rw [hz1]; omega) ha0
  have HG : Hid (∀ (i : Nat) (p : P3), ps[i]? = some p → getK ps p.1 = some p) := fun i p hp => getK_at hri hp
  obtain ⟨av, cv, rfl, v1, v2, _⟩ := hr
  unfold maxLen at v2
  obtain ⟨aa, ca, rfl, a1, a2, _⟩ := hra
  obtain ⟨ab, cb, rfl, b1, b2, _⟩ := hrb
  unfold maxLen at a2 b2
  have HO : Hid _ := hopn
  clear hopn
  go_enter Try.func8, Try.ntmps8
  go_wp2_with fail
  refine (tawake_any _).mono ?_
  rintro e w1 ⟨rfl, hb1⟩
  have hbd := build_any (hrp w1 hb1) (by omega)
  rw [hbld] at hbd
  go_wp2_with fail
  refine hbd.mono ?_
  rintro e w2 ⟨v2', rfl, ho2, hb2⟩
  have hB2 : Below w.heap.size w w2 := hb1.trans (hb2.mono hb1.size)
  have hT := ho2.rd
  obtain ⟨a2', c2', rfl, t1, t2, t3, t4⟩ := ho2.rd
  clear ho2 hbd t4
  go_wp2_with fail
  refine (open_any hT (by omega)).mono ?_
  rintro e w3 ⟨hor, hb3⟩
  rcases hor with ⟨qs, t, hqs, rfl, ht⟩ | ⟨hno, _⟩
  rotate_left
  · rw [HO.out] at hno; cases hno
  rw [HO.out] at hqs
  obtain rfl := Option.some.inj hqs
  have hB3 : Below w.heap.size w w3 := hB2.trans (hb3.mono hB2.size)
  have hB3s := hB3.size
  have htb := fun W (hW : Below w3.heap.size w3 W) => ht.below hW (Nat.le_refl _)
  have ra3 := fun W (hW : Below w3.heap.size w3 W) => ra W (hB3.trans (hW.mono hB3s))
  have rb3 := fun W (hW : Below w3.heap.size w3 W) => rb W (hB3.trans (hW.mono hB3s))
  obtain ⟨tb, sv, rfl, _⟩ := ht
  clear hrp ra rb hT HO htl hb1 hb2 hb3 hB2 t1 t2 t3
  have hcf := cmp_any (ra3 w3 (Below.refl _ _)) (rb3 w3 (Below.refl _ _))
  rw [hz1] at hcf
  go_wp2_with fail
  refine hcf.mono ?_
  rintro e w4 ⟨rfl, n4, rfl⟩
  have hB4 : Below w3.heap.size w3 (w3.drewN n4) := Below.dN w3 n4
  generalize w3.drewN n4 = w4 at *
  have hall0 := range_any (htb w4 hB4) (Rd.nil w4) (Rd.nil w4) hri (by omega)
  rw [rng_all ps] at hall0
  go_wp2_with fail
  refine hall0.mono ?_
  rintro e w5 ⟨v5, us5, rfl, ho5, hb5⟩
  have hal := fun W (hW : Below w5.heap.size w5 W) => ho5.rdq.below hW (Nat.le_refl _)
  have hB5 : Below w3.heap.size w3 w5 := hB4.trans (hb5.mono hB4.size)
  obtain ⟨a5, c5, rfl, l51, l52, l54⟩ := ho5.rdq
  unfold maxLen at l52
  have hp0 : OwQ w5.heap.size w5 (.slice none 0 0) [] [] := OwQ.nil _ _
  clear ho5 hall0 hcf l54
  have hw51 : Below w5.heap.size w5 w5 := Below.refl _ _
  have hs51 := hw51.size
  have hrg1 := range_any (htb w5 hB5) (Rd.nil _) (ra3 w5 hB5) hri (by omega)
  go_wp2_with fail
  refine hrg1.mono ?_
  rintro e x1 ⟨y1, xs1, rfl, hq1, hbx1⟩
  have hsx1 := hbx1.size
  have hrv1 := hq1.rdv
  have hlx1 : xs1.length ≤ 1048576 := by have := hq1.len; have := rng_len ps [] LA; omega
  have hrw1 := ownsRow_belW hp0.row hbx1 (Nat.le_refl _)
  obtain ⟨ay1, ny1, cy1, ey1⟩ := row_shape hq1.row
  subst ey1
  go_wp2_with (first | (at_builtin; refine wpList_appQ rfl _ _ rfl w5.heap.size (.slice none 0 0) [] rfl hrw1 _ xs1 rfl hrv1 (by omega) (by simp; omega) ?_; intro z1 q1 hoz1 hgz1 hvz1) | fail)
  obtain ⟨hp1, hbq1⟩ := OwQ.join hp0 hbx1 hq1 hs51 hoz1 hgz1 hvz1
  have hWq1 : Below w5.heap.size w5 q1 := hw51.trans hbq1
  have hBq1 : Below w3.heap.size w3 q1 := hB5.trans (hWq1.mono hB5.size)
  obtain ⟨az1, nz1, cz1, ez1⟩ := row_shape hp1.row
  subst ez1
  have hlp1 : ([] ++ xs1).length ≤ 1048576 := by rw [List.length_append]; simp; omega
  clear hrg1 hrv1 hrw1 hoz1 hgz1 hvz1 hq1 hbx1
  have hcs := cmp_any (ra3 q1 hBq1) (rb3 q1 hBq1)
  rw [hz1] at hcs
  go_wp2_with fail
  refine hcs.mono ?_
  rintro e wc ⟨rfl, nc, rfl⟩
  have hWwc0 : Below w5.heap.size w5 q1 := hWq1
  have hWwc : Below w5.heap.size w5 (q1.drewN nc) := hWwc0.trans ((Below.dN q1 nc).mono hWwc0.size)
  have hBwc : Below w3.heap.size w3 (q1.drewN nc) := hB5.trans (hWwc.mono hB5.size)
  have hpc := hp1.below (Below.dN q1 nc) (Nat.le_refl _)
  generalize q1.drewN nc = wc at *
  clear hcs
  have hw52 : Below w5.heap.size w5 wc := hWwc
  have hs52 := hw52.size
  have hrg2 := range_any (htb wc hBwc) (rb3 wc hBwc) (Rd.nil _) hri (by omega)
  go_wp2_with fail
  refine hrg2.mono ?_
  rintro e x2 ⟨y2, xs2, rfl, hq2, hbx2⟩
  have hsx2 := hbx2.size
  have hrv2 := hq2.rdv
  have hlx2 : xs2.length ≤ 1048576 := by have := hq2.len; have := rng_len ps LA []; omega
  have hrw2 := ownsRow_belW hpc.row hbx2 (Nat.le_refl _)
  obtain ⟨ay2, ny2, cy2, ey2⟩ := row_shape hq2.row
  subst ey2
  go_wp2_with (first | (at_builtin; refine wpList_appQ rfl _ _ rfl w5.heap.size (.slice az1 nz1 cz1) ([] ++ xs1) rfl hrw2 _ xs2 rfl hrv2 (by omega) (by omega) ?_; intro z2 q2 hoz2 hgz2 hvz2) | fail)
  obtain ⟨hp2, hbq2⟩ := OwQ.join hpc hbx2 hq2 hs52 hoz2 hgz2 hvz2
  have hWq2 : Below w5.heap.size w5 q2 := hw52.trans hbq2
  have hBq2 : Below w3.heap.size w3 q2 := hB5.trans (hWq2.mono hB5.size)
  obtain ⟨az2, nz2, cz2, ez2⟩ := row_shape hp2.row
  subst ez2
  have hlp2 : (([] ++ xs1) ++ xs2).length ≤ 2097152 := by rw [List.length_append]; omega
  clear hrg2 hrv2 hrw2 hoz2 hgz2 hvz2 hq2 hbx2
  have hpj : (([] ++ rng ps [] LA) ++ rng ps LA []) = ps := by simpa using HJ.out
  have hsp := samep_any (hpj ▸ hp2.rdq) (hal q2 hWq2)
  go_wp2_with fail
  refine hsp.mono ?_
  rintro e w8 ⟨rfl, n8, rfl⟩
  have hB8 : Below w5.heap.size w5 (q2.drewN n8) := hWq2.trans ((Below.dN q2 n8).mono hWq2.size)
  generalize q2.drewN n8 = w8 at *
  clear hsp hpj hp2
  have hs35 := hB5.size
  go_wp2_with fail
  go_loopw [12, 13, 14] (fun i _ _ wr => ∃ k : Nat, k ≤ ps.length ∧ i = .int .i64 k ∧ Below w5.heap.size w5 wr) (fun i _ _ _ => ps.length - (intOf i).toNat)
  case atStart => exact ⟨0, Nat.zero_le _, rfl, hB8⟩
  case round =>
    obtain ⟨k, hk, rfl, hb⟩ := hrel
    clear hB8
    have hbs := hb.size
    have hBr : Below w3.heap.size w3 wr := hB5.trans (hb.mono hB5.size)
    by_cases hlk : k < ps.length
    · obtain ⟨p, hp⟩ : ∃ p, ps[k]? = some p := ⟨_, List.getElem?_eq_getElem hlk⟩
      have hqr := hal wr hb
      obtain ⟨ao, cx, ex, _, _, h4⟩ := hqr
      simp only [Value.slice.injEq, true_and] at ex
      obtain ⟨rfl, rfl⟩ := ex
      obtain ⟨a, u1, u2, rfl, hpa⟩ := h4 k p hp
      have hone := fun W (hW : Below w5.heap.size w5 W) => (hal W hW).one hp
      have hget := get_any (htb wr hBr) hpa.r1 hri (by omega)
      rw [HG.out k p hp] at hget
      have c0 := hpa.c0
      obtain ⟨x1, y1, rfl, _⟩ := hpa.r1
      have hki : (k : Int) < (ps.length : Int) := by omega
      clear h4 hpa hp
      go_wp2_with fail
      refine hget.mono ?_
      rintro e w9 ⟨u9, rfl, hE9, hb9⟩
      simp only [Option.getD_some] at hE9
      obtain ⟨⟨q0, q1, q2, e0⟩, q3, q4, q5, e1⟩ := hE9.sl
      obtain ⟨m0, m1, m2⟩ := u9
      simp only [] at *
      subst e0
      subst e1
      have hE10 := hE9.below (bel_al w9 (.cells #[.slice q0 q1 q2, .slice q3 q4 q5, .bool m2] 48)) (Nat.le_refl _)
      have hW10 : Below w5.heap.size w5 (w9.alloc (.cells #[.slice q0 q1 q2, .slice q3 q4 q5, .bool m2] 48)) := hb.trans ((Below.tr hb9 (bel_al w9 _)).mono hbs)
      obtain ⟨f0, f1, f2, _⟩ := cells3 (heap_alloc_new w9 (.cells #[.slice q0 q1 q2, .slice q3 q4 q5, .bool m2] 48))
      have hsz : (w9.alloc (.cells #[.slice q0 q1 q2, .slice q3 q4 q5, .bool m2] 48)).heap.size = w9.heap.size + 1 := by simp
      clear hb9 hE9 hget c0
      go_wp2_with fail
      generalize (w9.alloc (.cells #[.slice q0 q1 q2, .slice q3 q4 q5, .bool m2] 48)) = W0 at *
      have hN := rdq_one W0 (w9.heap.size + 1) hsz 48 hE10 rfl
      have hw1 : IntKind.i64.wrap ((k : Int) + 1) = (k : Int) + 1 := by rw [IntKind.wrap_i64]; omega
      have g0 : (0 : Int) ≤ (k : Int) := by omega
      have g1 : (k : Int) + 1 ≤ (c5 : Int) := by omega
      have g2 : (k : Int) ≤ (k : Int) + 1 := by omega
      have g3 : (ps.length : Int) ≤ (c5 : Int) := by omega
      have g4 : ¬ c5 = k := by omega
      have g5 : (k : Int) + 1 ≤ (ps.length : Int) := by omega
      have nn0 := World.new_ne W0 _ f0
      have nn1 := World.new_ne W0 _ f1
      have nn2 := World.new_ne W0 _ f2
      go_region_held3 (fun w' => w'.cell? ⟨w9.heap.size, 0, none⟩ = some (.slice q0 q1 q2) ∧ w'.cell? ⟨w9.heap.size, 1, none⟩ = some (.slice q3 q4 q5) ∧ w'.cell? ⟨w9.heap.size, 2, none⟩ = some (.bool m2)) (go_keep) (first
        | (go_at_call 15; refine (samep_any (ps := [p]) (RdQ.below hN (bel_drew _) (Nat.le_refl _)) (hone _ (hW10.trans ((Below.tr (bel_al W0 _) (bel_drew _)).mono hW10.size)))).mono ?_; rintro e w11 ⟨rfl, n11, rfl⟩; have s0 : ((W0.alloc (.cells #[.slice q0 q1 q2, .slice q3 q4 q5, .bool m2] 48)).drew.drewN n11).cell? ⟨w9.heap.size, 0, none⟩ = some (.slice q0 q1 q2) := keepc f0; have s1 : ((W0.alloc (.cells #[.slice q0 q1 q2, .slice q3 q4 q5, .bool m2] 48)).drew.drewN n11).cell? ⟨w9.heap.size, 1, none⟩ = some (.slice q3 q4 q5) := keepc f1; have s2 : ((W0.alloc (.cells #[.slice q0 q1 q2, .slice q3 q4 q5, .bool m2] 48)).drew.drewN n11).cell? ⟨w9.heap.size, 2, none⟩ = some (.bool m2) := keepc f2)
        | fail)
      go_wp2_with fail
      exact ⟨⟨k + 1, by omega, by go_num, hW10.trans ((Below.tr (bel_al W0 _) (Below.dN _ _)).mono hW10.size)⟩, by simp [intOf]; omega⟩
    · obtain rfl : k = ps.length := by omega
      have hlast := range_any (htb wr hBr) (rb3 wr hBr) (ra3 wr hBr) hri (by omega)
      rw [HN.out] at hlast
      go_wp2_with fail
      refine hlast.mono ?_
      rintro e w12 ⟨v12, us12, rfl, ho12, hb12⟩
      obtain ⟨a12, c12, rfl, _⟩ := ho12.rdq
      simp only [List.length_nil] at *
      go_wp2_with fail
      go_ret
      exact ⟨rfl, hB3.trans ((hBr.trans (hb12.mono hBr.size)).mono hB3s)⟩

end Go.Proofs.Ytdfhhliapcdebaa

/- The walk of TableRanges: some of its cases. -/
namespace Go.Proofs.Ytdfhhliapcdebaa
open Go.RowKit
set_option linter.unusedVariables false
set_option maxRecDepth 100000

set_option maxHeartbeats 1000000 in
theorem ranges_n3 {v va vb : Value} {ps : List P3} {LA LB : List UInt8} {w : World} (hr : RdQ w v ps) (hl : totP ps ≤ 1048576) (hri : M.ris ps = true) (hra : Rd w va LA) (hrb : Rd w vb LB) (hla : LA.length ≤ 1048576) (hlb : LB.length ≤ 1048576) (ha0 : 0 < LA.length) (hb0 : 0 < LB.length) (hlt : M.cmpL LA LB < 0) :
    Calls Try.prog 8 #[v, va, vb] w fun e w' => e = .returned (.bool true) ∧ Below w.heap.size w w' := by
  have hrp := fun W (hW : Below w.heap.size w W) => hr.below hW (Nat.le_refl _)
  have ra := fun W (hW : Below w.heap.size w W) => hra.below hW (Nat.le_refl _)
  have rb := fun W (hW : Below w.heap.size w W) => hrb.below hW (Nat.le_refl _)
  have hbld : M.bld ps = (M.tab ps, 0) := by unfold M.bld; rw [if_pos hri]
  have hopn := opn_tab ps hri (by omega)
  have htl := tab_len ps
  have hpl := totP_len ps
  have hz2 : 0 < M.cmpL LB LA := by rw [M.cmpL_swap]; omega
  have HJ : Hid _ := rng_three (ps := ps) hri (by omega) ha0 hb0
  have HN : Hid (rng ps LB LA = []) := rng_none hri (by omega) ha0
  have HG : Hid (∀ (i : Nat) (p : P3), ps[i]? = some p → getK ps p.1 = some p) := fun i p hp => getK_at hri hp
  obtain ⟨av, cv, rfl, v1, v2, _⟩ := hr
  unfold maxLen at v2
  obtain ⟨aa, ca, rfl, a1, a2, _⟩ := hra
  obtain ⟨ab, cb, rfl, b1, b2, _⟩ := hrb
  unfold maxLen at a2 b2
  have HO : Hid _ := hopn
  clear hopn
  go_enter Try.func8, Try.ntmps8
  go_wp2_with fail
  refine (tawake_any _).mono ?_
  rintro e w1 ⟨rfl, hb1⟩
  have hbd := build_any (hrp w1 hb1) (by omega)
  rw [hbld] at hbd
  go_wp2_with fail
  refine hbd.mono ?_
  rintro e w2 ⟨v2', rfl, ho2, hb2⟩
  have hB2 : Below w.heap.size w w2 := hb1.trans (hb2.mono hb1.size)
  have hT := ho2.rd
  obtain ⟨a2', c2', rfl, t1, t2, t3, t4⟩ := ho2.rd
  clear ho2 hbd t4
  go_wp2_with fail
  refine (open_any hT (by omega)).mono ?_
  rintro e w3 ⟨hor, hb3⟩
  rcases hor with ⟨qs, t, hqs, rfl, ht⟩ | ⟨hno, _⟩
  rotate_left
  · rw [HO.out] at hno; cases hno
  rw [HO.out] at hqs
  obtain rfl := Option.some.inj hqs
  have hB3 : Below w.heap.size w w3 := hB2.trans (hb3.mono hB2.size)
  have hB3s := hB3.size
  have htb := fun W (hW : Below w3.heap.size w3 W) => ht.below hW (Nat.le_refl _)
  have ra3 := fun W (hW : Below w3.heap.size w3 W) => ra W (hB3.trans (hW.mono hB3s))
  have rb3 := fun W (hW : Below w3.heap.size w3 W) => rb W (hB3.trans (hW.mono hB3s))
  obtain ⟨tb, sv, rfl, _⟩ := ht
  clear hrp ra rb hT HO htl hb1 hb2 hb3 hB2 t1 t2 t3
  have hcf := cmp_any (ra3 w3 (Below.refl _ _)) (rb3 w3 (Below.refl _ _))
  have hz3 : ¬ 0 < M.cmpL LA LB := by omega
  have hz4 : M.cmpL LA LB ≤ 0 := by omega
  go_wp2_with fail
  refine hcf.mono ?_
  rintro e w4 ⟨rfl, n4, rfl⟩
  have hB4 : Below w3.heap.size w3 (w3.drewN n4) := Below.dN w3 n4
  generalize w3.drewN n4 = w4 at *
  have hall0 := range_any (htb w4 hB4) (Rd.nil w4) (Rd.nil w4) hri (by omega)
  rw [rng_all ps] at hall0
  go_wp2_with fail
  refine hall0.mono ?_
  rintro e w5 ⟨v5, us5, rfl, ho5, hb5⟩
  have hal := fun W (hW : Below w5.heap.size w5 W) => ho5.rdq.below hW (Nat.le_refl _)
  have hB5 : Below w3.heap.size w3 w5 := hB4.trans (hb5.mono hB4.size)
  obtain ⟨a5, c5, rfl, l51, l52, l54⟩ := ho5.rdq
  unfold maxLen at l52
  have hp0 : OwQ w5.heap.size w5 (.slice none 0 0) [] [] := OwQ.nil _ _
  clear ho5 hall0 hcf l54
  have hw51 : Below w5.heap.size w5 w5 := Below.refl _ _
  have hs51 := hw51.size
  have hrg1 := range_any (htb w5 hB5) (Rd.nil _) (ra3 w5 hB5) hri (by omega)
  go_wp2_with fail
  refine hrg1.mono ?_
  rintro e x1 ⟨y1, xs1, rfl, hq1, hbx1⟩
  have hsx1 := hbx1.size
  have hrv1 := hq1.rdv
  have hlx1 : xs1.length ≤ 1048576 := by have := hq1.len; have := rng_len ps [] LA; omega
  have hrw1 := ownsRow_belW hp0.row hbx1 (Nat.le_refl _)
  obtain ⟨ay1, ny1, cy1, ey1⟩ := row_shape hq1.row
  subst ey1
  go_wp2_with (first | (at_builtin; refine wpList_appQ rfl _ _ rfl w5.heap.size (.slice none 0 0) [] rfl hrw1 _ xs1 rfl hrv1 (by omega) (by simp; omega) ?_; intro z1 q1 hoz1 hgz1 hvz1) | fail)
  obtain ⟨hp1, hbq1⟩ := OwQ.join hp0 hbx1 hq1 hs51 hoz1 hgz1 hvz1
  have hWq1 : Below w5.heap.size w5 q1 := hw51.trans hbq1
  have hBq1 : Below w3.heap.size w3 q1 := hB5.trans (hWq1.mono hB5.size)
  obtain ⟨az1, nz1, cz1, ez1⟩ := row_shape hp1.row
  subst ez1
  have hlp1 : ([] ++ xs1).length ≤ 1048576 := by rw [List.length_append]; simp; omega
  clear hrg1 hrv1 hrw1 hoz1 hgz1 hvz1 hq1 hbx1
  have hcs := cmp_any (ra3 q1 hBq1) (rb3 q1 hBq1)
  go_wp2_with fail
  refine hcs.mono ?_
  rintro e wc ⟨rfl, nc, rfl⟩
  have hWwc0 : Below w5.heap.size w5 q1 := hWq1
  have hWwc : Below w5.heap.size w5 (q1.drewN nc) := hWwc0.trans ((Below.dN q1 nc).mono hWwc0.size)
  have hBwc : Below w3.heap.size w3 (q1.drewN nc) := hB5.trans (hWwc.mono hB5.size)
  have hpc := hp1.below (Below.dN q1 nc) (Nat.le_refl _)
  generalize q1.drewN nc = wc at *
  clear hcs
  have hw52 : Below w5.heap.size w5 wc := hWwc
  have hs52 := hw52.size
  have hrg2 := range_any (htb wc hBwc) (ra3 wc hBwc) (rb3 wc hBwc) hri (by omega)
  go_wp2_with fail
  refine hrg2.mono ?_
  rintro e x2 ⟨y2, xs2, rfl, hq2, hbx2⟩
  have hsx2 := hbx2.size
  have hrv2 := hq2.rdv
  have hlx2 : xs2.length ≤ 1048576 := by have := hq2.len; have := rng_len ps LA LB; omega
  have hrw2 := ownsRow_belW hpc.row hbx2 (Nat.le_refl _)
  obtain ⟨ay2, ny2, cy2, ey2⟩ := row_shape hq2.row
  subst ey2
  go_wp2_with (first | (at_builtin; refine wpList_appQ rfl _ _ rfl w5.heap.size (.slice az1 nz1 cz1) ([] ++ xs1) rfl hrw2 _ xs2 rfl hrv2 (by omega) (by omega) ?_; intro z2 q2 hoz2 hgz2 hvz2) | fail)
  obtain ⟨hp2, hbq2⟩ := OwQ.join hpc hbx2 hq2 hs52 hoz2 hgz2 hvz2
  have hWq2 : Below w5.heap.size w5 q2 := hw52.trans hbq2
  have hBq2 : Below w3.heap.size w3 q2 := hB5.trans (hWq2.mono hB5.size)
  obtain ⟨az2, nz2, cz2, ez2⟩ := row_shape hp2.row
  subst ez2
  have hlp2 : (([] ++ xs1) ++ xs2).length ≤ 2097152 := by rw [List.length_append]; omega
  clear hrg2 hrv2 hrw2 hoz2 hgz2 hvz2 hq2 hbx2
  have hw53 : Below w5.heap.size w5 q2 := hWq2
  have hs53 := hw53.size
  have hrg3 := range_any (htb q2 hBq2) (rb3 q2 hBq2) (Rd.nil _) hri (by omega)
  go_wp2_with fail
  refine hrg3.mono ?_
  rintro e x3 ⟨y3, xs3, rfl, hq3, hbx3⟩
  have hsx3 := hbx3.size
  have hrv3 := hq3.rdv
  have hlx3 : xs3.length ≤ 1048576 := by have := hq3.len; have := rng_len ps LB []; omega
  have hrw3 := ownsRow_belW hp2.row hbx3 (Nat.le_refl _)
  obtain ⟨ay3, ny3, cy3, ey3⟩ := row_shape hq3.row
  subst ey3
  go_wp2_with (first | (at_builtin; refine wpList_appQ rfl _ _ rfl w5.heap.size (.slice az2 nz2 cz2) (([] ++ xs1) ++ xs2) rfl hrw3 _ xs3 rfl hrv3 (by omega) (by omega) ?_; intro z3 q3 hoz3 hgz3 hvz3) | fail)
  obtain ⟨hp3, hbq3⟩ := OwQ.join hp2 hbx3 hq3 hs53 hoz3 hgz3 hvz3
  have hWq3 : Below w5.heap.size w5 q3 := hw53.trans hbq3
  have hBq3 : Below w3.heap.size w3 q3 := hB5.trans (hWq3.mono hB5.size)
  obtain ⟨az3, nz3, cz3, ez3⟩ := row_shape hp3.row
  subst ez3
  have hlp3 : ((([] ++ xs1) ++ xs2) ++ xs3).length ≤ 3145728 := by rw [List.length_append]; omega
  clear hrg3 hrv3 hrw3 hoz3 hgz3 hvz3 hq3 hbx3
  have hpj : ((([] ++ rng ps [] LA) ++ rng ps LA LB) ++ rng ps LB []) = ps := by simpa using HJ.out
  have hsp := samep_any (hpj ▸ hp3.rdq) (hal q3 hWq3)
  go_wp2_with fail
  refine hsp.mono ?_
  rintro e w8 ⟨rfl, n8, rfl⟩
  have hB8 : Below w5.heap.size w5 (q3.drewN n8) := hWq3.trans ((Below.dN q3 n8).mono hWq3.size)
  generalize q3.drewN n8 = w8 at *
  clear hsp hpj hp3
  have hs35 := hB5.size
  go_wp2_with fail
  go_loopw [12, 13, 14] (fun i _ _ wr => ∃ k : Nat, k ≤ ps.length ∧ i = .int .i64 k ∧ Below w5.heap.size w5 wr) (fun i _ _ _ => ps.length - (intOf i).toNat)
  case atStart => exact ⟨0, Nat.zero_le _, rfl, hB8⟩
  case round =>
    obtain ⟨k, hk, rfl, hb⟩ := hrel
    clear hB8
    have hbs := hb.size
    have hBr : Below w3.heap.size w3 wr := hB5.trans (hb.mono hB5.size)
    by_cases hlk : k < ps.length
    · obtain ⟨p, hp⟩ : ∃ p, ps[k]? = some p := ⟨_, List.getElem?_eq_getElem hlk⟩
      have hqr := hal wr hb
      obtain ⟨ao, cx, ex, _, _, h4⟩ := hqr
      simp only [Value.slice.injEq, true_and] at ex
      obtain ⟨rfl, rfl⟩ := ex
      obtain ⟨a, u1, u2, rfl, hpa⟩ := h4 k p hp
      have hone := fun W (hW : Below w5.heap.size w5 W) => (hal W hW).one hp
      have hget := get_any (htb wr hBr) hpa.r1 hri (by omega)
      rw [HG.out k p hp] at hget
      have c0 := hpa.c0
      obtain ⟨x1, y1, rfl, _⟩ := hpa.r1
      have hki : (k : Int) < (ps.length : Int) := by omega
      clear h4 hpa hp
      go_wp2_with fail
      refine hget.mono ?_
      rintro e w9 ⟨u9, rfl, hE9, hb9⟩
      simp only [Option.getD_some] at hE9
      obtain ⟨⟨q0, q1, q2, e0⟩, q3, q4, q5, e1⟩ := hE9.sl
      obtain ⟨m0, m1, m2⟩ := u9
      simp only [] at *
      subst e0
      subst e1
      have hE10 := hE9.below (bel_al w9 (.cells #[.slice q0 q1 q2, .slice q3 q4 q5, .bool m2] 48)) (Nat.le_refl _)
      have hW10 : Below w5.heap.size w5 (w9.alloc (.cells #[.slice q0 q1 q2, .slice q3 q4 q5, .bool m2] 48)) := hb.trans ((Below.tr hb9 (bel_al w9 _)).mono hbs)
      obtain ⟨f0, f1, f2, _⟩ := cells3 (heap_alloc_new w9 (.cells #[.slice q0 q1 q2, .slice q3 q4 q5, .bool m2] 48))
      have hsz : (w9.alloc (.cells #[.slice q0 q1 q2, .slice q3 q4 q5, .bool m2] 48)).heap.size = w9.heap.size + 1 := by simp
      clear hb9 hE9 hget c0
      go_wp2_with fail
      generalize (w9.alloc (.cells #[.slice q0 q1 q2, .slice q3 q4 q5, .bool m2] 48)) = W0 at *
      have hN := rdq_one W0 (w9.heap.size + 1) hsz 48 hE10 rfl
      have hw1 : IntKind.i64.wrap ((k : Int) + 1) = (k : Int) + 1 := by rw [IntKind.wrap_i64]; omega
      have g0 : (0 : Int) ≤ (k : Int) := by omega
      have g1 : (k : Int) + 1 ≤ (c5 : Int) := by omega
      have g2 : (k : Int) ≤ (k : Int) + 1 := by omega
      have g3 : (ps.length : Int) ≤ (c5 : Int) := by omega
      have g4 : ¬ c5 = k := by omega
      have g5 : (k : Int) + 1 ≤ (ps.length : Int) := by omega
      have nn0 := World.new_ne W0 _ f0
      have nn1 := World.new_ne W0 _ f1
      have nn2 := World.new_ne W0 _ f2
      go_region_held3 (fun w' => w'.cell? ⟨w9.heap.size, 0, none⟩ = some (.slice q0 q1 q2) ∧ w'.cell? ⟨w9.heap.size, 1, none⟩ = some (.slice q3 q4 q5) ∧ w'.cell? ⟨w9.heap.size, 2, none⟩ = some (.bool m2)) (go_keep) (first
        | (go_at_call 15; refine (samep_any (ps := [p]) (RdQ.below hN (bel_drew _) (Nat.le_refl _)) (hone _ (hW10.trans ((Below.tr (bel_al W0 _) (bel_drew _)).mono hW10.size)))).mono ?_; rintro e w11 ⟨rfl, n11, rfl⟩; have s0 : ((W0.alloc (.cells #[.slice q0 q1 q2, .slice q3 q4 q5, .bool m2] 48)).drew.drewN n11).cell? ⟨w9.heap.size, 0, none⟩ = some (.slice q0 q1 q2) := keepc f0; have s1 : ((W0.alloc (.cells #[.slice q0 q1 q2, .slice q3 q4 q5, .bool m2] 48)).drew.drewN n11).cell? ⟨w9.heap.size, 1, none⟩ = some (.slice q3 q4 q5) := keepc f1; have s2 : ((W0.alloc (.cells #[.slice q0 q1 q2, .slice q3 q4 q5, .bool m2] 48)).drew.drewN n11).cell? ⟨w9.heap.size, 2, none⟩ = some (.bool m2) := keepc f2)
        | fail)
      go_wp2_with fail
      exact ⟨⟨k + 1, by omega, by go_num, hW10.trans ((Below.tr (bel_al W0 _) (Below.dN _ _)).mono hW10.size)⟩, by simp [intOf]; omega⟩
    · obtain rfl : k = ps.length := by omega
      have hlast := range_any (htb wr hBr) (rb3 wr hBr) (ra3 wr hBr) hri (by omega)
      rw [HN.out] at hlast
      go_wp2_with fail
      refine hlast.mono ?_
      rintro e w12 ⟨v12, us12, rfl, ho12, hb12⟩
      obtain ⟨a12, c12, rfl, _⟩ := ho12.rdq
      simp only [List.length_nil] at *
      go_wp2_with fail
      go_ret
      exact ⟨rfl, hB3.trans ((hBr.trans (hb12.mono hBr.size)).mono hB3s)⟩

end Go.Proofs.Ytdfhhliapcdebaa

/- The walk of TableRanges: some of its cases. -/
namespace Go.Proofs.Ytdfhhliapcdebaa
open Go.RowKit
set_option linter.unusedVariables false
set_option maxRecDepth 100000

set_option maxHeartbeats 1000000 in
theorem ranges_s3 {v va vb : Value} {ps : List P3} {LA LB : List UInt8} {w : World} (hr : RdQ w v ps) (hl : totP ps ≤ 1048576) (hri : M.ris ps = true) (hra : Rd w va LA) (hrb : Rd w vb LB) (hla : LA.length ≤ 1048576) (hlb : LB.length ≤ 1048576) (ha0 : 0 < LA.length) (hb0 : 0 < LB.length) (hlt : M.cmpL LA LB < 0) :
    Calls Try.prog 8 #[v, vb, va] w fun e w' => e = .returned (.bool true) ∧ Below w.heap.size w w' := by
  have hrp := fun W (hW : Below w.heap.size w W) => hr.below hW (Nat.le_refl _)
  have ra := fun W (hW : Below w.heap.size w W) => hra.below hW (Nat.le_refl _)
  have rb := fun W (hW : Below w.heap.size w W) => hrb.below hW (Nat.le_refl _)
  have hbld : M.bld ps = (M.tab ps, 0) := by unfold M.bld; rw [if_pos hri]
  have hopn := opn_tab ps hri (by omega)
  have htl := tab_len ps
  have hpl := totP_len ps
  have hz2 : 0 < M.cmpL LB LA := by rw [M.cmpL_swap]; omega
  have HJ : Hid _ := rng_three (ps := ps) hri (by omega) ha0 hb0
  have HN : Hid (rng ps LB LA = []) := rng_none hri (by omega) ha0
  have HG : Hid (∀ (i : Nat) (p : P3), ps[i]? = some p → getK ps p.1 = some p) := fun i p hp => getK_at hri hp
  obtain ⟨av, cv, rfl, v1, v2, _⟩ := hr
  unfold maxLen at v2
  obtain ⟨aa, ca, rfl, a1, a2, _⟩ := hra
  obtain ⟨ab, cb, rfl, b1, b2, _⟩ := hrb
  unfold maxLen at a2 b2
  have HO : Hid _ := hopn
  clear hopn
  go_enter Try.func8, Try.ntmps8
  go_wp2_with fail
  refine (tawake_any _).mono ?_
  rintro e w1 ⟨rfl, hb1⟩
  have hbd := build_any (hrp w1 hb1) (by omega)
  rw [hbld] at hbd
  go_wp2_with fail
  refine hbd.mono ?_
  rintro e w2 ⟨v2', rfl, ho2, hb2⟩
  have hB2 : Below w.heap.size w w2 := hb1.trans (hb2.mono hb1.size)
  have hT := ho2.rd
  obtain ⟨a2', c2', rfl, t1, t2, t3, t4⟩ := ho2.rd
  clear ho2 hbd t4
  go_wp2_with fail
  refine (open_any hT (by omega)).mono ?_
  rintro e w3 ⟨hor, hb3⟩
  rcases hor with ⟨qs, t, hqs, rfl, ht⟩ | ⟨hno, _⟩
  rotate_left
  · rw [HO.out] at hno; cases hno
  rw [HO.out] at hqs
  obtain rfl := Option.some.inj hqs
  have hB3 : Below w.heap.size w w3 := hB2.trans (hb3.mono hB2.size)
  have hB3s := hB3.size
  have htb := fun W (hW : Below w3.heap.size w3 W) => ht.below hW (Nat.le_refl _)
  have ra3 := fun W (hW : Below w3.heap.size w3 W) => ra W (hB3.trans (hW.mono hB3s))
  have rb3 := fun W (hW : Below w3.heap.size w3 W) => rb W (hB3.trans (hW.mono hB3s))
  obtain ⟨tb, sv, rfl, _⟩ := ht
  clear hrp ra rb hT HO htl hb1 hb2 hb3 hB2 t1 t2 t3
  have hcf := cmp_any (rb3 w3 (Below.refl _ _)) (ra3 w3 (Below.refl _ _))
  generalize M.cmpL LB LA = z1 at *
  have hzd : decide (0 < z1) = true := decide_eq_true hz2
  go_wp2_with fail
  refine hcf.mono ?_
  rintro e w4 ⟨rfl, n4, rfl⟩
  have hB4 : Below w3.heap.size w3 (w3.drewN n4) := Below.dN w3 n4
  generalize w3.drewN n4 = w4 at *
  have hall0 := range_any (htb w4 hB4) (Rd.nil w4) (Rd.nil w4) hri (by omega)
  rw [rng_all ps] at hall0
  go_wp2_with fail
  refine hall0.mono ?_
  rintro e w5 ⟨v5, us5, rfl, ho5, hb5⟩
  have hal := fun W (hW : Below w5.heap.size w5 W) => ho5.rdq.below hW (Nat.le_refl _)
  have hB5 : Below w3.heap.size w3 w5 := hB4.trans (hb5.mono hB4.size)
  obtain ⟨a5, c5, rfl, l51, l52, l54⟩ := ho5.rdq
  unfold maxLen at l52
  have hp0 : OwQ w5.heap.size w5 (.slice none 0 0) [] [] := OwQ.nil _ _
  clear ho5 hall0 hcf l54
  have hw51 : Below w5.heap.size w5 w5 := Below.refl _ _
  have hs51 := hw51.size
  have hrg1 := range_any (htb w5 hB5) (Rd.nil _) (ra3 w5 hB5) hri (by omega)
  go_wp2_with fail
  refine hrg1.mono ?_
  rintro e x1 ⟨y1, xs1, rfl, hq1, hbx1⟩
  have hsx1 := hbx1.size
  have hrv1 := hq1.rdv
  have hlx1 : xs1.length ≤ 1048576 := by have := hq1.len; have := rng_len ps [] LA; omega
  have hrw1 := ownsRow_belW hp0.row hbx1 (Nat.le_refl _)
  obtain ⟨ay1, ny1, cy1, ey1⟩ := row_shape hq1.row
  subst ey1
  go_wp2_with (first | (at_builtin; refine wpList_appQ rfl _ _ rfl w5.heap.size (.slice none 0 0) [] rfl hrw1 _ xs1 rfl hrv1 (by omega) (by simp; omega) ?_; intro z1 q1 hoz1 hgz1 hvz1) | fail)
  obtain ⟨hp1, hbq1⟩ := OwQ.join hp0 hbx1 hq1 hs51 hoz1 hgz1 hvz1
  have hWq1 : Below w5.heap.size w5 q1 := hw51.trans hbq1
  have hBq1 : Below w3.heap.size w3 q1 := hB5.trans (hWq1.mono hB5.size)
  obtain ⟨az1, nz1, cz1, ez1⟩ := row_shape hp1.row
  subst ez1
  have hlp1 : ([] ++ xs1).length ≤ 1048576 := by rw [List.length_append]; simp; omega
  clear hrg1 hrv1 hrw1 hoz1 hgz1 hvz1 hq1 hbx1
  have hcs := cmp_any (ra3 q1 hBq1) (rb3 q1 hBq1)
  go_wp2_with fail
  refine hcs.mono ?_
  rintro e wc ⟨rfl, nc, rfl⟩
  have hWwc0 : Below w5.heap.size w5 q1 := hWq1
  have hWwc : Below w5.heap.size w5 (q1.drewN nc) := hWwc0.trans ((Below.dN q1 nc).mono hWwc0.size)
  have hBwc : Below w3.heap.size w3 (q1.drewN nc) := hB5.trans (hWwc.mono hB5.size)
  have hpc := hp1.below (Below.dN q1 nc) (Nat.le_refl _)
  generalize q1.drewN nc = wc at *
  clear hcs
  have hw52 : Below w5.heap.size w5 wc := hWwc
  have hs52 := hw52.size
  have hrg2 := range_any (htb wc hBwc) (ra3 wc hBwc) (rb3 wc hBwc) hri (by omega)
  go_wp2_with fail
  refine hrg2.mono ?_
  rintro e x2 ⟨y2, xs2, rfl, hq2, hbx2⟩
  have hsx2 := hbx2.size
  have hrv2 := hq2.rdv
  have hlx2 : xs2.length ≤ 1048576 := by have := hq2.len; have := rng_len ps LA LB; omega
  have hrw2 := ownsRow_belW hpc.row hbx2 (Nat.le_refl _)
  obtain ⟨ay2, ny2, cy2, ey2⟩ := row_shape hq2.row
  subst ey2
  go_wp2_with (first | (at_builtin; refine wpList_appQ rfl _ _ rfl w5.heap.size (.slice az1 nz1 cz1) ([] ++ xs1) rfl hrw2 _ xs2 rfl hrv2 (by omega) (by omega) ?_; intro z2 q2 hoz2 hgz2 hvz2) | fail)
  obtain ⟨hp2, hbq2⟩ := OwQ.join hpc hbx2 hq2 hs52 hoz2 hgz2 hvz2
  have hWq2 : Below w5.heap.size w5 q2 := hw52.trans hbq2
  have hBq2 : Below w3.heap.size w3 q2 := hB5.trans (hWq2.mono hB5.size)
  obtain ⟨az2, nz2, cz2, ez2⟩ := row_shape hp2.row
  subst ez2
  have hlp2 : (([] ++ xs1) ++ xs2).length ≤ 2097152 := by rw [List.length_append]; omega
  clear hrg2 hrv2 hrw2 hoz2 hgz2 hvz2 hq2 hbx2
  have hw53 : Below w5.heap.size w5 q2 := hWq2
  have hs53 := hw53.size
  have hrg3 := range_any (htb q2 hBq2) (rb3 q2 hBq2) (Rd.nil _) hri (by omega)
  go_wp2_with fail
  refine hrg3.mono ?_
  rintro e x3 ⟨y3, xs3, rfl, hq3, hbx3⟩
  have hsx3 := hbx3.size
  have hrv3 := hq3.rdv
  have hlx3 : xs3.length ≤ 1048576 := by have := hq3.len; have := rng_len ps LB []; omega
  have hrw3 := ownsRow_belW hp2.row hbx3 (Nat.le_refl _)
  obtain ⟨ay3, ny3, cy3, ey3⟩ := row_shape hq3.row
  subst ey3
  go_wp2_with (first | (at_builtin; refine wpList_appQ rfl _ _ rfl w5.heap.size (.slice az2 nz2 cz2) (([] ++ xs1) ++ xs2) rfl hrw3 _ xs3 rfl hrv3 (by omega) (by omega) ?_; intro z3 q3 hoz3 hgz3 hvz3) | fail)
  obtain ⟨hp3, hbq3⟩ := OwQ.join hp2 hbx3 hq3 hs53 hoz3 hgz3 hvz3
  have hWq3 : Below w5.heap.size w5 q3 := hw53.trans hbq3
  have hBq3 : Below w3.heap.size w3 q3 := hB5.trans (hWq3.mono hB5.size)
  obtain ⟨az3, nz3, cz3, ez3⟩ := row_shape hp3.row
  subst ez3
  have hlp3 : ((([] ++ xs1) ++ xs2) ++ xs3).length ≤ 3145728 := by rw [List.length_append]; omega
  clear hrg3 hrv3 hrw3 hoz3 hgz3 hvz3 hq3 hbx3
  have hpj : ((([] ++ rng ps [] LA) ++ rng ps LA LB) ++ rng ps LB []) = ps := by simpa using HJ.out
  have hsp := samep_any (hpj ▸ hp3.rdq) (hal q3 hWq3)
  go_wp2_with fail
  refine hsp.mono ?_
  rintro e w8 ⟨rfl, n8, rfl⟩
  have hB8 : Below w5.heap.size w5 (q3.drewN n8) := hWq3.trans ((Below.dN q3 n8).mono hWq3.size)
  generalize q3.drewN n8 = w8 at *
  clear hsp hpj hp3
  have hs35 := hB5.size
  go_wp2_with fail
  go_loopw [12, 13, 14] (fun i _ _ wr => ∃ k : Nat, k ≤ ps.length ∧ i = .int .i64 k ∧ Below w5.heap.size w5 wr) (fun i _ _ _ => ps.length - (intOf i).toNat)
  case atStart => exact ⟨0, Nat.zero_le _, rfl, hB8⟩
  case round =>
    obtain ⟨k, hk, rfl, hb⟩ := hrel
    clear hB8
    have hbs := hb.size
    have hBr : Below w3.heap.size w3 wr := hB5.trans (hb.mono hB5.size)
    by_cases hlk : k < ps.length
    · obtain ⟨p, hp⟩ : ∃ p, ps[k]? = some p := ⟨_, List.getElem?_eq_getElem hlk⟩
      have hqr := hal wr hb
      obtain ⟨ao, cx, ex, _, _, h4⟩ := hqr
      simp only [Value.slice.injEq, true_and] at ex
      obtain ⟨rfl, rfl⟩ := ex
      obtain ⟨a, u1, u2, rfl, hpa⟩ := h4 k p hp
      have hone := fun W (hW : Below w5.heap.size w5 W) => (hal W hW).one hp
      have hget := get_any (htb wr hBr) hpa.r1 hri (by omega)
      rw [HG.out k p hp] at hget
      have c0 := hpa.c0
      obtain ⟨x1, y1, rfl, _⟩ := hpa.r1
      have hki : (k : Int) < (ps.length : Int) := by omega
      clear h4 hpa hp
      go_wp2_with fail
      refine hget.mono ?_
      rintro e w9 ⟨u9, rfl, hE9, hb9⟩
      simp only [Option.getD_some] at hE9
      obtain ⟨⟨q0, q1, q2, e0⟩, q3, q4, q5, e1⟩ := hE9.sl
      obtain ⟨m0, m1, m2⟩ := u9
      simp only [] at *
      subst e0
      subst e1
      have hE10 := hE9.below (bel_al w9 (.cells #[.slice q0 q1 q2, .slice q3 q4 q5, .bool m2] 48)) (Nat.le_refl _)
      have hW10 : Below w5.heap.size w5 (w9.alloc (.cells #[.slice q0 q1 q2, .slice q3 q4 q5, .bool m2] 48)) := hb.trans ((Below.tr hb9 (bel_al w9 _)).mono hbs)
      obtain ⟨f0, f1, f2, _⟩ := cells3 (heap_alloc_new w9 (.cells #[.slice q0 q1 q2, .slice q3 q4 q5, .bool m2] 48))
      have hsz : (w9.alloc (.cells #[.slice q0 q1 q2, .slice q3 q4 q5, .bool m2] 48)).heap.size = w9.heap.size + 1 := by simp
      clear hb9 hE9 hget c0
      go_wp2_with fail
      generalize (w9.alloc (.cells #[.slice q0 q1 q2, .slice q3 q4 q5, .bool m2] 48)) = W0 at *
      have hN := rdq_one W0 (w9.heap.size + 1) hsz 48 hE10 rfl
      have hw1 : IntKind.i64.wrap ((k : Int) + 1) = (k : Int) + 1 := by rw [IntKind.wrap_i64]; omega
      have g0 : (0 : Int) ≤ (k : Int) := by omega
      have g1 : (k : Int) + 1 ≤ (c5 : Int) := by omega
      have g2 : (k : Int) ≤ (k : Int) + 1 := by omega
      have g3 : (ps.length : Int) ≤ (c5 : Int) := by omega
      have g4 : ¬ c5 = k := by omega
      have g5 : (k : Int) + 1 ≤ (ps.length : Int) := by omega
      have nn0 := World.new_ne W0 _ f0
      have nn1 := World.new_ne W0 _ f1
      have nn2 := World.new_ne W0 _ f2
      go_region_held3 (fun w' => w'.cell? ⟨w9.heap.size, 0, none⟩ = some (.slice q0 q1 q2) ∧ w'.cell? ⟨w9.heap.size, 1, none⟩ = some (.slice q3 q4 q5) ∧ w'.cell? ⟨w9.heap.size, 2, none⟩ = some (.bool m2)) (go_keep) (first
        | (go_at_call 15; refine (samep_any (ps := [p]) (RdQ.below hN (bel_drew _) (Nat.le_refl _)) (hone _ (hW10.trans ((Below.tr (bel_al W0 _) (bel_drew _)).mono hW10.size)))).mono ?_; rintro e w11 ⟨rfl, n11, rfl⟩; have s0 : ((W0.alloc (.cells #[.slice q0 q1 q2, .slice q3 q4 q5, .bool m2] 48)).drew.drewN n11).cell? ⟨w9.heap.size, 0, none⟩ = some (.slice q0 q1 q2) := keepc f0; have s1 : ((W0.alloc (.cells #[.slice q0 q1 q2, .slice q3 q4 q5, .bool m2] 48)).drew.drewN n11).cell? ⟨w9.heap.size, 1, none⟩ = some (.slice q3 q4 q5) := keepc f1; have s2 : ((W0.alloc (.cells #[.slice q0 q1 q2, .slice q3 q4 q5, .bool m2] 48)).drew.drewN n11).cell? ⟨w9.heap.size, 2, none⟩ = some (.bool m2) := keepc f2)
        | fail)
      go_wp2_with fail
      exact ⟨⟨k + 1, by omega, by go_num, hW10.trans ((Below.tr (bel_al W0 _) (Below.dN _ _)).mono hW10.size)⟩, by simp [intOf]; omega⟩
    · obtain rfl : k = ps.length := by omega
      have hlast := range_any (htb wr hBr) (rb3 wr hBr) (ra3 wr hBr) hri (by omega)
      rw [HN.out] at hlast
      go_wp2_with fail
      refine hlast.mono ?_
      rintro e w12 ⟨v12, us12, rfl, ho12, hb12⟩
      obtain ⟨a12, c12, rfl, _⟩ := ho12.rdq
      simp only [List.length_nil] at *
      go_wp2_with fail
      go_ret
      exact ⟨rfl, hB3.trans ((hBr.trans (hb12.mono hBr.size)).mono hB3s)⟩

end Go.Proofs.Ytdfhhliapcdebaa

/- The walk of TableRanges: some of its cases. -/
namespace Go.Proofs.Ytdfhhliapcdebaa
open Go.RowKit
set_option linter.unusedVariables false
set_option maxRecDepth 100000

set_option maxHeartbeats 1000000 in
theorem ranges_n1 {v va vb : Value} {ps : List P3}  {w : World} (hr : RdQ w v ps) (hl : totP ps ≤ 1048576) (hri : M.ris ps = true) (hra : Rd w va []) (hrb : Rd w vb [])  :
    Calls Try.prog 8 #[v, va, vb] w fun e w' => e = .returned (.bool true) ∧ Below w.heap.size w w' := by
  have hrp := fun W (hW : Below w.heap.size w W) => hr.below hW (Nat.le_refl _)
  have ra := fun W (hW : Below w.heap.size w W) => hra.below hW (Nat.le_refl _)
  have rb := fun W (hW : Below w.heap.size w W) => hrb.below hW (Nat.le_refl _)
  have hbld : M.bld ps = (M.tab ps, 0) := by unfold M.bld; rw [if_pos hri]
  have hopn := opn_tab ps hri (by omega)
  have htl := tab_len ps
  have hpl := totP_len ps
  have hz1 : M.cmpL [] [] = 0 := M.cmpL_self _
  have HJ : Hid _ := rng_all ps
  have HG : Hid (∀ (i : Nat) (p : P3), ps[i]? = some p → getK ps p.1 = some p) := fun i p hp => getK_at hri hp
  obtain ⟨av, cv, rfl, v1, v2, _⟩ := hr
  unfold maxLen at v2
  obtain ⟨aa, ca, rfl, a1, a2, _⟩ := hra
  obtain ⟨ab, cb, rfl, b1, b2, _⟩ := hrb
  unfold maxLen at a2 b2
  have HO : Hid _ := hopn
  clear hopn
  try simp only [List.length_nil] at *
  go_enter Try.func8, Try.ntmps8
  go_wp2_with fail
  refine (tawake_any _).mono ?_
  rintro e w1 ⟨rfl, hb1⟩
  have hbd := build_any (hrp w1 hb1) (by omega)
  rw [hbld] at hbd
  go_wp2_with fail
  refine hbd.mono ?_
  rintro e w2 ⟨v2', rfl, ho2, hb2⟩
  have hB2 : Below w.heap.size w w2 := hb1.trans (hb2.mono hb1.size)
  have hT := ho2.rd
  obtain ⟨a2', c2', rfl, t1, t2, t3, t4⟩ := ho2.rd
  clear ho2 hbd t4
  go_wp2_with fail
  refine (open_any hT (by omega)).mono ?_
  rintro e w3 ⟨hor, hb3⟩
  rcases hor with ⟨qs, t, hqs, rfl, ht⟩ | ⟨hno, _⟩
  rotate_left
  · rw [HO.out] at hno; cases hno
  rw [HO.out] at hqs
  obtain rfl := Option.some.inj hqs
  have hB3 : Below w.heap.size w w3 := hB2.trans (hb3.mono hB2.size)
  have hB3s := hB3.size
  have htb := fun W (hW : Below w3.heap.size w3 W) => ht.below hW (Nat.le_refl _)
  have ra3 := fun W (hW : Below w3.heap.size w3 W) => ra W (hB3.trans (hW.mono hB3s))
  have rb3 := fun W (hW : Below w3.heap.size w3 W) => rb W (hB3.trans (hW.mono hB3s))
  obtain ⟨tb, sv, rfl, _⟩ := ht
  clear hrp ra rb hT HO htl hb1 hb2 hb3 hB2 t1 t2 t3
  have hcf := cmp_any (ra3 w3 (Below.refl _ _)) (rb3 w3 (Below.refl _ _))
  rw [hz1] at hcf
  go_wp2_with fail
  refine hcf.mono ?_
  rintro e w4 ⟨rfl, n4, rfl⟩
  have hB4 : Below w3.heap.size w3 (w3.drewN n4) := Below.dN w3 n4
  generalize w3.drewN n4 = w4 at *
  have hall0 := range_any (htb w4 hB4) (Rd.nil w4) (Rd.nil w4) hri (by omega)
  rw [rng_all ps] at hall0
  go_wp2_with fail
  refine hall0.mono ?_
  rintro e w5 ⟨v5, us5, rfl, ho5, hb5⟩
  have hal := fun W (hW : Below w5.heap.size w5 W) => ho5.rdq.below hW (Nat.le_refl _)
  have hB5 : Below w3.heap.size w3 w5 := hB4.trans (hb5.mono hB4.size)
  obtain ⟨a5, c5, rfl, l51, l52, l54⟩ := ho5.rdq
  unfold maxLen at l52
  have hp0 : OwQ w5.heap.size w5 (.slice none 0 0) [] [] := OwQ.nil _ _
  clear ho5 hall0 hcf l54
  have hw51 : Below w5.heap.size w5 w5 := Below.refl _ _
  have hs51 := hw51.size
  have hrg1 := range_any (htb w5 hB5) (rb3 w5 hB5) (Rd.nil _) hri (by omega)
  go_wp2_with fail
  refine hrg1.mono ?_
  rintro e x1 ⟨y1, xs1, rfl, hq1, hbx1⟩
  have hsx1 := hbx1.size
  have hrv1 := hq1.rdv
  have hlx1 : xs1.length ≤ 1048576 := by have := hq1.len; have := rng_len ps [] []; omega
  have hrw1 := ownsRow_belW hp0.row hbx1 (Nat.le_refl _)
  obtain ⟨ay1, ny1, cy1, ey1⟩ := row_shape hq1.row
  subst ey1
  go_wp2_with (first | (at_builtin; refine wpList_appQ rfl _ _ rfl w5.heap.size (.slice none 0 0) [] rfl hrw1 _ xs1 rfl hrv1 (by omega) (by simp; omega) ?_; intro z1 q1 hoz1 hgz1 hvz1) | fail)
  obtain ⟨hp1, hbq1⟩ := OwQ.join hp0 hbx1 hq1 hs51 hoz1 hgz1 hvz1
  have hWq1 : Below w5.heap.size w5 q1 := hw51.trans hbq1
  have hBq1 : Below w3.heap.size w3 q1 := hB5.trans (hWq1.mono hB5.size)
  obtain ⟨az1, nz1, cz1, ez1⟩ := row_shape hp1.row
  subst ez1
  have hlp1 : ([] ++ xs1).length ≤ 1048576 := by rw [List.length_append]; simp; omega
  clear hrg1 hrv1 hrw1 hoz1 hgz1 hvz1 hq1 hbx1
  have hpj : ([] ++ rng ps [] []) = ps := by simpa using HJ.out
  have hsp := samep_any (hpj ▸ hp1.rdq) (hal q1 hWq1)
  go_wp2_with fail
  refine hsp.mono ?_
  rintro e w8 ⟨rfl, n8, rfl⟩
  have hB8 : Below w5.heap.size w5 (q1.drewN n8) := hWq1.trans ((Below.dN q1 n8).mono hWq1.size)
  generalize q1.drewN n8 = w8 at *
  clear hsp hpj hp1
  have hs35 := hB5.size
  go_wp2_with fail
  go_loopw [12, 13, 14] (fun i _ _ wr => ∃ k : Nat, k ≤ ps.length ∧ i = .int .i64 k ∧ Below w5.heap.size w5 wr) (fun i _ _ _ => ps.length - (intOf i).toNat)
  case atStart => exact ⟨0, Nat.zero_le _, rfl, hB8⟩
  case round =>
    obtain ⟨k, hk, rfl, hb⟩ := hrel
    clear hB8
    have hbs := hb.size
    have hBr : Below w3.heap.size w3 wr := hB5.trans (hb.mono hB5.size)
    by_cases hlk : k < ps.length
    · obtain ⟨p, hp⟩ : ∃ p, ps[k]? = some p := ⟨_, List.getElem?_eq_getElem hlk⟩
      have hqr := hal wr hb
      obtain ⟨ao, cx, ex, _, _, h4⟩ := hqr
      simp only [Value.slice.injEq, true_and] at ex
      obtain ⟨rfl, rfl⟩ := ex
      obtain ⟨a, u1, u2, rfl, hpa⟩ := h4 k p hp
      have hone := fun W (hW : Below w5.heap.size w5 W) => (hal W hW).one hp
      have hget := get_any (htb wr hBr) hpa.r1 hri (by omega)
      rw [HG.out k p hp] at hget
      have c0 := hpa.c0
      obtain ⟨x1, y1, rfl, _⟩ := hpa.r1
      have hki : (k : Int) < (ps.length : Int) := by omega
      clear h4 hpa hp
      go_wp2_with fail
      refine hget.mono ?_
      rintro e w9 ⟨u9, rfl, hE9, hb9⟩
      simp only [Option.getD_some] at hE9
      obtain ⟨⟨q0, q1, q2, e0⟩, q3, q4, q5, e1⟩ := hE9.sl
      obtain ⟨m0, m1, m2⟩ := u9
      simp only [] at *
      subst e0
      subst e1
      have hE10 := hE9.below (bel_al w9 (.cells #[.slice q0 q1 q2, .slice q3 q4 q5, .bool m2] 48)) (Nat.le_refl _)
      have hW10 : Below w5.heap.size w5 (w9.alloc (.cells #[.slice q0 q1 q2, .slice q3 q4 q5, .bool m2] 48)) := hb.trans ((Below.tr hb9 (bel_al w9 _)).mono hbs)
      obtain ⟨f0, f1, f2, _⟩ := cells3 (heap_alloc_new w9 (.cells #[.slice q0 q1 q2, .slice q3 q4 q5, .bool m2] 48))
      have hsz : (w9.alloc (.cells #[.slice q0 q1 q2, .slice q3 q4 q5, .bool m2] 48)).heap.size = w9.heap.size + 1 := by simp
      clear hb9 hE9 hget c0
      go_wp2_with fail
      generalize (w9.alloc (.cells #[.slice q0 q1 q2, .slice q3 q4 q5, .bool m2] 48)) = W0 at *
      have hN := rdq_one W0 (w9.heap.size + 1) hsz 48 hE10 rfl
      have hw1 : IntKind.i64.wrap ((k : Int) + 1) = (k : Int) + 1 := by rw [IntKind.wrap_i64]; omega
      have g0 : (0 : Int) ≤ (k : Int) := by omega
      have g1 : (k : Int) + 1 ≤ (c5 : Int) := by omega
      have g2 : (k : Int) ≤ (k : Int) + 1 := by omega
      have g3 : (ps.length : Int) ≤ (c5 : Int) := by omega
      have g4 : ¬ c5 = k := by omega
      have g5 : (k : Int) + 1 ≤ (ps.length : Int) := by omega
      have nn0 := World.new_ne W0 _ f0
      have nn1 := World.new_ne W0 _ f1
      have nn2 := World.new_ne W0 _ f2
      go_region_held3 (fun w' => w'.cell? ⟨w9.heap.size, 0, none⟩ = some (.slice q0 q1 q2) ∧ w'.cell? ⟨w9.heap.size, 1, none⟩ = some (.slice q3 q4 q5) ∧ w'.cell? ⟨w9.heap.size, 2, none⟩ = some (.bool m2)) (go_keep) (first
        | (go_at_call 15; refine (samep_any (ps := [p]) (RdQ.below hN (bel_drew _) (Nat.le_refl _)) (hone _ (hW10.trans ((Below.tr (bel_al W0 _) (bel_drew _)).mono hW10.size)))).mono ?_; rintro e w11 ⟨rfl, n11, rfl⟩; have s0 : ((W0.alloc (.cells #[.slice q0 q1 q2, .slice q3 q4 q5, .bool m2] 48)).drew.drewN n11).cell? ⟨w9.heap.size, 0, none⟩ = some (.slice q0 q1 q2) := keepc f0; have s1 : ((W0.alloc (.cells #[.slice q0 q1 q2, .slice q3 q4 q5, .bool m2] 48)).drew.drewN n11).cell? ⟨w9.heap.size, 1, none⟩ = some (.slice q3 q4 q5) := keepc f1; have s2 : ((W0.alloc (.cells #[.slice q0 q1 q2, .slice q3 q4 q5, .bool m2] 48)).drew.drewN n11).cell? ⟨w9.heap.size, 2, none⟩ = some (.bool m2) := keepc f2)
        | fail)
      go_wp2_with fail
      exact ⟨⟨k + 1, by omega, by go_num, hW10.trans ((Below.tr (bel_al W0 _) (Below.dN _ _)).mono hW10.size)⟩, by simp [intOf]; omega⟩
    · obtain rfl : k = ps.length := by omega
      have hlast := range_any (htb wr hBr) (rb3 wr hBr) (ra3 wr hBr) hri (by omega)
      go_wp2_with fail
      refine hlast.mono ?_
      rintro e w12 ⟨v12, us12, rfl, ho12, hb12⟩
      obtain ⟨a12, n12, c12, e12⟩ := row_shape ho12.row
      subst e12
      have hfin := hB3.trans ((hBr.trans (hb12.mono hBr.size)).mono hB3s)
      clear ho12
      cases hn : ((n12 : Int) == 0)
      all_goals
        go_wp2_with fail
        go_ret
        exact ⟨rfl, hfin⟩

end Go.Proofs.Ytdfhhliapcdebaa

/- The walk of TableRanges, all cases together. -/
namespace Go.Proofs.Ytdfhhliapcdebaa
open Go.RowKit
set_option linter.unusedVariables false
set_option maxRecDepth 100000

theorem ranges_no {v va vb : Value} {ps : List P3} {la lb : List UInt8} {w : World} (hr : RdQ w v ps) (hl : totP ps ≤ 1048576) (hri : M.ris ps = false) (hra : Rd w va la) (hrb : Rd w vb lb) :
    Calls Try.prog 8 #[v, va, vb] w fun e w' => e = .returned (.bool true) ∧ Below w.heap.size w w' := by
  have hrp := fun W (hW : Below w.heap.size w W) => hr.below hW (Nat.le_refl _)
  have hbld : M.bld ps = ([], 51) := by unfold M.bld; rw [hri]; rfl
  obtain ⟨av, cv, rfl, _⟩ := hr
  obtain ⟨aa, ca, rfl, _⟩ := hra
  obtain ⟨ab, cb, rfl, _⟩ := hrb
  go_enter Try.func8, Try.ntmps8
  go_wp2_with fail
  refine (tawake_any _).mono ?_
  rintro e w1 ⟨rfl, hb1⟩
  have hbd := build_any (hrp w1 hb1) (by omega)
  rw [hbld] at hbd
  go_wp2_with fail
  refine hbd.mono ?_
  rintro e w2 ⟨v2, rfl, ho2, hb2⟩
  go_wp2_with fail
  go_ret
  exact ⟨rfl, hb1.trans (hb2.mono hb1.size)⟩

theorem ranges_walk {v va vb : Value} {ps : List P3} {la lb : List UInt8} {w : World} (hr : RdQ w v ps) (hl : totP ps ≤ 1048576) (hra : Rd w va la) (hla : la.length ≤ 1048576) (hrb : Rd w vb lb) (hlb : lb.length ≤ 1048576) :
    Calls Try.prog 8 #[v, va, vb] w fun e w' => e = .returned (.bool true) ∧ Below w.heap.size w w' := by
  by_cases hri : M.ris ps = true
  · have hs := M.cmpL_swap la lb
    by_cases h0 : M.cmpL la lb = 0
    · obtain rfl := M.cmpL_zero h0
      by_cases ha : la = []
      · subst ha
        exact ranges_n1 hr hl hri hra hrb
      · exact ranges_n4 hr hl hri hra hrb hla (List.length_pos_iff.2 ha)
    · by_cases hlt : M.cmpL la lb < 0
      · have hb : lb ≠ [] := by rintro rfl; cases la <;> simp [M.cmpL] at hlt
        by_cases ha : la = []
        · subst ha
          exact ranges_n2 hr hl hri hra hrb hlb (List.length_pos_iff.2 hb)
        · exact ranges_n3 hr hl hri hra hrb hla hlb (List.length_pos_iff.2 ha) (List.length_pos_iff.2 hb) hlt
      · have hlt2 : M.cmpL lb la < 0 := by omega
        have ha : la ≠ [] := by rintro rfl; cases lb <;> simp [M.cmpL] at hlt2
        by_cases hb : lb = []
        · subst hb
          exact ranges_s2 hr hl hri hrb hra hla (List.length_pos_iff.2 ha)
        · exact ranges_s3 hr hl hri hrb hra hlb hla (List.length_pos_iff.2 hb) (List.length_pos_iff.2 ha) hlt2
  · exact ranges_no hr hl (by simpa using hri) hra hrb
end Go.Proofs.Ytdfhhliapcdebaa
