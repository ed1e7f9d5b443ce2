/- How long what is read as a number is. -/
import Derived.Test.YtgienommkifbnaaG2
import Derived.Lib.SlBytesConst
import Derived.Test.YtgienommkifbnaaG1
import Derived.Lib.AppendZerosOnto
import Derived.Lib.Walk
import Derived.Lib.SliceRun
namespace Go.Proofs.Ytgienommkifbnaa
open Go.RowKit
set_option linter.unusedVariables false
set_option maxRecDepth 100000

theorem Ow.drewN {B : Nat} {w : World} {v : Value} {l : List UInt8} (h : Ow B w v l) (n : Nat) : Ow B (w.drewN n) v l := h.below (below_drewN (Below.refl _ _) n) (Nat.le_refl _)
theorem Below.dN (w : World) (n : Nat) : Below w.heap.size w (w.drewN n) := below_drewN (Below.refl _ _) n
theorem vi_len (n : Nat) : (M.vi n).length ≤ 10 := M.viF_length 9 n
theorem tv_lt (l : List UInt8) : (M.tv l).1 < 18446744073709551616 := by
  unfold M.tv
  simp only []
  have hle := M.cont_le 10 l
  split
  · decide
  · split
    · decide
    · split
      · decide
      · rename_i h1 h2 h3
        simp only []
        have hv := M.val_lt (l.take (M.cont 10 l))
        rw [List.length_take, Nat.min_eq_left (by omega)] at hv
        rw [take_snoc l _ (by omega), M.val_append, List.length_take, Nat.min_eq_left (by omega)]
        simp only [M.val, Nat.mul_zero, Nat.add_zero]
        have eg : l.getD (M.cont 10 l) 0 = l[M.cont 10 l]'(by omega) := by simp [show M.cont 10 l < l.length by omega]
        rw [eg] at h3
        have hx9 : M.cont 10 l = 9 → (l[M.cont 10 l]'(by omega)).toNat ≤ 1 := fun h => by omega
        clear h3 eg
        generalize (l[M.cont 10 l]'(by omega)).toNat = x at *
        by_cases h9 : M.cont 10 l = 9
        · have hx1 := hx9 h9
          have h63 : (128 : Nat) ^ M.cont 10 l = 9223372036854775808 := by rw [h9]
          rw [h63]
          rw [h63] at hv
          have : x % 128 ≤ 1 := by omega
          omega
        · have hp := Nat.pow_le_pow_right (n := 128) (by decide) (show M.cont 10 l ≤ 8 by omega)
          have h56 : (128 : Nat) ^ 8 = 72057594037927936 := by decide
          rw [h56] at hp
          have := Nat.mul_le_mul hp (show x % 128 ≤ 127 by omega)
          omega
theorem tv_len (l : List UInt8) : (M.tv l).2.1.length ≤ l.length := by
  unfold M.tv
  simp only []
  split
  · simp
  · split
    · simp
    · split
      · simp
      · simp
end Go.Proofs.Ytgienommkifbnaa

/- Lists of byte slices in memory. -/
namespace Go.Proofs.Ytgienommkifbnaa
open Go.RowKit
set_option linter.unusedVariables false
set_option maxRecDepth 100000

/-- The slice value v reads as these texts. -/
def Rds (w : World) (v : Value) (ls : List (List UInt8)) : Prop :=
  ∃ ao c, v = .slice ao ls.length c ∧ ls.length ≤ c ∧ c ≤ maxLen ∧ ∀ i, (h : i < ls.length) → ∃ a u, ao = some a ∧ w.cell? (a.add i) = some u ∧ Rd w u ls[i]

theorem Rds.below {B : Nat} {w w' : World} {v : Value} {ls : List (List UInt8)} (h : Rds w v ls) (hb : Below B w w') (hB : w.heap.size ≤ B) : Rds w' v ls := by
  obtain ⟨ao, c, h0, h1, h2, h4⟩ := h
  refine ⟨ao, c, h0, h1, h2, fun i hi => ?_⟩
  obtain ⟨a, u, e, hc, hr⟩ := h4 i hi
  have hlt := World.block_lt_of_cell? w _ hc
  exact ⟨a, u, e, by rw [hb.cell (by omega)]; exact hc, hr.below hb hB⟩
end Go.Proofs.Ytgienommkifbnaa

/- Lists of byte slices that are the call's own: the row and each of its texts in a block of its own. -/
namespace Go.Proofs.Ytgienommkifbnaa
open Go.RowKit
set_option linter.unusedVariables false
set_option maxRecDepth 100000

/-- An operation whose guard lets it by is carried out as one without a guard. -/
theorem wpList_unguard {P : Program} {w : World} {ops : Array Oper} {rest : List Oper} {o : Oper} {a : Act} {Q : Exit → Act → World → Prop} (hw : Region.wanted o (yielded ops a.tmps) = true) (h : wpList P ops Q ({ o with guard := none } :: rest) a w) : wpList P ops Q (o :: rest) a w := by
  unfold wpList at h ⊢
  rw [if_pos hw]
  rw [if_pos (by rfl)] at h
  exact h

/-- A slice of slices of the call's own, from block B on. -/
structure Ows (B : Nat) (w : World) (v : Value) (ls : List (List UInt8)) (us : List Value) : Prop where
  row : w.ownsRow B 26 1 v us.length us
  len : us.length = ls.length
  el : ∀ (i : Nat) (u : Value) (l : List UInt8), us[i]? = some u → ls[i]? = some l → Ow B w u l
  off : ∀ u ∈ us, ∀ b, u.ownBlock = some b → v.ownBlock ≠ some b
  sep : us.Pairwise Apart

theorem Ows.nil (B : Nat) (w : World) : Ows B w (.slice none 0 0) [] [] := ⟨World.ownsRow_nil _ _ _ _, rfl, by simp, by simp, .nil⟩

theorem ownsRow_bel {B C n : Nat} {e : TypeId} {w w' : World} {v : Value} {xs : List Value} (h : w.ownsRow B e 1 v n xs) (hb : Below C w w') (hC : w.heap.size ≤ C) : w'.ownsRow B e 1 v n xs := by
  obtain ⟨h1, h2⟩ := h
  refine ⟨h1, ?_⟩
  rcases h2 with h2 | ⟨g, cap, cur, hv, hg, hh, r⟩
  · exact .inl h2
  · refine .inr ⟨g, cap, cur, hv, hg, ?_, r⟩
    have hlt : g < w.heap.size := (Array.getElem?_eq_some_iff.1 hh).1
    rw [hb.block g (by omega)]; exact hh

theorem Ows.below {B C : Nat} {w w' : World} {v : Value} {ls : List (List UInt8)} {us : List Value} (h : Ows B w v ls us) (hb : Below C w w') (hC : w.heap.size ≤ C) : Ows B w' v ls us :=
  ⟨ownsRow_bel h.row hb hC, h.len, fun i u l e1 e2 => (h.el i u l e1 e2).below hb hC, h.off, h.sep⟩

theorem Ows.elem {B : Nat} {w : World} {v : Value} {ls : List (List UInt8)} {us : List Value} (h : Ows B w v ls us) (u : Value) (hu : u ∈ us) : ∃ l, Ow B w u l := by
  obtain ⟨i, hi, rfl⟩ := List.getElem_of_mem hu
  have hi' : i < ls.length := by have := h.len; omega
  exact ⟨ls[i], h.el i _ _ (by simp [hi]) (by simp [hi'])⟩

theorem cell_new1 (w : World) (v : Value) (t : TypeId) : (w.alloc (.cells #[v] t)).cell? ⟨w.heap.size, 0, none⟩ = some v := by
  rw [World.cell?_alloc_at _ _ _ _ rfl]; rfl
theorem Ow.shape {B : Nat} {w : World} {v : Value} {l : List UInt8} (h : Ow B w v l) : ∃ a c, v = .slice a l.length c := by
  obtain ⟨ao, c, e, _⟩ := h.rd
  exact ⟨_, _, e⟩

/-- One text more, in a new block. -/
theorem Ows.snoc {B C : Nat} {w w2 w3 : World} {v v' u : Value} {ls : List (List UInt8)} {us : List Value} {l : List UInt8} {o : Obj} (h : Ows B w v ls us) (hb : Below C w w2) (hC : w.heap.size ≤ C) (hu : Ow w.heap.size w2 u l) (hB : B ≤ w.heap.size)
    (hrow : w3.ownsRow B 26 1 v' (us.length + 1) (us ++ [u])) (hg : (w2.alloc o).grownBy w3 v.ownBlock) (hv : v'.ownBlock = v.ownBlock ∨ v'.ownBlock = some (w2.alloc o).heap.size) : Ows B w3 v' (ls ++ [l]) (us ++ [u]) := by
  have h2 := h.below hb hC
  have hlt : ∀ b, u.ownBlock = some b → w.heap.size ≤ b ∧ b < w2.heap.size := fun b e => World.ownsRow.lt hu b e
  have hvlt : ∀ b, v.ownBlock = some b → b < w.heap.size := fun b e => (World.ownsRow.lt h.row b e).2
  have huv : ∀ b, u.ownBlock = some b → v.ownBlock ≠ some b := fun b e q => by have := hlt b e; have := hvlt b q; omega
  have kp : ∀ (x : Value) (m : List UInt8) (D : Nat), Ow D w2 x m → (∀ b, x.ownBlock = some b → v.ownBlock ≠ some b) → Ow D w3 x m := by
    intro x m D hx hne
    refine World.ownsRow.kept (hx.alloc o) hg ?_
    by_cases e : x.ownBlock = none
    · exact .inl e
    · obtain ⟨b, hb⟩ := Option.ne_none_iff_exists'.1 e
      exact .inr (fun q => hne b hb (by rw [← q]; exact hb))
  refine ⟨by simpa using hrow, by simp [h.len], ?_, ?_, ?_⟩
  · intro i x m e1 e2
    have hlen := h.len
    by_cases hi : i < us.length
    · rw [List.getElem?_append_left hi] at e1
      rw [List.getElem?_append_left (by omega)] at e2
      have hm : x ∈ us := List.mem_of_getElem? e1
      exact kp x m B (h2.el i x m e1 e2) (fun b e => h.off x hm b e)
    · rw [List.getElem?_append_right (by omega)] at e1
      rw [List.getElem?_append_right (by omega)] at e2
      rw [List.getElem?_singleton] at e1 e2
      split at e1
      · rename_i h0
        rw [if_pos (by omega)] at e2
        obtain rfl := Option.some.inj e1
        obtain rfl := Option.some.inj e2
        exact (kp u l _ hu huv).mono hB
      · cases e1
  · intro x hx b e
    have hxlt : b < w2.heap.size ∧ v.ownBlock ≠ some b := by
      rcases List.mem_append.1 hx with hx | hx
      · obtain ⟨m, hm⟩ := h2.elem x hx
        exact ⟨(World.ownsRow.lt hm b e).2, h.off x hx b e⟩
      · obtain rfl := List.mem_singleton.1 hx
        exact ⟨(hlt b e).2, huv b e⟩
    rcases hv with q | q
    · rw [q]; exact hxlt.2
    · rw [q]
      intro q2
      have := Option.some.inj q2
      simp at this
      omega
  · rw [List.pairwise_append]
    refine ⟨h.sep, List.pairwise_singleton .., fun a ha x hx => ?_⟩
    obtain rfl := List.mem_singleton.1 hx
    obtain ⟨m, hm⟩ := h.elem a ha
    exact hm.apart hu (Nat.le_refl _)

theorem Rd.grown {w w' : World} {r : Option Nat} {v : Value} {l : List UInt8} (h : Rd w v l) (hg : w.grownBy w' r) (hne : ∀ b, v.ownBlock = some b → r ≠ some b) : Rd w' v l := by
  obtain ⟨ao, c, rfl, h1, h2, h3, h4⟩ := h
  refine ⟨ao, c, rfl, h1, h2, h3, fun i hi => ?_⟩
  obtain ⟨a, rfl, hc⟩ := h4 i hi
  have hlt := World.block_lt_of_cell? w _ hc
  rw [add_block] at hlt
  refine ⟨a, rfl, ?_⟩
  rw [World.cell?_of_block (w := w) (by rw [add_block]; exact hg.block a.block hlt (fun e => hne a.block rfl e.symm))]
  exact hc

theorem Ows.rds {B : Nat} {w : World} {v : Value} {ls : List (List UInt8)} {us : List Value} (h : Ows B w v ls us) : Rds w v ls := by
  have hlen := h.len
  have hrow := h.row
  rcases hrow.2 with ⟨hv, h0⟩ | ⟨g, cap, cur, hv, hg, hh, hn, hcap, hsz, htake⟩
  · have : ls = [] := List.length_eq_zero_iff.1 (by omega)
    subst this
    exact ⟨none, 0, hv, by simp, by simp, fun i hi => by simp at hi⟩
  · refine ⟨some ⟨g, 0, none⟩, cap, by rw [hv, hlen], by omega, hcap, fun i hi => ?_⟩
    have hiu : i < us.length := by omega
    refine ⟨⟨g, 0, none⟩, us[i], rfl, ?_, (h.el i us[i] ls[i] (by simp [hiu]) (by simp [hi])).rd⟩
    rw [Addr.add_lit, Nat.zero_add]
    subst hv
    rw [hrow.cellAt i (by omega)]
    simp [hiu]
end Go.Proofs.Ytgienommkifbnaa

/- What the document's own Row answers of any fields. -/
namespace Go.Proofs.Ytgienommkifbnaa
open Go.RowKit
set_option linter.unusedVariables false
set_option maxRecDepth 100000

set_option maxHeartbeats 1000000 in
theorem rrow_any {v : Value} {ls : List (List UInt8)} {w : World} (hr : Rds w v ls) (hl : (M.row ls).length ≤ 1099511627776) (hn : ls.length ≤ 1099511627776) :
    Calls Try.prog 68 #[v] w fun e w' => ∃ v', e = .returned v' ∧ Ow w.heap.size w' v' (M.row ls) ∧ Below w.heap.size w w' := by
  obtain ⟨ao, c, rfl, h1, h2, h4⟩ := hr
  unfold maxLen at h2
  have hvl := vi_len ls.length
  have hrl : (M.rowB ls).length ≤ 1099511627776 := by simp [M.row] at hl; omega
  clear hl
  go_enter Try.func68, Try.ntmps68
  go_wp2_with fail
  refine (rvarint_any ls.length _ (by omega)).mono ?_
  rintro e w1 ⟨v1, rfl, ho1, hb1⟩
  go_wp2_with fail
  go_loopw [3, 4] (fun out i wr => ∃ k : Nat, k ≤ ls.length ∧ i = .int .i64 k ∧ Ow w.heap.size wr out (M.vi ls.length ++ M.rowB (ls.take k)) ∧ Below w.heap.size w wr) (fun _ i _ => ls.length - (intOf i).toNat)
  case atStart => exact ⟨0, Nat.zero_le _, rfl, by simpa [M.rowB] using ho1, hb1⟩
  case round =>
    obtain ⟨k, hk, rfl, ho, hb⟩ := hrel
    clear ho1 hb1
    have hB := hb.size
    by_cases hlt : k < ls.length
    · obtain ⟨a, u, rfl, hc, hru⟩ := h4 k hlt
      have hcx : wr.cell? (a.add k) = some u := by rw [hb.cell (World.block_lt_of_cell? w _ hc)]; exact hc
      have hfl := M.rowB_field ls k hlt
      have hvf := vi_len ls[k].length
      have hsn := M.rowB_snoc ls k hlt
      have HSN : Hid _ := hsn
      have hru' := hru
      obtain ⟨au, cu, rfl, u1, u2, _, _⟩ := hru
      unfold maxLen at u2
      have hdl : (M.vi ls.length ++ M.rowB (ls.take k)).length + (M.vi ls[k].length).length + ls[k].length ≤ 1099511628000 := by simp only [List.length_append]; omega
      have HC3 : Hid (∀ W, Below w.heap.size w W → W.cell? (a.add k) = some (.slice au ls[k].length cu)) := fun W hW => by rw [hW.cell (World.block_lt_of_cell? w _ hc)]; exact hc
      generalize hcur : M.vi ls.length ++ M.rowB (ls.take k) = cur at *
      generalize hfk : ls[k] = fk at *
      have HC : Hid _ := And.intro hcur hfk
      clear hcur hsn hfl hc h4
      go_wp2_with fail
      refine (rvarint_any fk.length _ (by omega)).mono ?_
      rintro e w2 ⟨v2, rfl, ho2, hb2⟩
      have ho' := ho.below hb2 (Nat.le_refl _)
      have hb' : Below w.heap.size w w2 := hb.trans (hb2.mono hB)
      have hB2 := hb'.size
      go_wp2_with (first | (at_builtin; refine wpList_app rfl _ _ rfl w.heap.size _ cur rfl ho' _ (M.vi fk.length) rfl ho2.rd hB2 (by omega) ?_; intro v3 w3 ho3 hb3 hg3; have hc3 := HC3.out w3 (hb'.trans hb3)) | (at_builtin; refine wpList_app rfl _ _ rfl w.heap.size _ (cur ++ M.vi fk.length) rfl ho3 _ fk rfl ?r1 ?r2 ?r3 ?_; rotate_right; intro v4 w4 ho4 hb4 hg4) | fail)
      case r1 => exact hru'.below (hb'.trans hb3) (Nat.le_refl _)
      case r2 => exact (hb'.trans hb3).size
      case r3 => rw [List.length_append]; omega
      refine ⟨⟨k + 1, by omega, by go_num, ?_, (hb'.trans hb3).trans hb4⟩, by simp [intOf]; omega⟩
      have e : M.vi ls.length ++ M.rowB (ls.take (k + 1)) = cur ++ M.vi fk.length ++ fk := by
        rw [HSN.out, ← HC.out.1]; simp
      rw [e]; exact ho4
    · obtain rfl : k = ls.length := by omega
      go_wp2_with fail
      go_ret
      refine ⟨_, rfl, ?_, hb⟩
      rw [List.take_of_length_le (Nat.le_refl _)] at ho
      exact ho
end Go.Proofs.Ytgienommkifbnaa

/- What the document's own TakeVarint answers of any bytes. -/
namespace Go.Proofs.Ytgienommkifbnaa
open Go.RowKit
set_option linter.unusedVariables false
set_option maxRecDepth 100000

/-- What is to be read where the bytes end at s. -/
theorem rtv_step (l : List UInt8) (s k : Nat) (hk : k ≤ s) (hs : s < 10) (hl : s < l.length) (h9 : s = 9 → l[s].toNat ≤ 1) :
    M.val ((l.take (s + 1)).drop (k + 1)) * 128 + (l[k]'(by omega)).toNat % 128 = M.val ((l.take (s + 1)).drop k) ∧ M.val ((l.take (s + 1)).drop (k + 1)) < 144115188075855872 := by
  have hkl : k < (l.take (s + 1)).length := by simp; omega
  constructor
  · rw [List.drop_eq_getElem_cons hkl, M.val]
    simp only [List.getElem_take]
    omega
  · have hlen : ((l.take (s + 1)).drop (k + 1)).length = s - k := by simp; omega
    by_cases h : s = 9 ∧ k = 0
    · obtain ⟨rfl, rfl⟩ := h
      have h1 := h9 rfl
      have e : (l.take (9 + 1)).drop (0 + 1) = ((l.take 9).drop 1) ++ [l[9]] := by
        rw [take_snoc l 9 hl, List.drop_append_of_le_length (by simp; omega)]
      rw [e, M.val_append]
      have hv := M.val_lt ((l.take 9).drop 1)
      have hl8 : ((l.take 9).drop 1).length = 8 := by simp; omega
      rw [hl8] at hv ⊢
      simp only [M.val, Nat.mul_zero, Nat.add_zero]
      have h56 : (128 : Nat) ^ 8 = 72057594037927936 := by decide
      rw [h56] at hv ⊢
      have : l[9].toNat % 128 ≤ 1 := by omega
      omega
    · have hv := M.val_lt ((l.take (s + 1)).drop (k + 1))
      rw [hlen] at hv
      have := Nat.pow_le_pow_right (n := 128) (by decide) (show s - k ≤ 8 by omega)
      have h56 : (128 : Nat) ^ 8 = 72057594037927936 := by decide
      omega

theorem tv_cases (l : List UInt8) : (M.cont 10 l = 10 ∧ M.tv l = (0, [], 12)) ∨ (M.cont 10 l < 10 ∧ l.length = M.cont 10 l ∧ M.tv l = (0, [], 10)) ∨ ∃ s, M.cont 10 l = s ∧ s < 10 ∧ ∃ h : s < l.length,
    ((0 < s ∧ l[s].toNat = 0 ∨ s = 9 ∧ 1 < l[s].toNat) ∧ M.tv l = (0, [], 12)) ∨ (¬ (0 < s ∧ l[s].toNat = 0 ∨ s = 9 ∧ 1 < l[s].toNat) ∧ M.tv l = (M.val (l.take (s + 1)), l.drop (s + 1), 0)) := by
  have hle := M.cont_le 10 l
  by_cases h1 : M.cont 10 l = 10
  · refine .inl ⟨h1, ?_⟩
    unfold M.tv; simp only []; rw [if_pos h1]
  · by_cases h2 : l.length ≤ M.cont 10 l
    · refine .inr (.inl ⟨by omega, by omega, ?_⟩)
      unfold M.tv; simp only []; rw [if_neg h1, if_pos h2]
    · refine .inr (.inr ⟨M.cont 10 l, rfl, by omega, by omega, ?_⟩)
      have eg : l.getD (M.cont 10 l) 0 = l[M.cont 10 l]'(by omega) := by simp [show M.cont 10 l < l.length by omega]
      by_cases h3 : 0 < M.cont 10 l ∧ (l.getD (M.cont 10 l) 0).toNat = 0 ∨ M.cont 10 l = 9 ∧ 1 < (l.getD (M.cont 10 l) 0).toNat
      · refine .inl ⟨by rw [eg] at h3; exact h3, ?_⟩
        unfold M.tv; simp only []; rw [if_neg h1, if_neg h2, if_pos h3]
      · refine .inr ⟨by rw [eg] at h3; exact h3, ?_⟩
        unfold M.tv; simp only []; rw [if_neg h1, if_neg h2, if_neg h3]

set_option maxHeartbeats 1000000 in
theorem rtakeV_any {v : Value} {l : List UInt8} {w : World} (hr : Rd w v l) (hl : l.length ≤ 140737488355000) :
    Calls Try.prog 82 #[v] w fun e w' => ∃ v2, e = .returned (.tuple #[.int .u64 (M.tv l).1, v2, .int .i64 (M.tv l).2.2]) ∧ Ow w.heap.size w' v2 (M.tv l).2.1 ∧ Below w.heap.size w w' := by
  have hr' := hr
  obtain ⟨ao, c, rfl, h1, h2, h3, h4⟩ := hr
  unfold maxLen at h2
  clear h3
  have HT : Hid _ := tv_cases l
  generalize htv : M.tv l = T at *
  clear htv
  go_enter Try.func82, Try.ntmps82
  go_wp2
  go_loopw [5] (fun i wr => ∃ k : Nat, k ≤ l.length ∧ k ≤ 10 ∧ i = .int .i64 k ∧ (∀ j, (h : j < l.length) → j < k → 128 ≤ l[j].toNat) ∧ wr = w) (fun i _ => 10 - (intOf i).toNat)
  case atStart => exact ⟨0, Nat.zero_le _, Nat.zero_le _, rfl, fun j _ hj => by omega, rfl⟩
  case round =>
    obtain ⟨k, hk, hk10, rfl, hs, rfl⟩ := hrel
    have HS : Hid _ := hs
    clear hs
    by_cases hlt : k < l.length
    · obtain ⟨a, rfl, hc⟩ := h4 k hlt
      by_cases hlt10 : k < 10
      · by_cases hx : 128 ≤ l[k].toNat
        · clear h4 hr'
          go_wp2
          refine ⟨⟨k + 1, by omega, by omega, by go_num, fun j h hj => ?_, trivial⟩, by simp [intOf]; omega⟩
          by_cases hj' : j < k
          · exact HS.out j h hj'
          · obtain rfl : j = k := by omega
            exact hx
        · have e : M.cont 10 l = k := M.cont_eq 10 k l hk10 hk (fun j hj => HS.out j (by omega) hj) (.inr (.inr ⟨hlt, by omega⟩))
          have eT : ((0 < k ∧ l[k].toNat = 0 ∨ k = 9 ∧ 1 < l[k].toNat) ∧ T = (0, [], 12)) ∨ (¬ (0 < k ∧ l[k].toNat = 0 ∨ k = 9 ∧ 1 < l[k].toNat) ∧ T = (M.val (l.take (k + 1)), l.drop (k + 1), 0)) := by
            rcases HT.out with ⟨q, _⟩ | ⟨_, q, _⟩ | ⟨s, q, q2, q3, q4⟩
            · omega
            · omega
            · rw [e] at q
              subst q
              exact q4
          clear e HT
          have hx2 := l[k].toNat_lt
          rcases eT with ⟨hbad, rfl⟩ | ⟨hok, rfl⟩
          · clear h4 hr'
            by_cases h9 : 9 ≤ k
            · have h9' : ((k : Int) == 9) = true := by simp; omega
              go_wp2
              all_goals go_ret3
              all_goals exact ⟨_, rfl, Ow.nil _ _, Below.refl _ _⟩
            · have h9' : ((k : Int) == 9) = false := by simp; omega
              go_wp2
              all_goals go_ret3
              all_goals exact ⟨_, rfl, Ow.nil _ _, Below.refl _ _⟩
          · have hpost := hr'.post (k + 1) (by omega) (if c = k + 1 then some a else some (a.add (k + 1))) ⟨fun h => by rw [if_pos h], fun h => by rw [if_neg h]; rfl⟩
            have hdl : (l.drop (k + 1)).length ≤ 140737488355000 := by simp; omega
            have HP : Hid _ := And.intro hpost hdl
            have HV : Hid (∀ j, (h : j ≤ k) → _) := fun j h => rtv_step l k j h hlt10 hlt (by omega)
            clear hpost hdl hr'
            have h3 : (((k : Int) == 9) = true ∧ (((l[k].toNat : Nat) : Int) == 0) = false ∧ 9 ≤ k ∧ 1 ≤ l[k].toNat ∧ l[k].toNat ≤ 1) ∨ (((k : Int) == 9) = false ∧ (((l[k].toNat : Nat) : Int) == 0) = false ∧ 1 ≤ k ∧ k ≤ 8 ∧ 1 ≤ l[k].toNat) ∨ (((k : Int) == 9) = false ∧ k < 1) := by
              simp only [beq_iff_eq, beq_eq_false_iff_ne]
              omega
            clear hok
            rcases h3 with ⟨q0, r0, q1, q2, q3⟩ | ⟨q0, r0, q1, q2, q3⟩ | ⟨q0, q1⟩
            all_goals
              go_wp2_with fail
              go_loopw [6, 7] (fun m i wx => ∃ j : Nat, j ≤ k + 1 ∧ i = .int .i64 ((j : Int) - 1) ∧ m = .int .u64 (M.val ((l.take (k + 1)).drop j)) ∧ wx = wr) (fun _ i _ => (intOf i + 1).toNat)
              case atStart =>
                refine ⟨k + 1, Nat.le_refl _, by go_num, ?_, rfl⟩
                have e0 : (l.take (k + 1)).drop (k + 1) = [] := by
                  apply List.drop_eq_nil_of_le
                  simp
                  omega
                rw [e0]; rfl
              case round =>
                obtain ⟨j, hj, rfl, rfl, rfl⟩ := hrel
                cases j with
                | zero =>
                  have hp := HP.out.1
                  by_cases hcn : c = k + 1
                  · rw [if_pos hcn] at hp
                    have HP2 : Hid _ := hp
                    clear hp
                    go_wp2_with fail
                    refine (copy_any (l := l.drop (k + 1)) (Rd.cong HP2.out ?_ ?_ ?_) (by have := HP.out.2; omega)).mono ?_
                    · first | rfl | (simp; done)
                    · first | rfl | omega
                    · first | rfl | omega
                    rintro e w2 ⟨v2, rfl, ho2, hb2⟩
                    go_wp2_with fail
                    go_ret3
                    exact ⟨_, rfl, ho2, hb2⟩
                  · rw [if_neg hcn] at hp
                    have HP2 : Hid _ := hp
                    clear hp
                    go_wp2_with fail
                    refine (copy_any (l := l.drop (k + 1)) (Rd.cong HP2.out ?_ ?_ ?_) (by have := HP.out.2; omega)).mono ?_
                    · first | rfl | (simp [Addr.add]; done)
                    · first | rfl | omega
                    · first | rfl | omega
                    rintro e w2 ⟨v2, rfl, ho2, hb2⟩
                    go_wp2_with fail
                    go_ret3
                    exact ⟨_, rfl, ho2, hb2⟩
                | succ j =>
                  have hst := HV.out j (by omega)
                  obtain ⟨a', ea, hcj⟩ := h4 j (by omega)
                  obtain rfl := Option.some.inj ea
                  clear ea
                  have hxj := (l[j]'(by omega)).toNat_lt
                  have hlt' := hst.2
                  have HE : Hid ((M.val ((l.take (k + 1)).drop (j + 1)) : Int) * 128 + ((l[j]'(by omega)).toNat : Int) % 128 = (M.val ((l.take (k + 1)).drop j) : Int)) := by
                    show _ = _
                    have := hst.1
                    omega
                  clear hst
                  go_wp2
                  exact ⟨⟨j, by omega, by go_num, congrArg _ HE.out, trivial⟩, by simp [intOf]⟩
      · have e : M.cont 10 l = 10 := by
          obtain rfl : k = 10 := by omega
          exact M.cont_eq 10 10 l hk10 hk (fun j hj => HS.out j (by omega) hj) (by omega)
        obtain rfl : k = 10 := by omega
        have eT : T = (0, [], 12) := by
          rcases HT.out with ⟨_, q⟩ | ⟨q, _⟩ | ⟨s, q, q2, _⟩
          · exact q
          · omega
          · omega
        subst eT
        clear h4 hr' e
        go_wp2
        go_ret3
        exact ⟨_, rfl, Ow.nil _ _, Below.refl _ _⟩
    · obtain rfl : k = l.length := by omega
      have e : M.cont 10 l = l.length := M.cont_eq 10 l.length l hk10 hk (fun j hj => HS.out j (by omega) hj) (by omega)
      by_cases h10 : l.length = 10
      · have eT : T = (0, [], 12) := by
          rcases HT.out with ⟨_, q⟩ | ⟨q, _⟩ | ⟨s, q, q2, q3, _⟩
          · exact q
          · omega
          · omega
        subst eT
        clear h4 hr' e HT
        go_wp2
        go_ret3
        exact ⟨_, rfl, Ow.nil _ _, Below.refl _ _⟩
      · have eT : T = (0, [], 10) := by
          rcases HT.out with ⟨q, _⟩ | ⟨_, _, q⟩ | ⟨s, q, q2, q3, _⟩
          · omega
          · exact q
          · omega
        subst eT
        clear h4 hr' e HT
        have h10' : ((l.length : Int) == 10) = false := by simp; omega
        go_wp2
        go_ret3
        exact ⟨_, rfl, Ow.nil _ _, Below.refl _ _⟩
end Go.Proofs.Ytgienommkifbnaa

/- What Row answers of any fields. -/
namespace Go.Proofs.Ytgienommkifbnaa
open Go.RowKit
set_option linter.unusedVariables false
set_option maxRecDepth 100000

set_option maxHeartbeats 1000000 in
theorem row_any {v : Value} {ls : List (List UInt8)} {w : World} (hr : Rds w v ls) (hl : (M.row ls).length ≤ 1099511627776) (hn : ls.length ≤ 1099511627776) :
    Calls Try.prog 40 #[v] w fun e w' => ∃ v', e = .returned v' ∧ Ow w.heap.size w' v' (M.row ls) ∧ Below w.heap.size w w' := by
  obtain ⟨ao, c, rfl, h1, h2, h4⟩ := hr
  unfold maxLen at h2
  have hvl := vi_len ls.length
  have hrl : (M.rowB ls).length ≤ 1099511627776 := by simp [M.row] at hl; omega
  clear hl
  go_enter Try.func40, Try.ntmps40
  go_wp2_with fail
  refine (varint_any ls.length _ (by omega)).mono ?_
  rintro e w1 ⟨v1, rfl, ho1, hb1⟩
  go_wp2_with fail
  go_loopw [3, 5, 12] (fun out _ i wr => ∃ k : Nat, k ≤ ls.length ∧ i = .int .i64 k ∧ Ow w.heap.size wr out (M.vi ls.length ++ M.rowB (ls.take k)) ∧ Below w.heap.size w wr) (fun _ _ i _ => ls.length - (intOf i).toNat)
  case atStart => exact ⟨0, Nat.zero_le _, rfl, by simpa [M.rowB] using ho1, hb1⟩
  case round =>
    obtain ⟨k, hk, rfl, ho, hb⟩ := hrel
    clear ho1 hb1
    have hB := hb.size
    by_cases hlt : k < ls.length
    · obtain ⟨a, u, rfl, hc, hru⟩ := h4 k hlt
      have hcx : wr.cell? (a.add k) = some u := by rw [hb.cell (World.block_lt_of_cell? w _ hc)]; exact hc
      have hfl := M.rowB_field ls k hlt
      have hvf := vi_len ls[k].length
      have hsn := M.rowB_snoc ls k hlt
      have HSN : Hid _ := hsn
      have hru' := hru
      obtain ⟨au, cu, rfl, u1, u2, _, _⟩ := hru
      unfold maxLen at u2
      have hdl : (M.vi ls.length ++ M.rowB (ls.take k)).length + (M.vi ls[k].length).length + ls[k].length ≤ 1099511628000 := by simp only [List.length_append]; omega
      generalize hcur : M.vi ls.length ++ M.rowB (ls.take k) = cur at *
      generalize hfk : ls[k] = fk at *
      have HC : Hid _ := And.intro hcur hfk
      clear hcur hsn hfl hc h4
      go_wp2_with fail
      refine (varint_any fk.length _ (by omega)).mono ?_
      rintro e w2 ⟨v2, rfl, ho2, hb2⟩
      have ho' := ho.below hb2 (Nat.le_refl _)
      have hb' : Below w.heap.size w w2 := hb.trans (hb2.mono hB)
      have hB2 := hb'.size
      go_wp2_with (first | (at_builtin; refine wpList_app rfl _ _ rfl w.heap.size _ cur rfl ho' _ (M.vi fk.length) rfl ho2.rd hB2 (by omega) ?_; intro v3 w3 ho3 hb3 hg3) | (at_builtin; refine wpList_app rfl _ _ rfl w.heap.size _ (cur ++ M.vi fk.length) rfl ho3 _ fk rfl ?r1 ?r2 ?r3 ?_; rotate_right; intro v4 w4 ho4 hb4 hg4) | fail)
      case r1 => exact hru'.below (hb'.trans hb3) (Nat.le_refl _)
      case r2 => exact (hb'.trans hb3).size
      case r3 => rw [List.length_append]; omega
      refine ⟨⟨k + 1, by omega, by go_num, ?_, (hb'.trans hb3).trans hb4⟩, by simp [intOf]; omega⟩
      have e : M.vi ls.length ++ M.rowB (ls.take (k + 1)) = cur ++ M.vi fk.length ++ fk := by
        rw [HSN.out, ← HC.out.1]; simp
      rw [e]; exact ho4
    · obtain rfl : k = ls.length := by omega
      go_wp2_with fail
      go_ret
      refine ⟨_, rfl, ?_, hb⟩
      rw [List.take_of_length_le (Nat.le_refl _)] at ho
      exact ho
end Go.Proofs.Ytgienommkifbnaa

/- What readField and TakeRow answer of any bytes. -/
namespace Go.Proofs.Ytgienommkifbnaa
open Go.RowKit
set_option linter.unusedVariables false
set_option maxRecDepth 100000

theorem Try.info26 : (Try.prog.info? 26).map (fun i => (i.zero, i.size, i.bytes)) = some (some (.slice none 0 0), 1, 24) := by kernel_rfl

theorem part_drop (l : List UInt8) (n : Nat) : (M.part l n).2.1.length ≤ l.length := by
  unfold M.part; split <;> simp

theorem rfield_any {v : Value} {l : List UInt8} {w : World} (hr : Rd w v l) :
    Calls Try.prog 73 #[v] w fun e w' => ∃ v1 v2, e = .returned (.tuple #[v1, v2, .int .i64 (M.fd l).2.2]) ∧ (∀ w0, Rd w0 v l → Rd w0 v1 (M.fd l).1 ∧ Rd w0 v2 (M.fd l).2.1) ∧ ∃ k, w' = w.drewN k := by
  have hrv := rvar_any2 hr
  have htl := tv_lt l
  unfold M.fd
  generalize M.tv l = r at *
  obtain ⟨n, rest, er⟩ := r
  simp only [] at *
  by_cases her : er ≠ 0
  · rw [if_pos her]
    have hne : (((er : Nat) : Int) != 0) = true := by simp; omega
    go_enter Try.func73, Try.ntmps73
    go_wp2_with (go_at_call 72; refine hrv.mono ?_; rintro e w1 ⟨v2, rfl, hr2, k1, rfl⟩)
    go_ret3
    exact ⟨_, _, rfl, fun _ _ => ⟨Rd.nil _, Rd.nil _⟩, _, rfl⟩
  · rw [if_neg her]
    obtain rfl : er = 0 := by omega
    generalize hP : M.part rest n = P
    have HP : Hid _ := hP
    clear hP
    go_enter Try.func73, Try.ntmps73
    go_wp2_with fail
    refine hrv.mono ?_
    rintro e w1 ⟨v2, rfl, hr2, k1, rfl⟩
    go_wp2_with fail
    refine (part_any2 ((hr2 _ hr).drewN k1) htl).mono ?_
    rintro e w2 ⟨u1, u2, rfl, hu, k2, rfl⟩
    rw [HP.out] at hu ⊢
    go_wp2_with fail
    go_ret3
    exact ⟨_, _, rfl, fun w0 h0 => hu w0 (hr2 w0 h0), k1 + k2, rfl⟩

set_option maxHeartbeats 2000000 in
theorem takerow_any {v : Value} {l : List UInt8} {w : World} (hr : Rd w v l) (hl : l.length ≤ 1099511627776) :
    Calls Try.prog 42 #[v] w fun e w' => ∃ v' us, e = .returned (.tuple #[v', .int .i64 (M.tr l).2]) ∧ Ows w.heap.size w' v' (M.tr l).1 us ∧ Below w.heap.size w w' := by
  have hrv := rvar_any hr
  have htl := tv_lt l
  have hll := tv_len l
  by_cases her : (M.tv l).2.2 ≠ 0
  · have e : M.tr l = ([], (M.tv l).2.2) := by unfold M.tr; rw [if_pos her]
    rw [e]
    generalize M.tv l = r at *
    obtain ⟨n, rest, er⟩ := r
    simp only [] at *
    have hne : (((er : Nat) : Int) != 0) = true := by simp; omega
    clear e
    go_enter Try.func42, Try.ntmps42
    go_wp2_with (go_at_call 72; refine hrv.mono ?_; rintro e w1 ⟨v2, rfl, hr2, k1, rfl⟩)
    go_ret2
    exact ⟨_, _, rfl, Ows.nil _ _, Below.dN _ _⟩
  · have her' : (M.tv l).2.2 = 0 := by simpa using her
    by_cases hsh : (M.tv l).2.1.length < (M.tv l).1
    · have e : M.tr l = ([], 12) := by unfold M.tr; rw [if_neg her, if_pos hsh]
      rw [e]
      clear e her
      generalize M.tv l = r at *
      obtain ⟨n, rest, er⟩ := r
      simp only [] at *
      subst her'
      go_enter Try.func42, Try.ntmps42
      go_wp2_with fail
      refine hrv.mono ?_
      rintro e w1 ⟨v2, rfl, hr2, k1, rfl⟩
      obtain ⟨ao, c, rfl, g1, g2, g3, g4⟩ := hr2
      clear g3 g4
      unfold maxLen at g2
      go_wp2_with fail
      go_ret2
      exact ⟨_, _, rfl, Ows.nil _ _, Below.dN _ _⟩
    · have e := M.tr_rfA l her' (by omega)
      generalize M.tr l = T at *
      have HT : Hid _ := e
      clear e her
      generalize M.tv l = r at *
      obtain ⟨n, rest, er⟩ := r
      simp only [] at *
      subst her'
      go_enter Try.func42, Try.ntmps42
      go_wp2_with fail
      refine hrv.mono ?_
      rintro e w1 ⟨v2, rfl, hr2, k1, rfl⟩
      have hr2' := hr2
      obtain ⟨ao, c, rfl, g1, g2, g3, g4⟩ := hr2
      clear g3 g4
      unfold maxLen at g2
      go_wp2_with fail
      go_loopw [0, 6, 7, 8, 9, 25] (fun b fields _ _ _ i wr => ∃ (k : Nat) (fs : List (List UInt8)) (l2 : List UInt8) (us : List Value), k ≤ n ∧ i = .int .u64 k ∧ fs.length = k ∧ Rd w b l2 ∧ l2.length ≤ rest.length ∧ Hid (M.rfA (n - k) fs l2 = M.rfA n [] rest) ∧ Ows w.heap.size wr fields fs us ∧ Below w.heap.size w wr) (fun _ _ _ _ _ i _ => n - (intOf i).toNat)
      case atStart => exact ⟨0, [], rest, [], Nat.zero_le _, rfl, rfl, hr2', Nat.le_refl _, rfl, Ows.nil _ _, Below.dN _ _⟩
      case round =>
        obtain ⟨k, fs, l2, us, hk, rfl, hfl, hrb, hl2, HE, hos, hb⟩ := hrel
        clear hr2'
        have hB := hb.size
        by_cases hlt : k < n
        · have hfd := M.fd_len l2 (tv_len l2)
          have HF : Hid (if (M.fd l2).2.2 ≠ 0 then T = ([], (M.fd l2).2.2) else M.rfA (n - (k + 1)) (fs ++ [(M.fd l2).1]) (M.fd l2).2.1 = M.rfA n [] rest) := by
            have h1 := HE.out
            obtain ⟨q, hq⟩ : ∃ q, n - k = q + 1 := ⟨n - k - 1, by omega⟩
            rw [hq, M.rfA] at h1
            by_cases h2 : (M.fd l2).2.2 ≠ 0
            · rw [if_pos h2] at h1
              have h3 := HT.out
              rw [← h1] at h3
              show ite _ _ _
              rw [if_pos h2, h3, if_pos h2]
            · rw [if_neg h2] at h1
              show ite _ _ _
              rw [if_neg h2, show n - (k + 1) = q by omega]
              exact h1
          have hrb' := hrb.below hb (Nat.le_refl _)
          have hfield := rfield_any hrb'
          have hlf : fs.length ≤ 1099511627776 := by omega
          have hrb2 := hrb
          obtain ⟨ab, cb, rfl, b1, b2, _, _⟩ := hrb
          unfold maxLen at b2
          generalize M.fd l2 = F at *
          obtain ⟨f1, f2, fe⟩ := F
          simp only [] at *
          clear HE
          by_cases hfe : fe ≠ 0
          · have hT : T = ([], fe) := by
              have := HF.out; rw [if_pos hfe] at this; exact this
            subst hT
            have hne : (((fe : Nat) : Int) != 0) = true := by simp; omega
            clear HF HT
            go_wp2_with fail
            refine hfield.mono ?_
            rintro e w2 ⟨u1, u2, rfl, hu, k2, rfl⟩
            go_wp2_with fail
            go_ret2
            exact ⟨_, rfl, ⟨_, Ows.nil _ _⟩, hb.trans ((Below.dN wr k2).mono hB)⟩
          · obtain rfl : fe = 0 := by omega
            have HG : Hid (M.rfA (n - (k + 1)) (fs ++ [f1]) f2 = M.rfA n [] rest) := by
              have := HF.out; rw [if_neg hfe] at this; exact this
            clear HF hfe
            go_wp2_with fail
            refine hfield.mono ?_
            rintro e w2 ⟨u1, u2, rfl, hu, k2, rfl⟩
            have hos2 := hos.below (Below.dN wr k2) (Nat.le_refl _)
            have hu1 := (hu _ hrb').1
            have hu2 := (hu _ hrb2).2
            clear hu
            go_wp2_with fail
            refine (clone_any (hu1.drewN k2) (by omega)).mono ?_
            rintro e w3 ⟨u3, rfl, ho3, hb3⟩
            have hos3 := hos2.below hb3 (Nat.le_refl _)
            have hB3 : w.heap.size ≤ w3.heap.size := Nat.le_trans hB hb3.size
            have hul := hos.len
            have h24 := Try.info26
            obtain ⟨a3, c3, e3⟩ := ho3.shape
            subst e3
            go_wp2_with (first | (at_builtin; (refine wpList_app1 rfl _ _ 62 rfl w.heap.size 26 (.slice none 0 0) 24 Try.underlying62 h24 rfl _ us.length us rfl (World.ownsRow.alloc hos3.row _) _ _ _ rfl (cell_new1 _ _ _) rfl ?hmx ?hmy ?hmz ?_; rotate_right; intro v4 w4 ho4 hg4 hw4)) | fail)
            case hmx => unfold maxLen; omega
            case hmy => omega
            case hmz => rw [World.size_alloc]; omega
            have hos4 : Ows w.heap.size w4 v4 (fs ++ [f1]) (us ++ [.slice a3 f1.length c3]) := hos2.snoc hb3 (Nat.le_refl _) ho3 hB ho4 hg4 hw4
            have hb4 : Below w.heap.size w w4 := ((hb.trans ((Below.dN wr k2).mono hB)).trans (hb3.mono hB)).trans (((Below.refl w.heap.size w3).alloc hB3 _).trans ((Below.refl w.heap.size _).grown hg4 (by rw [World.size_alloc]; omega) (fun k hk => (World.ownsRow.lt hos3.row k hk).1)))
            refine ⟨⟨k + 1, fs ++ [f1], f2, us ++ [.slice a3 f1.length c3], by omega, by go_num, by simp [hfl], ?_, by omega, HG, hos4, hb4⟩, by simp [intOf]; omega⟩
            exact hu2
        · obtain rfl : k = n := by omega
          have hT : T = if l2.length ≠ 0 then ([], 12) else (fs, 0) := by
            have h1 := HT.out
            rw [← HE.out, Nat.sub_self] at h1
            simpa [M.rfA] using h1
          clear HT HE
          obtain ⟨ab, cb, rfl, b1, b2, _, _⟩ := hrb
          unfold maxLen at b2
          by_cases h0 : l2.length ≠ 0
          · rw [if_pos h0] at hT
            subst hT
            go_wp2_with fail
            go_ret2
            exact ⟨_, rfl, ⟨_, Ows.nil _ _⟩, hb⟩
          · rw [if_neg h0] at hT
            subst hT
            go_wp2_with fail
            go_ret2
            exact ⟨_, rfl, ⟨_, hos⟩, hb⟩
end Go.Proofs.Ytgienommkifbnaa

/- What the document's own TakeRow answers of any bytes. -/
namespace Go.Proofs.Ytgienommkifbnaa
open Go.RowKit
set_option linter.unusedVariables false
set_option maxRecDepth 100000

theorem piece_own {a1 : Option Addr} {p : Prop} [Decidable p] {m n c n' c' b : Nat} (h : (Value.slice (if p then a1 else a1.map (fun a => a.add m)) n c).ownBlock = some b) : (Value.slice a1 n' c').ownBlock = some b := by
  cases a1 with
  | none => split at h <;> cases h
  | some a =>
    split at h
    · exact h
    · simpa [Value.ownBlock, add_block] using h

set_option maxHeartbeats 2000000 in
theorem rtakerow_any {v : Value} {l : List UInt8} {w : World} (hr : Rd w v l) (hl : l.length ≤ 1099511627776) :
    Calls Try.prog 66 #[v] w fun e w' => ∃ v' us, e = .returned (.tuple #[v', .int .i64 (M.tr l).2]) ∧ Ows w.heap.size w' v' (M.tr l).1 us ∧ Below w.heap.size w w' := by
  have hrv := rtakeV_any hr (by omega)
  have htl := tv_lt l
  have hll := tv_len l
  by_cases her : (M.tv l).2.2 ≠ 0
  · have e : M.tr l = ([], (M.tv l).2.2) := by unfold M.tr; rw [if_pos her]
    rw [e]
    generalize M.tv l = r at *
    obtain ⟨n, rest, er⟩ := r
    simp only [] at *
    have hne : (((er : Nat) : Int) != 0) = true := by simp; omega
    clear e
    go_enter Try.func66, Try.ntmps66
    go_wp2_with fail
    refine hrv.mono ?_
    rintro e w1 ⟨v2, rfl, hr2, hb1⟩
    go_wp2_with fail
    go_ret2
    exact ⟨_, _, rfl, Ows.nil _ _, hb1⟩
  · have her' : (M.tv l).2.2 = 0 := by simpa using her
    by_cases hsh : (M.tv l).2.1.length < (M.tv l).1
    · have e : M.tr l = ([], 12) := by unfold M.tr; rw [if_neg her, if_pos hsh]
      rw [e]
      clear e her
      generalize M.tv l = r at *
      obtain ⟨n, rest, er⟩ := r
      simp only [] at *
      subst her'
      go_enter Try.func66, Try.ntmps66
      go_wp2_with fail
      refine hrv.mono ?_
      rintro e w1 ⟨v2, rfl, hr2, hb1⟩
      obtain ⟨ao, c, rfl, g1, g2, g3, g4⟩ := hr2.rd
      clear g3 g4
      unfold maxLen at g2
      go_wp2_with fail
      go_ret2
      exact ⟨_, _, rfl, Ows.nil _ _, hb1⟩
    · have e := M.tr_rfA l her' (by omega)
      generalize M.tr l = T at *
      have HT : Hid _ := e
      clear e her
      generalize M.tv l = r at *
      obtain ⟨n, rest, er⟩ := r
      simp only [] at *
      subst her'
      go_enter Try.func66, Try.ntmps66
      go_wp2_with fail
      refine hrv.mono ?_
      rintro e w1 ⟨v2, rfl, hr2, hb1⟩
      have hr2' := hr2.rd
      obtain ⟨ao, c, rfl, g1, g2, g3, g4⟩ := hr2.rd
      clear g3 g4
      unfold maxLen at g2
      go_wp2_with fail
      go_loopw [5, 7, 8, 9, 10, 11] (fun b fields i _ _ _ wr => ∃ (k : Nat) (fs : List (List UInt8)) (l2 : List UInt8) (us : List Value), k ≤ n ∧ i = .int .i64 k ∧ fs.length = k ∧ Rd wr b l2 ∧ l2.length ≤ rest.length ∧ Hid (M.rfA (n - k) fs l2 = M.rfA n [] rest) ∧ Ows w.heap.size wr fields fs us ∧ Below w.heap.size w wr) (fun _ _ i _ _ _ _ => n - (intOf i).toNat)
      case atStart => exact ⟨0, [], rest, [], Nat.zero_le _, rfl, rfl, hr2', Nat.le_refl _, rfl, Ows.nil _ _, hb1⟩
      case round =>
        obtain ⟨k, fs, l2, us, hk, rfl, hfl, hrb, hl2, HE, hos, hb⟩ := hrel
        clear hr2' hr2 hb1 hrv
        have hB := hb.size
        by_cases hlt : k < n
        · have htv := tv_len l2
          have htl2 := tv_lt l2
          have HF : Hid (if (M.tv l2).2.2 ≠ 0 then T = ([], (M.tv l2).2.2) else if (M.tv l2).2.1.length < (M.tv l2).1 then T = ([], 10) else M.rfA (n - (k + 1)) (fs ++ [(M.tv l2).2.1.take (M.tv l2).1]) ((M.tv l2).2.1.drop (M.tv l2).1) = M.rfA n [] rest) := by
            have h1 := HE.out
            obtain ⟨q, hq⟩ : ∃ q, n - k = q + 1 := ⟨n - k - 1, by omega⟩
            have h3 := HT.out
            rw [hq, M.rfA] at h1
            show ite _ _ _
            by_cases h2 : (M.tv l2).2.2 ≠ 0
            · have ef : M.fd l2 = ([], [], (M.tv l2).2.2) := by unfold M.fd; rw [if_pos h2]
              rw [ef, if_pos h2] at h1
              rw [← h1] at h3
              rw [if_pos h2, h3, if_pos h2]
            · rw [if_neg h2]
              by_cases h4 : (M.tv l2).2.1.length < (M.tv l2).1
              · have ef : M.fd l2 = ([], [], 10) := by unfold M.fd M.part; rw [if_neg h2, if_pos h4]
                rw [ef, if_pos (by decide)] at h1
                rw [← h1] at h3
                rw [if_pos h4, h3]
                rfl
              · have ef : M.fd l2 = ((M.tv l2).2.1.take (M.tv l2).1, (M.tv l2).2.1.drop (M.tv l2).1, 0) := by unfold M.fd M.part; rw [if_neg h2, if_neg h4]
                rw [ef, if_neg (by simp)] at h1
                rw [if_neg h4, show n - (k + 1) = q by omega]
                exact h1
          have hfield := rtakeV_any hrb (by omega)
          have hlf : fs.length ≤ 1099511627776 := by omega
          obtain ⟨ab, cb, rfl, b1, b2, _, _⟩ := hrb
          unfold maxLen at b2
          generalize M.tv l2 = F at *
          obtain ⟨m, nx, fe⟩ := F
          simp only [] at *
          clear HE
          by_cases hfe : fe ≠ 0
          · have hT : T = ([], fe) := by
              have := HF.out; rw [if_pos hfe] at this; exact this
            subst hT
            have hne : (((fe : Nat) : Int) != 0) = true := by simp; omega
            clear HF HT
            go_wp2_with fail
            refine hfield.mono ?_
            rintro e w2 ⟨u1, rfl, hu1, hb2⟩
            go_wp2_with fail
            go_ret2
            exact ⟨_, rfl, ⟨_, Ows.nil _ _⟩, hb.trans (hb2.mono hB)⟩
          · obtain rfl : fe = 0 := by omega
            by_cases hm : nx.length < m
            · have hT : T = ([], 10) := by
                have := HF.out; rw [if_neg hfe, if_pos hm] at this; exact this
              subst hT
              clear HF HT hfe
              go_wp2_with fail
              refine hfield.mono ?_
              rintro e w2 ⟨u1, rfl, hu1, hb2⟩
              obtain ⟨a1, c1, rfl, d1, d2, _, _⟩ := hu1.rd
              unfold maxLen at d2
              go_wp2_with fail
              go_ret2
              exact ⟨_, rfl, ⟨_, Ows.nil _ _⟩, hb.trans (hb2.mono hB)⟩
            · have HG : Hid (M.rfA (n - (k + 1)) (fs ++ [nx.take m]) (nx.drop m) = M.rfA n [] rest) := by
                have := HF.out; rw [if_neg hfe, if_neg hm] at this; exact this
              clear HF hfe
              go_wp2_with fail
              refine hfield.mono ?_
              rintro e w2 ⟨u1, rfl, hu1, hb2⟩
              have hur := hu1.rd
              have hub : ∀ b, u1.ownBlock = some b → wr.heap.size ≤ b ∧ b < w2.heap.size := fun b e => World.ownsRow.lt hu1 b e
              obtain ⟨a1, c1, rfl, d1, d2, _, _⟩ := hu1.rd
              unfold maxLen at d2
              have hos2 := hos.below hb2 (Nat.le_refl _)
              have hB2 : w.heap.size ≤ w2.heap.size := Nat.le_trans hB hb2.size
              have hvl := fun b e => (World.ownsRow.lt hos.row b e).2
              have hpre := hur.pre m (by omega)
              have htk : (nx.take m).length ≤ 140737488355328 := by rw [List.length_take]; omega
              have HD : Hid _ := hur.post m (by omega) (if c1 = m then a1 else a1.map (fun a => a.add m)) ⟨fun h => by rw [if_pos h], fun h => by rw [if_neg h]⟩
              have HBK : Hid (∀ b, (Value.slice (if c1 = m then a1 else a1.map (fun a => a.add m)) (nx.length - m) (c1 - m)).ownBlock = some b → wr.heap.size ≤ b ∧ b < w2.heap.size) := by
                exact fun b e => hub b (piece_own e)
              generalize nx.take m = TK at *
              clear hub
              go_wp2_with fail
              refine (copy_any hpre htk).mono ?_
              rintro e w3 ⟨u3, rfl, ho3, hb3⟩
              have hos3 := hos2.below hb3 (Nat.le_refl _)
              have hB3 : w.heap.size ≤ w3.heap.size := Nat.le_trans hB2 hb3.size
              have hul := hos.len
              have h24 := Try.info26
              obtain ⟨a3, c3, e3⟩ := ho3.shape
              subst e3
              by_cases hc1 : c1 = m
              all_goals
                go_wp2_with (first | (at_builtin; (refine wpList_app1 rfl _ _ 62 rfl w.heap.size 26 (.slice none 0 0) 24 Try.underlying62 h24 rfl _ us.length us rfl (World.ownsRow.alloc hos3.row _) _ _ _ rfl (cell_new1 _ _ _) rfl ?hmx ?hmy ?hmz ?_; rotate_right; intro v4 w4 ho4 hg4 hw4)) | fail)
                case hmx => unfold maxLen; omega
                case hmy => omega
                case hmz => rw [World.size_alloc]; omega
                have hos4 : Ows w.heap.size w4 v4 (fs ++ [TK]) (us ++ [.slice a3 TK.length c3]) := hos2.snoc hb3 (Nat.le_refl _) ho3 hB2 ho4 hg4 hw4
                have hb4 : Below w.heap.size w w4 := ((hb.trans (hb2.mono hB)).trans (hb3.mono hB2)).trans (((Below.refl w.heap.size w3).alloc hB3 _).trans ((Below.refl w.heap.size _).grown hg4 (by rw [World.size_alloc]; omega) (fun k hk => (World.ownsRow.lt hos3.row k hk).1)))
                have hd4 := ((Rd.below HD.out hb3 (Nat.le_refl _)).alloc (.cells #[.slice a3 TK.length c3] 26)).grown hg4 (fun b e q => by have := HBK.out b e; have := hvl b q; omega)
                refine ⟨⟨k + 1, fs ++ [TK], nx.drop m, us ++ [.slice a3 TK.length c3], by omega, by go_num, by simp [hfl], ?_, by rw [List.length_drop]; omega, HG, hos4, hb4⟩, by simp [intOf]; omega⟩
                first | (rw [if_pos hc1] at hd4; exact Rd.cong hd4 rfl rfl (by omega)) | (rw [if_neg hc1] at hd4; exact hd4)
        · obtain rfl : k = n := by omega
          have hT : T = if l2.length ≠ 0 then ([], 12) else (fs, 0) := by
            have h1 := HT.out
            rw [← HE.out, Nat.sub_self] at h1
            simpa [M.rfA] using h1
          clear HT HE
          obtain ⟨ab, cb, rfl, b1, b2, _, _⟩ := hrb
          unfold maxLen at b2
          by_cases h0 : l2.length ≠ 0
          · rw [if_pos h0] at hT
            subst hT
            go_wp2_with fail
            go_ret2
            exact ⟨_, rfl, ⟨_, Ows.nil _ _⟩, hb⟩
          · rw [if_neg h0] at hT
            subst hT
            go_wp2_with fail
            go_ret2
            exact ⟨_, rfl, ⟨_, hos⟩, hb⟩
end Go.Proofs.Ytgienommkifbnaa

/- What TakeVarint answers of any bytes. -/
namespace Go.Proofs.Ytgienommkifbnaa
open Go.RowKit
set_option linter.unusedVariables false
set_option maxRecDepth 100000

theorem takeV_any {v : Value} {l : List UInt8} {w : World} (hr : Rd w v l) (hl : l.length ≤ 140737488355000) :
    Calls Try.prog 75 #[v] w fun e w' => ∃ v2, e = .returned (.tuple #[.int .u64 (M.tv l).1, v2, .int .i64 (M.tv l).2.2]) ∧ Ow w.heap.size w' v2 (M.tv l).2.1 ∧ Below w.heap.size w w' := by
  have hle := tv_len l
  go_enter Try.func75, Try.ntmps75
  go_wp2_with fail
  refine (rvar_any hr).mono ?_
  rintro e w1 ⟨v1, rfl, hr1, k1, rfl⟩
  go_wp2_with fail
  refine (clone_any (hr1.drewN k1) (by omega)).mono ?_
  rintro e w2 ⟨v2, rfl, ho2, hb2⟩
  go_wp2_with fail
  go_ret3
  exact ⟨_, rfl, ho2, Below.tr (Below.dN w k1) hb2⟩
end Go.Proofs.Ytgienommkifbnaa

/- A configuration in memory; SameConf. -/
namespace Go.Proofs.Ytgienommkifbnaa
open Go.RowKit
set_option linter.unusedVariables false
set_option maxRecDepth 100000

/-- A configuration: voters, those of before, learners. -/
abbrev Cn := List UInt64 × List UInt64 × List UInt64
/-- Three values that read as a configuration. -/
def Rc (w : World) (x y z : Value) (c : Cn) : Prop := Ru w x c.1 ∧ Ru w y c.2.1 ∧ Ru w z c.2.2
theorem Rc.below {B : Nat} {w w' : World} {x y z : Value} {c : Cn} (h : Rc w x y z c) (hb : Below B w w') (hB : w.heap.size ≤ B) : Rc w' x y z c := ⟨h.1.below hb hB, h.2.1.below hb hB, h.2.2.below hb hB⟩
theorem Rc.nil (w : World) : Rc w (.slice none 0 0) (.slice none 0 0) (.slice none 0 0) ([], [], []) := ⟨Ru.nil _, Ru.nil _, Ru.nil _⟩

/-- Three cells of a new block. -/
theorem box3 {w : World} {x y z : Value} {t : TypeId} {b : Nat} {W : World} (hb : Below (b + 1) (w.alloc (.cells #[x, y, z] t)) W) (e : b = w.heap.size) : W.cell? ⟨b, 0, none⟩ = some x ∧ W.cell? ⟨b, 1, none⟩ = some y ∧ W.cell? ⟨b, 2, none⟩ = some z := by
  subst e
  have hc : ∀ j u, #[x, y, z][j]? = some u → W.cell? ⟨w.heap.size, j, none⟩ = some u := fun j u e => by
    rw [hb.cell (by simp), World.cell?_alloc_at _ _ _ _ rfl]; exact e
  exact ⟨hc 0 x rfl, hc 1 y rfl, hc 2 z rfl⟩
theorem u_al (w : World) (o : Obj) : Below w.heap.size w (w.alloc o) := (Below.refl _ _).alloc (Nat.le_refl _) o

theorem u_drew (w : World) : Below w.heap.size w w.drew := Below.dN w 1

set_option maxHeartbeats 1000000 in
theorem sameconf_any {x y z x' y' z' : Value} {a b : Cn} {w : World} (ha : Rc w x y z a) (hb : Rc w x' y' z' b) :
    Calls Try.prog 12 #[.agg #[x, y, z], .agg #[x', y', z']] w fun e w' => e = .returned (.bool (decide (a = b))) ∧ Below w.heap.size w w' := by
  obtain ⟨V, O, L⟩ := a
  obtain ⟨V', O', L'⟩ := b
  obtain ⟨h1, h2, h3⟩ := ha
  obtain ⟨k1, k2, k3⟩ := hb
  simp only [] at h1 h2 h3 k1 k2 k3
  obtain ⟨ax, cx, rfl⟩ := h1.shape
  obtain ⟨ay, cy, rfl⟩ := h2.shape
  obtain ⟨az, cz, rfl⟩ := h3.shape
  obtain ⟨bx, dx, rfl⟩ := k1.shape
  obtain ⟨by', dy, rfl⟩ := k2.shape
  obtain ⟨bz, dz, rfl⟩ := k3.shape
  have s1 : ∀ W, Below w.heap.size w W → _ := fun W hW => sameU_any (h1.below hW (Nat.le_refl _)) (k1.below hW (Nat.le_refl _))
  have s2 : ∀ W, Below w.heap.size w W → _ := fun W hW => sameU_any (h2.below hW (Nat.le_refl _)) (k2.below hW (Nat.le_refl _))
  have s3 : ∀ W, Below w.heap.size w W → _ := fun W hW => sameU_any (h3.below hW (Nat.le_refl _)) (k3.below hW (Nat.le_refl _))
  have hB2 : Below w.heap.size w ((w.alloc (.cells #[.slice ax V.length cx, .slice ay O.length cy, .slice az L.length cz] 24)).alloc (.cells #[.slice bx V'.length dx, .slice by' O'.length dy, .slice bz L'.length dz] 24)) := (u_al w _).alloc (by simp) _
  have e : decide ((V, O, L) = (V', O', L')) = (decide (V = V') && (decide (O = O') && decide (L = L'))) := by
    by_cases q1 : V = V' <;> by_cases q2 : O = O' <;> by_cases q3 : L = L' <;> simp [q1, q2, q3]
  rw [e]
  clear e h1 h2 h3 k1 k2 k3
  generalize decide (V = V') = r1 at *
  generalize decide (O = O') = r2 at *
  generalize decide (L = L') = r3 at *
  generalize hT : (r1 && (r2 && r3)) = T
  have HT : Hid _ := hT
  clear hT
  have HB2 : Hid _ := hB2
  go_enter Try.func12, Try.ntmps12
  go_wp2_with fail
  refine (s1 _ hB2).mono ?_
  rintro e w1 ⟨rfl, n1, rfl⟩
  cases r1 with
  | false =>
    go_wp2_with fail
    go_ret
    exact ⟨by rw [← HT.out]; rfl, Below.drN hB2 _⟩
  | true =>
    go_wp2_with fail
    refine (s2 _ (Below.drN hB2 _)).mono ?_
    rintro e w1 ⟨rfl, n2, rfl⟩
    cases r2 with
    | false =>
      go_wp2_with fail
      go_ret
      exact ⟨by rw [← HT.out]; rfl, Below.drN hB2 _⟩
    | true =>
      go_wp2_with fail
      refine (s3 _ (Below.drN hB2 _)).mono ?_
      rintro e w1 ⟨rfl, n3, rfl⟩
      go_wp2_with fail
      go_ret
      exact ⟨by rw [← HT.out]; rfl, Below.drN hB2 _⟩
end Go.Proofs.Ytgienommkifbnaa

/- slices.Grow of a nil slice, slices.Concat, at uint64. -/
namespace Go.Proofs.Ytgienommkifbnaa
open Go.RowKit
set_option linter.unusedVariables false
set_option maxRecDepth 100000

set_option maxHeartbeats 1000000 in
theorem ugrow_any (n : Nat) (w : World) (hn : n ≤ 1099511627776) : Calls Try.prog 76 #[.slice none 0 0, .int .i64 n] w fun e w' => ∃ v, e = .returned v ∧ Ou w.heap.size w' v [] ∧ Below w.heap.size w w' := by
  obtain ⟨i, hi, hz0, hz1, hz2⟩ := info_parts Try.infoU
  by_cases h0 : n = 0
  · subst h0
    go_enter Try.func76, Try.ntmps76
    go_wp2_with fail
    go_ret
    exact ⟨_, rfl, Ou.nil _ _, Below.refl _ _⟩
  · have hold : (Builtin.firstCells i.size 0 (.slice none 0 0)).run Try.prog w.drew = .ok ([] : List Value).toArray w.drew := run_firstCells_none w.drew i.size 0 0 0
    have hrz : ∀ ty, (Builtin.append_ #[22, 3] ty #[.slice none 0 0, .int .i64 n]).run Try.prog w = _ := fun ty => Lib.run_append_grow_zeros w 22 3 ty 35 i (.int .u64 0) .i64 .i64 Try.underlying22 Try.underlying3 hi hz0 none 0 0 [] hold n (by omega) (by omega) (by omega) (by omega) (by rw [hz2]; omega) (by rw [hz2]; exact growslice_fits (by omega) (by omega))
    simp only [Nat.zero_add] at hrz
    have hG1 := grownCap_ge w n 0 35
    have hG2 := grownCap_le_maxLen w n 0 35 (by unfold maxLen; omega)
    generalize grownCap w n 0 35 = G at *
    have HO : Hid (Ou w.heap.size (w.alloc (.cells (Builtin.zeroCells #[Value.int .u64 0] n ++ Builtin.zeroCells #[Value.int .u64 0] (G - n)) 35)).drew (.slice (some ⟨w.heap.size, 0, none⟩) 0 G) []) := by
      refine ⟨rfl, .inr ⟨w.heap.size, G, _, rfl, Nat.le_refl _, heap_alloc_new w _, Nat.zero_le _, hG2, ?_, by simp [celU]⟩⟩
      rw [Array.size_append, size_zeroCells, size_zeroCells]
      simp
      omega
    unfold maxLen at hG2
    have hnp : (0 : Int) < (n : Int) := by omega
    go_enter Try.func76, Try.ntmps76
    go_wp2_with (at_builtin; refine Lib.wpList_append_run _ rfl _ _ _ _ rfl _ _ rfl rfl _ _ (hrz _) ?_)
    all_goals (go_ret; exact ⟨_, rfl, HO.out, (u_al w _).trans ((u_drew _).mono (by simp))⟩)

/-- A slice of lists of numbers. -/
def RuS (w : World) (v : Value) (ls : List (List UInt64)) : Prop :=
  ∃ ao c, v = .slice ao ls.length c ∧ ls.length ≤ c ∧ c ≤ maxLen ∧ ∀ i, (h : i < ls.length) → ∃ a u, ao = some a ∧ w.cell? (a.add i) = some u ∧ Ru w u ls[i]
theorem rus_three {w : World} {x y z : Value} {a b c : List UInt64} (h1 : Ru w x a) (h2 : Ru w y b) (h3 : Ru w z c) (t : TypeId) (g : Nat) (hg : g = w.heap.size) : RuS (w.alloc (.cells #[x, y, z] t)) (.slice (some ⟨g, 0, none⟩) 3 3) [a, b, c] := by
  subst hg
  have hb := u_al w (.cells #[x, y, z] t)
  have hc : ∀ j u, #[x, y, z][j]? = some u → (w.alloc (.cells #[x, y, z] t)).cell? ⟨w.heap.size, j, none⟩ = some u := fun j u e => by
    rw [World.cell?_alloc_at _ _ _ _ rfl]; exact e
  refine ⟨some ⟨w.heap.size, 0, none⟩, 3, rfl, by simp, by simp [maxLen], fun i hi => ?_⟩
  match i, hi with
  | 0, _ => exact ⟨_, x, rfl, hc 0 x rfl, h1.below hb (Nat.le_refl _)⟩
  | 1, _ => exact ⟨_, y, rfl, hc 1 y rfl, h2.below hb (Nat.le_refl _)⟩
  | 2, _ => exact ⟨_, z, rfl, hc 2 z rfl, h3.below hb (Nat.le_refl _)⟩

theorem flat_le (ls : List (List UInt64)) (k : Nat) : (ls.take k).flatten.length ≤ ls.flatten.length := by
  have : ls.flatten = (ls.take k).flatten ++ (ls.drop k).flatten := by rw [← List.flatten_append, List.take_append_drop]
  rw [this]; simp

set_option maxHeartbeats 1000000 in
theorem uconcat_any {v : Value} {ls : List (List UInt64)} {w : World} (hr : RuS w v ls) (hn : ls.length ≤ 1099511627776) (hl : ls.flatten.length ≤ 1099511627776) :
    Calls Try.prog 44 #[v] w fun e w' => ∃ v', e = .returned v' ∧ Ou w.heap.size w' v' ls.flatten ∧ Below w.heap.size w w' := by
  obtain ⟨ao, c, rfl, h1, h2, h4⟩ := hr
  unfold maxLen at h2
  have hfl := flat_le ls
  go_enter Try.func44, Try.ntmps44
  go_wp2_with fail
  go_loopw [3, 5, 11] (fun sz _ i wr => ∃ k q : Nat, k ≤ ls.length ∧ i = .int .i64 k ∧ sz = .int .i64 q ∧ Hid (q = (ls.take k).flatten.length) ∧ wr = w) (fun _ _ i _ => ls.length - (intOf i).toNat)
  case atStart => exact ⟨0, 0, Nat.zero_le _, rfl, rfl, by show 0 = _; simp, rfl⟩
  case round =>
    obtain ⟨k, q, hk, rfl, rfl, HQ, hwr⟩ := hrel
    obtain rfl : w = wr := hwr.symm
    clear hwr
    have hq := HQ.out
    have hqk := hfl k
    have hq2 : q ≤ 1099511627776 := by omega
    clear hq hqk
    by_cases hlt : k < ls.length
    · obtain ⟨a, u, rfl, hc, hru⟩ := h4 k hlt
      have HT : Hid ((ls.take (k + 1)).flatten.length = q + ls[k].length) := by
        show _ = _
        rw [List.take_succ_eq_append_getElem hlt, HQ.out, List.flatten_append, List.length_append]; simp
      have hk1 := hfl (k + 1)
      have hq3 : q + ls[k].length ≤ 1099511627776 := by rw [← HT.out]; omega
      obtain ⟨au, cu, rfl⟩ := hru.shape
      clear h4 hru hk1 hfl
      generalize ls[k].length = m at *
      go_wp2_with fail
      exact ⟨⟨k + 1, q + m, by omega, by go_num, by go_num, HT.out.symm, trivial⟩, by simp [intOf]; omega⟩
    · obtain rfl : k = ls.length := by omega
      clear hfl
      go_wp2_with fail
      refine (ugrow_any q w hq2).mono ?_
      rintro e w1 ⟨v1, rfl, ho1, hb1⟩
      go_wp2_with fail
      go_loopw [6, 8, 27] (fun nv _ i wr => ∃ k : Nat, k ≤ ls.length ∧ i = .int .i64 k ∧ Ou w.heap.size wr nv (ls.take k).flatten ∧ Below w.heap.size w wr) (fun _ _ i _ => ls.length - (intOf i).toNat)
      case atStart => exact ⟨0, Nat.zero_le _, rfl, by simpa using ho1, hb1⟩
      case round =>
        obtain ⟨k, hk, rfl, ho, hb⟩ := hrel
        have hB := hb.size
        clear ho1 hb1
        by_cases hlt2 : k < ls.length
        · obtain ⟨a, u, rfl, hc, hru⟩ := h4 k hlt2
          have hcx : wr.cell? (a.add k) = some u := by rw [hb.cell (World.block_lt_of_cell? w _ hc)]; exact hc
          have HT : Hid ((ls.take (k + 1)).flatten = (ls.take k).flatten ++ ls[k]) := by
            show _ = _
            rw [List.take_succ_eq_append_getElem hlt2, List.flatten_append]; simp
          have hl2 : (ls.take k).flatten.length + ls[k].length ≤ 1099511627776 := by
            have := flat_le ls (k + 1)
            rw [HT.out, List.length_append] at this
            omega
          have hru' := hru.below hb (Nat.le_refl _)
          obtain ⟨au, cu, rfl⟩ := hru.shape
          clear h4 hru hc
          generalize (ls.take k).flatten = cur at *
          generalize ls[k] = fk at *
          go_wp2_with (first | (at_builtin; refine wpList_appU rfl _ _ rfl w.heap.size _ cur rfl ho _ fk rfl hru' hB (by omega) ?_; intro v4 w4 ho4 hg4 hw4) | fail)
          refine ⟨⟨k + 1, by omega, by go_num, by rw [HT.out]; exact ho4, hb.trans ((Below.refl _ _).grown hg4 hB (fun b e => (ho.lt b e).1))⟩, by simp [intOf]; omega⟩
        · obtain rfl : k = ls.length := by omega
          rw [List.take_length] at ho
          clear h4
          go_wp2_with fail
          go_ret
          exact ⟨_, rfl, ho, hb⟩
end Go.Proofs.Ytgienommkifbnaa

/- slices.Equal and Clone at uint64. -/
namespace Go.Proofs.Ytgienommkifbnaa
open Go.RowKit
set_option linter.unusedVariables false
set_option maxRecDepth 100000

theorem Ou.lit0 (B : Nat) (w : World) (hB : B ≤ w.heap.size) : Ou B (w.alloc (.cells #[] 35)) (.slice (some ⟨w.heap.size, 0, none⟩) 0 0) [] := World.ownsRow_made w #[] 0 hB (by simp) rfl

theorem uclone_any {v : Value} {l : List UInt64} {w : World} (hr : Ru w v l) (hl : l.length ≤ 1099511627776) :
    Calls Try.prog 58 #[v] w fun e w' => ∃ v', e = .returned v' ∧ Ou w.heap.size w' v' l ∧ Below w.heap.size w w' := by
  have q : ∀ (w : World) (a : Option Addr) (n c n' c' : Nat), (binOp .eql 22 (.slice a n c) (.slice none n' c')).run Try.prog w = .ok (.bool a.isNone) w := fun w a n c n' c' => Lib.run_eql_slice_nil w _ _ a n c n' c' Try.underlying22
  rcases hr.two with ⟨rfl, rfl⟩ | ⟨a, c, hv, h1, h2, h3⟩
  · go_enter Try.func58, Try.ntmps58
    go_wp2
    go_ret
    exact ⟨_, rfl, Ou.nil _ _, Below.refl _ _⟩
  · subst hv
    go_enter Try.func58, Try.ntmps58
    go_wp2_with (first | (at_builtin; refine wpList_appU rfl _ _ rfl w.heap.size _ [] rfl (Ou.lit0 _ _ (Nat.le_refl _)) _ l rfl (hr.alloc _) (by simp) (by simp; omega) ?_; intro v' w' ho' hg' hw') | fail)
    go_ret
    exact ⟨_, rfl, ho', (u_al w _).trans ((Below.refl _ _).grown hg' (by simp) (fun k hk => Nat.le_of_eq (Option.some.inj hk)))⟩
end Go.Proofs.Ytgienommkifbnaa
