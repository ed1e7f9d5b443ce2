/- Plain mathematics of a heap of which one place may be wrong both ways. -/
import Derived.Test.YtedfjacmaidhkaaGreatG2
import Derived.Shelf.SlSortCmp.WholeK
import Derived.WalkKit
import Derived.Test.YtedfjacmaidhkaaGreatProg
import Derived.StillTailTactics
import Derived.Deep.RegionHeld3
namespace Go.Proofs.YtedfjacmaidhkaaGreat.M
set_option maxRecDepth 100000
set_option linter.unusedVariables false

section
variable {α : Type} {lt : α → α → Bool}
variable (lt)
/-- Of the first n none stands ahead of its parent, but perhaps the one at j, or those whose parent is j. -/
def HpX (H : List α) (n j : Nat) : Prop := (∀ i x y, 0 < i → i < n → i ≠ j → (i - 1) / 2 ≠ j → H[i]? = some x → H[(i - 1) / 2]? = some y → lt x y = false) ∧ ∀ i x y, 0 < i → i < n → 0 < j → (i - 1) / 2 = j → H[i]? = some x → H[(j - 1) / 2]? = some y → lt x y = false
variable {lt}
theorem HpX.none {H : List α} {n j : Nat} (h : HpX lt H n j) (hn : n ≤ 2 * j + 1) : HpU lt H n j :=
  ⟨fun i x y h1 h2 h3 => h.1 i x y h1 h2 h3 (by omega), h.2⟩
theorem HpX.ok {H : List α} {n j c : Nat} {x z : α} (tr : ∀ a b c : α, lt b a = false → lt c b = false → lt c a = false) (h : HpX lt H n j) (hx : H[j]? = some x) (hz : H[c]? = some z) (hc : ∀ k a, 0 < k → k < n → (k - 1) / 2 = j → H[k]? = some a → lt a z = false) (hl : lt z x = false) : HpU lt H n j := by
  refine ⟨fun i a b h1 h2 h3 ha hb => ?_, h.2⟩
  by_cases e : (i - 1) / 2 = j
  · rw [e, hx] at hb
    obtain rfl := Option.some.inj hb
    exact tr _ _ _ hl (hc i a h1 h2 e ha)
  · exact h.1 i a b h1 h2 h3 e ha hb
theorem HpX.down {H : List α} {n j c : Nat} {x z : α} (asy : ∀ a b : α, lt a b = true → lt b a = false) (hn : n ≤ H.length) (hc0 : 0 < c) (hcn : c < n) (hcj : (c - 1) / 2 = j) (h : HpX lt H n j) (hx : H[j]? = some x) (hz : H[c]? = some z) (hc : ∀ k a, 0 < k → k < n → (k - 1) / 2 = j → H[k]? = some a → lt a z = false) (hl : lt z x = true) : HpD lt (sw H j c) n c := by
  obtain ⟨h1, h2⟩ := h
  have hxz := asy _ _ hl
  have at_ := fun k => sw_at (H := H) (i := j) (j := c) (by omega) (by omega) k
  constructor
  · intro k a b k0 kn kc ha hb
    rw [at_] at ha hb
    rw [if_neg kc] at hb
    by_cases e1 : k = c
    · subst e1
      rw [if_pos rfl, hx] at ha
      rw [if_pos hcj, hz] at hb
      obtain rfl := Option.some.inj ha
      obtain rfl := Option.some.inj hb
      exact hxz
    · rw [if_neg e1] at ha
      by_cases e2 : (k - 1) / 2 = j
      · rw [if_pos e2, hz] at hb
        obtain rfl := Option.some.inj hb
        rw [if_neg (by omega)] at ha
        exact hc k a k0 kn e2 ha
      · rw [if_neg e2] at hb
        by_cases e3 : k = j
        · subst e3
          rw [if_pos rfl, hz] at ha
          obtain rfl := Option.some.inj ha
          exact h2 c z b hc0 hcn k0 hcj hz hb
        · rw [if_neg e3] at ha
          exact h1 k a b k0 kn e3 e2 ha hb
  · intro k a b k0 kn c0 ek ha hb
    rw [at_] at ha hb
    rw [hcj, if_neg (by omega), if_pos rfl, hz] at hb
    obtain rfl := Option.some.inj hb
    rw [if_neg (by omega), if_neg (by omega)] at ha
    exact h1 k a z k0 kn (by omega) (by omega) ha (by rw [ek]; exact hz)
/-- One set anew. -/
theorem Hp.setX {H : List α} {n j : Nat} (h : Hp lt H n) (hn : n ≤ H.length) (hj : j < n) (e : α) (tr : ∀ a b c : α, lt b a = false → lt c b = false → lt c a = false) : HpX lt (H.set j e) n j := by
  constructor
  · intro i x y h1 h2 h3 h4 hx hy
    rw [List.getElem?_set_ne (Ne.symm h3)] at hx
    rw [List.getElem?_set_ne (Ne.symm h4)] at hy
    exact h i x y h1 h2 hx hy
  · intro i x y h1 h2 h3 h4 hx hy
    rw [List.getElem?_set_ne (by omega)] at hx
    rw [List.getElem?_set_ne (by omega)] at hy
    obtain ⟨z, hz⟩ : ∃ z, H[j]? = some z := ⟨_, List.getElem?_eq_getElem (by omega)⟩
    exact tr _ _ _ (h j z y h3 hj hz hy) (h i x z h1 h2 hx (by rw [h4]; exact hz))
/-- One swapped with the last. -/
theorem Hp.swX {H : List α} {n j : Nat} (h : Hp lt H H.length) (hn : H.length = n + 1) (hj : j < n) (tr : ∀ a b c : α, lt b a = false → lt c b = false → lt c a = false) : HpX lt (sw H j n) n j := by
  have at_ := fun k => sw_at (H := H) (i := j) (j := n) (by omega) (by omega) k
  constructor
  · intro i x y h1 h2 h3 h4 hx hy
    rw [at_, if_neg (by omega), if_neg h3] at hx
    rw [at_, if_neg (by omega), if_neg h4] at hy
    exact h i x y h1 (by omega) hx hy
  · intro i x y h1 h2 h3 h4 hx hy
    rw [at_, if_neg (by omega), if_neg (by omega)] at hx
    rw [at_, if_neg (by omega), if_neg (by omega)] at hy
    obtain ⟨z, hz⟩ : ∃ z, H[j]? = some z := ⟨_, List.getElem?_eq_getElem (by omega)⟩
    exact tr _ _ _ (h j z y h3 (by omega) hz hy) (h i x z h1 (by omega) hx (by rw [h4]; exact hz))
theorem Hp.take {H : List α} {n : Nat} (h : Hp lt H n) : Hp lt (H.take n) n := by
  intro i a b i1 i2 ha hb
  rw [List.getElem?_take, if_pos i2] at ha
  rw [List.getElem?_take, if_pos (by omega)] at hb
  exact h i a b i1 i2 ha hb
/-- Of one swapped with the last, the first n are the others. -/
theorem sw_last {H : List α} {n j : Nat} (hn : H.length = n + 1) (hj : j < n) : ((sw H j n).take n).Perm (H.eraseIdx j) := by
  have h1 : (sw H j n).Perm H := sw_perm (by omega) (by omega)
  obtain ⟨x, hx⟩ : ∃ x, H[j]? = some x := ⟨_, List.getElem?_eq_getElem (by omega)⟩
  have e1 : sw H j n = (sw H j n).take n ++ [x] := by
    have hl : (sw H j n).length = n + 1 := by rw [sw_len, hn]
    have hg : (sw H j n)[n]? = some x := by rw [sw_at (by omega) (by omega), if_pos rfl]; exact hx
    obtain ⟨q, e⟩ := List.getElem?_eq_some_iff.1 hg
    conv => lhs; rw [← List.take_append_drop n (sw H j n)]
    rw [List.drop_eq_getElem_cons q, e, List.drop_of_length_le (by omega)]
  have e2 : H.Perm (x :: H.eraseIdx j) := by
    obtain ⟨q, e⟩ := List.getElem?_eq_some_iff.1 hx
    have e3 : H = H.take j ++ x :: H.drop (j + 1) := by
      conv => lhs; rw [← List.take_append_drop j H]
      rw [List.drop_eq_getElem_cons q, e]
    rw [List.eraseIdx_eq_take_drop_succ]
    conv => lhs; rw [e3]
    exact List.perm_middle
  have h2 : (x :: (sw H j n).take n).Perm (x :: H.eraseIdx j) := by
    refine List.Perm.trans ?_ e2
    refine List.Perm.trans ?_ h1
    conv => rhs; rw [e1]
    exact List.perm_append_comm (l₁ := [x])
  exact (List.perm_cons x).1 h2
theorem HpU.upN {H : List α} {n j : Nat} {x y : α} (tr : ∀ a b c : α, lt b a = false → lt c b = false → lt c a = false) (asy : ∀ a b : α, lt a b = true → lt b a = false) (hn : n ≤ H.length) (hj : 0 < j) (hjn : j < n) (h : HpU lt H n j) (hx : H[j]? = some x) (hy : H[(j - 1) / 2]? = some y) (hl : lt x y = true) : HpU lt (sw H ((j - 1) / 2) j) n ((j - 1) / 2) := by
  obtain ⟨h1, h2⟩ := h
  have hyx := asy _ _ hl
  have at_ := fun k => sw_at (H := H) (i := (j - 1) / 2) (j := j) (by omega) (by omega) k
  constructor
  · intro k a b k0 kn ki ha hb
    rw [at_] at ha hb
    rw [if_neg ki] at ha
    by_cases e1 : k = j
    · subst e1
      rw [if_pos rfl, hy] at ha
      rw [if_neg (by omega), if_pos rfl, hx] at hb
      obtain rfl := Option.some.inj ha
      obtain rfl := Option.some.inj hb
      exact hyx
    · rw [if_neg e1] at ha
      by_cases e2 : (k - 1) / 2 = j
      · rw [if_pos e2] at hb
        exact h2 k a b k0 kn hj e2 ha hb
      · rw [if_neg e2] at hb
        by_cases e3 : (k - 1) / 2 = (j - 1) / 2
        · rw [if_pos e3, hx] at hb
          obtain rfl := Option.some.inj hb
          have := h1 k a y k0 kn e1 ha (by rw [e3]; exact hy)
          exact tr _ _ _ hyx this
        · rw [if_neg e3] at hb
          exact h1 k a b k0 kn e1 ha hb
  · intro k a b k0 kn i0 ek ha hb
    rw [at_] at ha hb
    rw [if_neg (by omega), if_neg (by omega)] at hb
    have hyb : lt y b = false := h1 ((j - 1) / 2) y b i0 (by omega) (by omega) hy hb
    by_cases e1 : k = j
    · subst e1
      rw [if_pos rfl, hy] at ha
      obtain rfl := Option.some.inj ha
      exact hyb
    · rw [if_neg e1, if_neg (by omega)] at ha
      have := h1 k a y k0 kn e1 ha (by rw [ek]; exact hy)
      exact tr _ _ _ hyb this

end
end Go.Proofs.YtedfjacmaidhkaaGreat.M

/- The library's slices.SortFunc at this program's views: the shelf's laying, in plain words. -/
namespace Go.Proofs.YtedfjacmaidhkaaGreat
open Go.RowKit Go.Shelf

def Tryz.sortV_ren : Go.Shelf.Ren := ⟨fun | 6 => 56 | 15 => 75 | 14 => 74 | 28 => 94 | 29 => 95 | 20 => 86 | 21 => 87 | 22 => 88 | 23 => 89 | 24 => 90 | 25 => 91 | 26 => 92 | 27 => 93 | 46 => 103 | 47 => 104 | 48 => 105 | 49 => 106 | 50 => 107 | 57 => 111 | n => n, fun | 22 => 25 | 24 => 42 | 25 => 107 | 3 => 3 | 39 => 120 | 0 => 0 | 53 => 140 | 55 => 30 | 4 => 4 | 46 => 134 | 45 => 133 | 50 => 108 | 5 => 5 | 9 => 9 | 66 => 157 | 70 => 161 | 76 => 167 | 77 => 168 | n => n, fun | n => n⟩
theorem Tryz.sortV : Go.Proofs.SlLaysF0.n6 Tryz.prog Tryz.sortV_ren := {
  mixed := by kernel_rfl
  f6 := ⟨Tryz.f56.name, by decide, Tryz.func56.trans (congrArg some (by kernel_rfl))⟩
  f14 := ⟨Tryz.f74.name, by decide, Tryz.func74.trans (congrArg some (by kernel_rfl))⟩
  f15 := Tryz.func75.trans (congrArg some (by kernel_rfl))
  f20 := ⟨Tryz.f86.name, by decide, Tryz.func86.trans (congrArg some (by kernel_rfl))⟩
  f21 := ⟨Tryz.f87.name, by decide, Tryz.func87.trans (congrArg some (by kernel_rfl))⟩
  f22 := ⟨Tryz.f88.name, by decide, Tryz.func88.trans (congrArg some (by kernel_rfl))⟩
  f23 := ⟨Tryz.f89.name, by decide, Tryz.func89.trans (congrArg some (by kernel_rfl))⟩
  f24 := ⟨Tryz.f90.name, by decide, Tryz.func90.trans (congrArg some (by kernel_rfl))⟩
  f25 := ⟨Tryz.f91.name, by decide, Tryz.func91.trans (congrArg some (by kernel_rfl))⟩
  f26 := ⟨Tryz.f92.name, by decide, Tryz.func92.trans (congrArg some (by kernel_rfl))⟩
  f27 := ⟨Tryz.f93.name, by decide, Tryz.func93.trans (congrArg some (by kernel_rfl))⟩
  f28 := Tryz.func94.trans (congrArg some (by kernel_rfl))
  f29 := Tryz.func95.trans (congrArg some (by kernel_rfl))
  f46 := ⟨Tryz.f103.name, by decide, Tryz.func103.trans (congrArg some (by kernel_rfl))⟩
  f47 := Tryz.func104.trans (congrArg some (by kernel_rfl))
  f48 := Tryz.func105.trans (congrArg some (by kernel_rfl))
  f49 := ⟨Tryz.f106.name, by decide, Tryz.func106.trans (congrArg some (by kernel_rfl))⟩
  f50 := ⟨Tryz.f107.name, by decide, Tryz.func107.trans (congrArg some (by kernel_rfl))⟩
  f57 := ⟨Tryz.f111.name, by decide, Tryz.func111.trans (congrArg some (by kernel_rfl))⟩
  t0 := Tryz.underlying0
  a0 := Tryz.isAgg0
  z0 := Tryz.sizeOf0
  v0 := Tryz.zeroValue0
  t3 := Tryz.underlying3
  a3 := Tryz.isAgg3
  z3 := Tryz.sizeOf3
  v3 := Tryz.zeroValue3
  t4 := Tryz.underlying4
  a4 := Tryz.isAgg4
  z4 := Tryz.sizeOf4
  v4 := Tryz.zeroValue4
  t5 := Tryz.underlying5
  a5 := Tryz.isAgg5
  z5 := Tryz.sizeOf5
  v5 := Tryz.zeroValue5
  t9 := Tryz.underlying9
  a9 := Tryz.isAgg9
  z9 := Tryz.sizeOf9
  v9 := Tryz.zeroValue9
  t22 := Tryz.underlying25
  a22 := Tryz.isAgg25
  z22 := Tryz.sizeOf25
  v22 := Tryz.zeroValue25
  t25 := Tryz.underlying107
  a25 := Tryz.isAgg107
  z25 := Tryz.sizeOf107
  v25 := Tryz.zeroValue107
  t39 := Tryz.underlying120
  a39 := Tryz.isAgg120
  z39 := Tryz.sizeOf120
  v39 := Tryz.zeroValue120
  t45 := Tryz.underlying133
  a45 := Tryz.isAgg133
  z45 := Tryz.sizeOf133
  v45 := Tryz.zeroValue133
  t46 := Tryz.underlying134
  a46 := Tryz.isAgg134
  z46 := Tryz.sizeOf134
  v46 := Tryz.zeroValue134
  t50 := Tryz.underlying108
  a50 := Tryz.isAgg108
  z50 := Tryz.sizeOf108
  v50 := Tryz.zeroValue108
  t53 := Tryz.underlying140
  a53 := Tryz.isAgg140
  z53 := Tryz.sizeOf140
  v53 := Tryz.zeroValue140
  t55 := Tryz.underlying30
  a55 := Tryz.isAgg30
  z55 := Tryz.sizeOf30
  v55 := Tryz.zeroValue30
  t66 := Tryz.underlying157
  a66 := Tryz.isAgg157
  z66 := Tryz.sizeOf157
  v66 := Tryz.zeroValue157
  t70 := Tryz.underlying161
  a70 := Tryz.isAgg161
  z70 := Tryz.sizeOf161
  v70 := Tryz.zeroValue161
  t76 := Tryz.underlying167
  a76 := Tryz.isAgg167
  z76 := Tryz.sizeOf167
  v76 := Tryz.zeroValue167
  t77 := Tryz.underlying168
  a77 := Tryz.isAgg168
  z77 := Tryz.sizeOf168
  v77 := Tryz.zeroValue168 }

end Go.Proofs.YtedfjacmaidhkaaGreat

/- A region that draws its order, whose first operations only read and whose others all wait for them: the head is walked once, in the order of the text; of what follows any order is asked. -/
namespace Go.Proofs.YtedfjacmaidhkaaGreat
open Go
set_option linter.unusedVariables false
set_option maxRecDepth 100000

section
variable {P : Program} {ops : Array Oper} {md : Region.Mode} {w : World}

/-- Each operation behind number n waits for one that is not of the head. -/
def lateB (md : Region.Mode) (ops : Array Oper) (n : Nat) : Bool := (List.range ops.size).all fun t => decide (t ≤ n) || (List.range t).any fun s => decide (n ≤ s) && Region.waitsFor md ops t s
/-- The first n are listed, no other one. -/
def heads (ops : Array Oper) (n : Nat) : Array Bool := (List.range ops.size).toArray.map fun i => decide (i < n)

/-- While one of the head is not listed, none of the others may come up. -/
theorem late_waits {n : Nat} {listed : Array Bool} (hs : Region.sinkB md ops n = true) (hc : lateB md ops n = true) (inv : HeadInv md ops n listed) :
    ∀ (d i : Nat), n - i = d → i < n → listed.getD i true = false → ∀ t, n ≤ t → t ∉ Region.ready md ops listed := by
  intro d
  induction d using Nat.strongRecOn with
  | _ d ih =>
    intro i hd hi hun t ht hr
    obtain ⟨_, ot, hot, hall⟩ := mem_ready.1 hr
    have htl : t < ops.size := (Array.getElem?_eq_some_iff.1 hot).1
    -- an edge of t's to what is not listed
    have no : ∀ s, Region.waitsFor md ops t s = true → listed.getD s false = false → False := fun s hw hl => by
      obtain ⟨o', ho', e, he, hb, hon⟩ := Region.waitsFor_spec hw
      obtain rfl : o' = ot := Option.some.inj (ho'.symm.trans hot)
      have h2 := hall e he hb
      rw [hon, hl] at h2
      cases h2
    rcases Nat.lt_or_ge n t with htn | htn
    · have h1 := List.all_eq_true.1 hc t (List.mem_range.2 htl)
      simp only [Bool.or_eq_true, decide_eq_true_eq] at h1
      rcases h1 with h1 | h1
      · omega
      · obtain ⟨s, hs1, hs2⟩ := List.any_eq_true.1 h1
        simp only [Bool.and_eq_true, decide_eq_true_eq] at hs2
        exact no s hs2.2 (getD_both (inv.tail s hs2.1 (by have := List.mem_range.1 hs1; omega)))
    · obtain rfl : t = n := by omega
      obtain ⟨j, hj, hj2⟩ := List.any_eq_true.1 (List.all_eq_true.1 hs i (List.mem_range.2 hi))
      simp only [Bool.and_eq_true, decide_eq_true_eq] at hj2
      have hjt := List.mem_range.1 hj
      by_cases e : j = t
      · rw [e] at hj2
        exact no i hj2.2 (getD_both hun)
      · cases hl : listed.getD j false with
        | true =>
          obtain ⟨oj, hoj, e, he, hb, hon⟩ := Region.waitsFor_spec hj2.2
          have h2 := inv.closed j oj hoj hl e he hb
          rw [hon, getD_both hun] at h2
          cases h2
        | false => exact ih (t - j) (by omega) j rfl (by omega) (getD_in (by rw [inv.size]; omega) hl) t (Nat.le_refl _) hr

/-- One of the head that may come up is taken first. -/
theorem head_first {n i : Nat} {oi : Oper} {v : Value} {L : Array Bool → Act → Prop} (hi : ops[i]? = some oi) (hsel : ∀ (j : Nat) (o : Oper) cs b, ops[j]? = some o → o.op ≠ .select cs b)
    (hs : Region.sinkB md ops n = true) (hc : lateB md ops n = true) (hin : i < n) (hdone : ∀ listed a, L listed a → ∀ j ∈ Region.ready md ops listed, n ≤ j) :
    ∀ (f : Nat) (listed : Array Bool) (a : Act), HeadInv md ops n listed →
      (∀ j oj, ops[j]? = some oj → j ≠ i → listed.getD j true = false → (∀ e ∈ oj.after, Region.binds md e = true → e.on ≠ i) → oi.apart ops oj = true) →
      i ∈ Region.ready md ops listed → YieldsAt P ops w oi v a →
      wpAnyL P md ops w n L f (listed.setIfInBounds i true) (a.put oi.dst v) → wpAnyL P md ops w n L (f + 1) listed a := by
  intro f
  induction f with
  | zero =>
    intro listed a inv _ hr hy H
    have hun := (mem_ready.1 hr).1
    refine ⟨(fun h => by rw [h] at hr; cases hr), fun j hj => ?_⟩
    have hjn : j < n := Nat.lt_of_not_le (fun q => late_waits hs hc inv _ i rfl hin hun j q hj)
    by_cases e : j = i
    · subst e; exact ⟨hjn, hy.stOp hi H⟩
    · have := hdone _ _ H j (ready_mono hj e); omega
  | succ f ih =>
    intro listed a inv hfree hr hy H
    have hun := (mem_ready.1 hr).1
    refine ⟨(fun h => by rw [h] at hr; cases hr), fun j hj => ?_⟩
    have hjn : j < n := Nat.lt_of_not_le (fun q => late_waits hs hc inv _ i rfl hin hun j q hj)
    by_cases e : j = i
    · subst e; exact ⟨hjn, hy.stOp hi H⟩
    · refine ⟨hjn, ?_⟩
      obtain ⟨hjun, oj, hoj, hall⟩ := mem_ready.1 hj
      have hnot : ∀ e ∈ oj.after, Region.binds md e = true → e.on ≠ i := fun e he hb heq => by
        have h1 := hall e he hb
        rw [heq, getD_both hun] at h1
        cases h1
      refine stOp_mono (fun a' h3 => ih (listed.setIfInBounds j true) a' (inv.set hj hjn) (fun k ok hk hki hu hno => hfree k ok hk hki ?_ hno) (ready_mono hr (Ne.symm e)) h3.1 ?_)
        (stOp_put hoj (hfree j oj hoj e hjun hnot) (fun cs b => hsel i oi cs b hi) (fun cs b => hsel j oj cs b hoj) hy (H.2 j (ready_mono hj e)).2)
      · by_cases q : j = k
        · subst q; exact hjun
        · rw [getD_set_ne true q] at hu; exact hu
      · rw [Array.setIfInBounds_comm _ _ e]; exact h3.2

/-- May the first n come up in the order of the text, and do the others wait? -/
def headB (md : Region.Mode) (ops : Array Oper) (n : Nat) : Nat → Nat → Array Bool → Bool
  | 0, _, listed => decide (listed = heads ops n) && (Region.ready md ops listed).all (fun j => decide (n ≤ j))
  | f + 1, k, listed => (Region.ready md ops listed).contains k && Region.free md ops listed k && headB md ops n f (k + 1) (listed.setIfInBounds k true)
theorem head_lex {n : Nat} {Lq : Act → Prop} (hsel : Region.noSelect ops = true) (hs : Region.sinkB md ops n = true) (hc : lateB md ops n = true) :
    ∀ (l : List Oper) (k : Nat) (listed : Array Bool) (a : Act), (∀ j, j < l.length → l[j]? = ops[k + j]?) → k + l.length = n → HeadInv md ops n listed →
    headB md ops n l.length k listed = true → wpStill P ops w Lq l a →
    wpAnyL P md ops w n (fun listed' a' => (listed' = heads ops n ∧ ∀ j ∈ Region.ready md ops listed', n ≤ j) ∧ Lq a') l.length listed a
  | [], k, listed, a, _, hk, _, hB, h => by
    simp only [List.length_nil, headB, Bool.and_eq_true, decide_eq_true_eq, List.all_eq_true] at hB
    exact ⟨hB, h⟩
  | o :: l, k, listed, a, hl, hk, inv, hB, h => by
    have h0 : ops[k]? = some o := by simpa using (hl 0 (by simp)).symm
    simp only [List.length_cons, headB, Bool.and_eq_true] at hB
    obtain ⟨⟨hr, hf⟩, hB'⟩ := hB
    simp only [List.length_cons] at hk
    have hr' : k ∈ Region.ready md ops listed := by simpa using hr
    have hst : stOp P ops w k (wpStill P ops w Lq l) a := by unfold stOp; simp only [h0]; exact h
    obtain ⟨v, hy, hK⟩ := yieldsAt_of_stOp h0 hst
    exact head_first h0 (Region.noSelect_spec hsel) hs hc (by omega) (fun listed' a' hL => hL.1.2) l.length listed a inv (Region.free_spec h0 hf) hr' hy
      (head_lex hsel hs hc l (k + 1) _ _ (fun j hj => by have := hl (j + 1) (by simp; omega); simpa [Nat.add_assoc, Nat.add_comm 1 j] using this) (by omega) (inv.set hr' (by omega)) hB' hK)

def headOK (ops : Array Oper) (n : Nat) : Bool := Region.noSelect ops && decide (n < ops.size) && Region.sinkB .any ops n && lateB .any ops n && headB .any ops n n 0 (Array.replicate ops.size false)

/-- The law. -/
theorem wp_region_head {id : Nat} {Q : Exit → Act → World → Prop} {a : Act} {w : World} {l : List Oper} (n : Nat) (hm : P.follows .mixedOrders = true) (hB : headOK l.toArray n = true)
    (h : wpStill P l.toArray w.drew (fun a' => wpAny P .any l.toArray Q (l.toArray.size - n) (heads l.toArray n) a' w.drew) (l.take n) a) : (Code.region id l.toArray true).wp P Q a w := by
  simp only [headOK, Bool.and_eq_true, decide_eq_true_eq] at hB
  obtain ⟨⟨⟨⟨hsel, hn⟩, hs⟩, hc⟩, hh⟩ := hB
  have hn' : n < l.length := by simpa using hn
  have htl : (l.take n).length = n := by simp; omega
  have inv0 : HeadInv .any l.toArray n (Array.replicate l.toArray.size false) :=
    ⟨by simp, (fun j oj _ hl => by rw [getD_replicate_false] at hl; cases hl), fun t _ ht => getD_in (by simpa using ht) (getD_replicate_false _ _)⟩
  have H := head_lex (md := .any) hsel hs hc (l.take n) 0 _ a (fun j hj => by
    have hj' : j < n := by rw [htl] at hj; exact hj
    simp [hj']) (by simpa using htl) inv0 (by rw [htl]; exact hh) h
  refine wp_region_any hm ?_
  have := wpAny_of_head (Q' := Q) (g := l.toArray.size - n) (fun listed a' hL => by rw [hL.1.1]; exact hL.2) _ _ _ H
  rw [htl, show n + (l.toArray.size - n) = l.toArray.size by omega] at this
  exact this
end
end Go.Proofs.YtedfjacmaidhkaaGreat

/- A region that draws its order, of which some (L: stores into what the others read) wait for every operation that is taken first: what is held must be kept by the others alone. General: nothing of the program is named here. -/
namespace Go.Proofs.YtedfjacmaidhkaaGreat
open Go
set_option linter.unusedVariables false
set_option maxRecDepth 100000

section
variable {P : Program} {ops : Array Oper} {md : Region.Mode} {Q : Exit → Act → World → Prop} {S : World → Prop} {L : List Nat}

/-- Whatever order is picked from here on; S holds behind every operation but those of L. -/
def wpAnyN (P : Program) (md : Region.Mode) (ops : Array Oper) (Q : Exit → Act → World → Prop) (S : World → Prop) (L : List Nat) : Nat → Array Bool → Act → World → Prop
  | 0, listed, a, w => Region.ready md ops listed = [] ∧ Q .normal a w
  | fuel + 1, listed, a, w =>
    (Region.ready md ops listed = [] → Q .normal a w) ∧
    ∀ i ∈ Region.ready md ops listed, wpOp P ops Q i (fun a' w' => (L.contains i = false → S w') ∧ wpAnyN P md ops Q S L fuel (listed.setIfInBounds i true) a' w') a w
theorem wpAny_of_N : ∀ (fuel : Nat) (listed : Array Bool) (a : Act) (w : World), wpAnyN P md ops Q S L fuel listed a w → wpAny P md ops Q fuel listed a w
  | 0, _, _, _, h => h
  | fuel + 1, _, _, _, h => ⟨h.1, fun i hi => wpOp_mono (fun a' w' h' => wpAny_of_N fuel _ a' w' h'.2) (h.2 i hi)⟩
/-- Every operation of L waits for number i. -/
def lateN (md : Region.Mode) (ops : Array Oper) (L : List Nat) (i : Nat) : Bool := L.all fun t => Region.waitsFor md ops t i

theorem wpAnyN_first {i : Nat} {oi : Oper} {v : Value} (hi : ops[i]? = some oi) (hlate : lateN md ops L i = true) (hsel : ∀ (j : Nat) (o : Oper) cs b, ops[j]? = some o → o.op ≠ .select cs b)
    (hQ : ∀ c a w, Q (.panic c) (a.put oi.dst v) w → Q (.panic c) a w) :
    ∀ (fuel : Nat) (listed : Array Bool) (a : Act) (w : World),
      (∀ j oj, ops[j]? = some oj → j ≠ i → listed.getD j true = false → (∀ e ∈ oj.after, Region.binds md e = true → e.on ≠ i) → oi.apart ops oj = true) →
      i ∈ Region.ready md ops listed → YieldsIf P ops S oi v a → S w →
      wpAnyN P md ops Q S L fuel (listed.setIfInBounds i true) (a.put oi.dst v) w → wpAnyN P md ops Q S L (fuel + 1) listed a w := by
  intro fuel
  induction fuel with
  | zero =>
    intro listed a w _ hr hy hS H
    refine ⟨fun h => (by rw [h] at hr; cases hr), fun j hj => ?_⟩
    by_cases hji : j = i
    · subst hji; exact hy.wpOp hi hS ⟨fun _ => hS, H⟩
    · have := ready_mono hj hji
      rw [H.1] at this
      cases this
  | succ fuel ih =>
    intro listed a w hfree hr hy hS H
    refine ⟨fun h => (by rw [h] at hr; cases hr), fun j hj => ?_⟩
    by_cases hji : j = i
    · subst hji; exact hy.wpOp hi hS ⟨fun _ => hS, H⟩
    · have h1 := H.2 j (ready_mono hj hji)
      obtain ⟨hjun, oj, hoj, hall⟩ := mem_ready.1 hj
      have hun := (mem_ready.1 hr).1
      have hnot : ∀ e ∈ oj.after, Region.binds md e = true → e.on ≠ i := fun e he hb heq => by
        have h1 := hall e he hb
        rw [heq, getD_both hun] at h1
        cases h1
      have hjn : L.contains j = false := by
        cases hc : L.contains j with
        | false => rfl
        | true =>
          have h2 := List.all_eq_true.1 hlate j (by simpa using hc)
          obtain ⟨o', ho', e, he, hb, hon⟩ := Region.waitsFor_spec h2
          obtain rfl : o' = oj := Option.some.inj (ho'.symm.trans hoj)
          exact absurd hon (hnot e he hb)
      have h2 := wpOp_putIf hoj (hfree j oj hoj hji hjun hnot) (fun cs b => hsel i oi cs b hi) (fun cs b => hsel j oj cs b hoj) hQ hy h1
      have hfree' : ∀ k ok, ops[k]? = some ok → k ≠ i → (listed.setIfInBounds j true).getD k true = false →
          (∀ e ∈ ok.after, Region.binds md e = true → e.on ≠ i) → oi.apart ops ok = true := fun k ok hk hki hun hno => by
        refine hfree k ok hk hki ?_ hno
        by_cases hjk : j = k
        · subst hjk; exact hjun
        · rw [getD_set_ne true hjk] at hun; exact hun
      refine wpOp_mono (fun a' w' h3 => ⟨fun _ => h3.2.1 hjn, ih (listed.setIfInBounds j true) a' w' hfree' (ready_mono hr (Ne.symm hji)) h3.1 (h3.2.1 hjn) ?_⟩) h2
      rw [Array.setIfInBounds_comm _ _ hji]
      exact h3.2.2
theorem wpAnyN_take {i : Nat} {oi : Oper} {v : Value} {fuel : Nat} {listed : Array Bool} {a : Act} {w : World} (hi : ops[i]? = some oi) (hlate : lateN md ops L i = true)
    (hs : Region.noSelect ops = true) (hf : Region.free md ops listed i = true) (hr : (Region.ready md ops listed).contains i = true)
    (hQ : ∀ c a w, Q (.panic c) (a.put oi.dst v) w → Q (.panic c) a w) (hy : YieldsIf P ops S oi v a) (hS : S w)
    (h : wpAnyN P md ops Q S L fuel (listed.setIfInBounds i true) (a.put oi.dst v) w) : wpAnyN P md ops Q S L (fuel + 1) listed a w :=
  wpAnyN_first hi hlate (Region.noSelect_spec hs) hQ fuel listed a w (Region.free_spec hi hf) (by simpa using hr) hy hS h
/-- One that alone may come up. -/
theorem wpAnyN_one {i : Nat} {o : Oper} {fuel : Nat} {listed : Array Bool} {a : Act} {w : World} (hr : Region.ready md ops listed = [i]) (ho : ops[i]? = some o)
    (h : ∀ K' : Act → World → Prop, (∀ a w, (L.contains i = false → S w) → wpAnyN P md ops Q S L fuel (listed.setIfInBounds i true) a w → K' a w) → if Region.wanted o (yielded ops a.tmps) = true then Oper.wp P o a w K' Q else K' (a.put o.dst undef) w) : wpAnyN P md ops Q S L (fuel + 1) listed a w :=
  ⟨fun h0 => absurd (hr ▸ h0) (by simp), fun j hj => by
    rw [hr] at hj
    obtain rfl := List.mem_singleton.1 hj
    exact wpOp_step ho (fun K' hK => h K' (fun a w h1 h2 => hK a w ⟨h1, h2⟩))⟩
theorem wp_region_heldN {id : Nat} {a : Act} {w : World} (hm : P.follows .mixedOrders = true)
    (h : wpAnyN P .any ops Q S L ops.size (Array.replicate ops.size false) a w.drew) : (Code.region id ops true).wp P Q a w :=
  wp_region_any hm (wpAny_of_N _ _ _ _ h)
end
end Go.Proofs.YtedfjacmaidhkaaGreat
