/- Stores: who was heard of within so many ticks. -/
import Derived.Test.YtefhinopppdjbaaGreatG47
namespace Go.Proofs.YtefhinopppdjbaaGreat
open Go.RowKit Go.Maps
set_option linter.unusedVariables false
set_option linter.unusedSimpArgs false
set_option maxRecDepth 100000

/-- Was it heard of since then? -/
def sinceF (f : Int → Option Nat) (si : Nat) (x : Int) : Bool := match f x with
  | some c => decide (si ≤ c)
  | none => false
section
variable {B n p : Nat} {f : Int → Option Nat} {w w' : World} {d : DC}
theorem ks_small {D : DataW Unit} {m : Nat} (h : HdI B m n D f w) (xs : List Int) (hx : KsI D xs) : xs.length ≤ 12 := by
  have hs : xs ⊆ [1, 2, 3, 4, 5] := fun x hx' => by
    have h1 := (hx.2.1 x).1 hx'
    rw [h.has x] at h1
    have := h.ks x h1
    have : x = 1 ∨ x = 2 ∨ x = 3 ∨ x = 4 ∨ x = 5 := by omega
    rcases this with rfl | rfl | rfl | rfl | rfl <;> simp
  have := hx.1.length_le_of_subset hs
  simp at this
  omega
set_option maxHeartbeats 4000000 in
theorem stores_any (wi : Nat) (hwi : wi < 18446744073709551616) (hcl : d.c < 18446744073709551616) (hd : Drv p d w) (h : Hd B d.hm n f w) (hn : n ≤ 1048576) :
    Calls Tryz.prog 11 #[.pointer (some ⟨p, 0, none⟩), .int .u64 (wi : Int)] w fun e w' => ∃ v r, e = .returned v ∧ Oj w.heap.size w' v r ∧ r.Pairwise (fun x y => x < y) ∧ (∀ x, x ∈ r ↔ sinceF f (d.c - min wi d.c) x = true) ∧ Below w.heap.size w w' := by
  obtain ⟨D, hI⟩ := h
  have hml := hI.lt
  have hpl := hd.lt
  have p2 : w.cell? ⟨p, 2, none⟩ = some (.int .u64 (d.c : Int)) := hd.at_ rfl
  have p4 : w.cell? ⟨p, 4, none⟩ = some (.map (some d.hm)) := hd.at_ rfl
  obtain ⟨mn, hmn⟩ : ∃ mn, min wi d.c = mn := ⟨_, rfl⟩
  obtain ⟨si, hsi⟩ : ∃ si, d.c - mn = si := ⟨_, rfl⟩
  rw [hmn, hsi]
  have gm : min (wi : Int) (d.c : Int) = (mn : Int) := by omega
  have gs : (d.c : Int) - (mn : Int) = (si : Int) := by omega
  have gs2 : IntKind.u64.wrap (si : Int) = (si : Int) := by rw [IntKind.wrap_u64]; omega
  clear hmn hsi
  go_enter Tryz.func11, Tryz.ntmps11
  go_wp2_with fail
  go_region
  go_wp2_with fail
  refine (keysI_any _ _).mono ?_
  rintro e w1 ⟨rfl, hw1⟩
  have hb1 : Below w.heap.size w w1 := by rw [hw1]; exact (Below.dN w 1).alloc (Nat.le_refl _) _
  have hm1 : w1.cell? ⟨w.heap.size, 0, none⟩ = some (.map (some d.hm)) := by
    rw [hw1]
    show (World.alloc w.drew (.cells #[.map (some d.hm)] 46)).cell? ⟨w.drew.heap.size, 0, none⟩ = _
    rw [World.cell?_alloc_at _ _ _ _ rfl]; rfl
  have hz1 : w1.heap.size = w.heap.size + 1 := by rw [hw1]; simp
  have hI1 := hI.next (Chg.of_below hb1) (fun q => by omega)
  have hsr := sortedI_any hm1 hI1.map (by have := hI1.map.size_le; omega) (ks_small hI1)
  clear hw1
  go_wp2_with fail
  refine hsr.mono ?_
  rintro e w2 ⟨v, xs, rfl, ho, hks, hpw, hb2⟩
  have hI2 := hI1.next (Chg.of_below hb2) (fun q => by have := hI1.lt; omega)
  have hB2 : Below w.heap.size w w2 := hb1.trans (hb2.mono hb1.size)
  have hx12 := ks_small hI1 xs hks
  have q4 : w2.cell? ⟨p, 4, none⟩ = some (.map (some d.hm)) := by rw [hB2.cell hpl]; exact p4
  have hrj := ho.rj
  obtain ⟨ao, co, rfl, l1, l2, l3, l4⟩ := hrj
  unfold maxLen at l2
  have HPOST : Hid ((xs.filter (sinceF f si)).Pairwise (fun x y => x < y) ∧ ∀ x, x ∈ xs.filter (sinceF f si) ↔ sinceF f si x = true) := by
    have h1 : xs.Pairwise (fun x y => x < y) := by
      refine List.Pairwise.imp₂ (fun a b h1 h2 => ?_) hpw (List.nodup_iff_pairwise_ne.1 hks.1)
      omega
    refine ⟨h1.filter _, fun x => ?_⟩
    rw [List.mem_filter]
    constructor
    · exact fun q => q.2
    · intro q
      refine ⟨(hks.2.1 x).2 ?_, q⟩
      rw [hI1.has x]
      unfold sinceF at q
      cases hf : f x with
      | none => rw [hf] at q; cases q
      | some c => rfl
  have HKS : Hid (∀ x ∈ xs, ∃ c, f x = some c) := fun x hx => by
    have := (hks.2.1 x).1 hx
    rw [hI1.has x] at this
    exact Option.isSome_iff_exists.1 this
  have hal : ∀ i, i < xs.length → ∃ a, ao = some a ∧ a.block < w2.heap.size := fun i hi => by
    obtain ⟨a, e, hc⟩ := l4 i hi
    exact ⟨a, e, by have := World.block_lt_of_cell? w2 _ hc; rw [add_block] at this; exact this⟩
  clear hks hpw hsr ho hm1 hI1 hb1 hb2 p2 p4 gm gs gs2
  go_wp2_with fail
  go_loopw [27, 6, 8] (fun ks ls _ wr => ∃ k : Nat, k ≤ xs.length ∧ ks = .int .i64 k ∧ Oj w2.heap.size wr ls ((xs.take k).filter (sinceF f si)) ∧ Below w2.heap.size w2 wr) (fun ks _ _ _ => xs.length - (intOf ks).toNat)
  case atStart => exact ⟨0, Nat.zero_le _, rfl, Oj.nil _ _, Below.refl _ _⟩
  case round =>
    obtain ⟨k, hk, rfl, ho, hbl⟩ := hrel
    have hsz := hbl.size
    by_cases hkl : k < xs.length
    · obtain ⟨a, rfl, hcx⟩ := l4 k hkl
      have hcw : wr.cell? (a.add k) = some (.int .i64 xs[k]) := by rw [hbl.cell (World.block_lt_of_cell? w2 _ hcx)]; exact hcx
      obtain ⟨c, hc⟩ := HKS.out xs[k] (List.getElem_mem hkl)
      have hlk := (hI2.next (Chg.of_below hbl) (fun q => by have := hI2.lt; omega)).look hc
      have q4r : wr.cell? ⟨p, 4, none⟩ = some (.map (some d.hm)) := by rw [hbl.cell (World.block_lt_of_cell? w2 _ q4)]; exact q4
      have hki : (k : Int) < (xs.length : Int) := by omega
      have hql : ((xs.take k).filter (sinceF f si)).length ≤ k := Nat.le_trans (List.length_filter_le _ _) (by rw [List.length_take]; omega)
      have HT : Hid ((xs.take (k + 1)).filter (sinceF f si) = (xs.take k).filter (sinceF f si) ++ (if si ≤ c then [xs[k]] else [])) := by
        show _ = _
        rw [List.take_succ_eq_append_getElem hkl, List.filter_append]
        congr 1
        have : sinceF f si xs[k] = decide (si ≤ c) := by unfold sinceF; rw [hc]
        by_cases q : si ≤ c <;> simp [List.filter_cons, this, q]
      clear hcx hc
      generalize xs[k] = x at *
      generalize (xs.take k).filter (sinceF f si) = r at *
      by_cases hsc : si ≤ c
      · have hsi : (c : Int) ≥ (si : Int) := by omega
        rw [if_pos hsc] at HT
        have HB2 : Hid (∀ {W' : World} (o2 : Obj), (wr.alloc o2).grownBy W' u6.ownBlock → Below w2.heap.size w2 W') := fun {W'} o2 hg => by
          have b1 : Below w2.heap.size w2 (wr.alloc o2) := hbl.alloc hsz _
          refine b1.grown hg b1.size (fun q e => ?_)
          exact (World.ownsRow.lt ho q e).1
        clear hsc
        go_wp2_with (first | (at_builtin; refine wpList_appJ rfl _ _ rfl w2.heap.size _ _ rfl (ho.alloc _) _ [x] rfl (rj_one wr _ _ ?e1 _ _ rfl) ?e2 ?e3 ?_; rotate_right; intro v4 w5 ho4 hg4 hw4) | fail)
        case e1 => rfl
        case e2 => (try simp) <;> omega
        case e3 => (try simp) <;> omega
        exact ⟨⟨k + 1, by omega, by go_num, by rw [HT.out]; exact ho4, HB2.out _ hg4⟩, by simp [intOf]; omega⟩
      · have hsi : ¬ (c : Int) ≥ (si : Int) := by omega
        rw [if_neg hsc, List.append_nil] at HT
        clear hsc
        go_wp2_with fail
        exact ⟨⟨k + 1, by omega, by go_num, by rw [HT.out]; exact ho, hbl⟩, by simp [intOf]; omega⟩
    · obtain rfl : k = xs.length := by omega
      rw [List.take_of_length_le (Nat.le_refl _)] at ho
      obtain ⟨a5, c5, e5⟩ := ho.shape
      subst e5
      have HO : Hid _ := ho.mono hB2.size
      clear ho
      go_wp2_with fail
      go_ret
      exact ⟨_, _, rfl, HO.out, HPOST.out.1, HPOST.out.2, hB2.trans (hbl.mono hB2.size)⟩
end
end Go.Proofs.YtefhinopppdjbaaGreat
