/- raise, Safe, Registered. -/
import Derived.Test.YtefhinopppdjbaaGreatG27
import Derived.Test.YtefhinopppdjbaaGreatG43
namespace Go.Proofs.YtefhinopppdjbaaGreat
open Go.RowKit
set_option linter.unusedVariables false
set_option linter.unusedSimpArgs false
set_option maxRecDepth 100000

def lsF (t : Nat) (l : List EN) : Nat := l.foldl (fun a e => min a (e.1.toNat - 1)) t
theorem lsF_snoc (t : Nat) (l : List EN) (e : EN) : lsF t (l ++ [e]) = min (lsF t l) (e.1.toNat - 1) := by simp [lsF]
theorem lsF_le (t : Nat) (l : List EN) : lsF t l ≤ t := by
  induction l generalizing t with
  | nil => exact Nat.le_refl _
  | cons e l ih => exact Nat.le_trans (ih (min t (e.1.toNat - 1))) (Nat.min_le_left _ _)
section
variable {B p : Nat} {d : DC} {w w' : World} {H : List EN}
theorem safe_any {p : Nat} {d : DC} {w : World} (h : Drv p d w) : Calls Tryz.prog 8 #[.pointer (some ⟨p, 0, none⟩)] w fun e w' => e = .returned (.int .u64 (d.s : Int)) ∧ w' = w := by
  have p2 : w.cell? ⟨p, 3, none⟩ = some (.int .u64 (d.s : Int)) := h.at_ rfl
  go_enter Tryz.func8, Tryz.ntmps8
  go_wp2_with fail
  go_ret
  exact ⟨rfl, rfl⟩
set_option maxHeartbeats 2000000 in
theorem raise_any (c : PC) (hts : c.ts < 18446744073709551616) (hs : d.s < 18446744073709551616) (hpos : ∀ e ∈ H, 1 ≤ e.1.toNat) (hl : H.length ≤ 1099511627776) (h : Rg B p d w H) :
    Calls Tryz.prog 24 #[.pointer (some ⟨p, 0, none⟩), .agg (pcA c)] w fun e w' => e = .returned (prA 0 ((max d.s (lsF c.ts H) : Nat) : Int) 0) ∧ Drv p { d with s := max d.s (lsF c.ts H) } w' ∧ Chg (fun b => b = p) w w' := by
  have hbx := Bxd.new c w
  have hB0 := (two_new w (.cells (pcA c) 38) (.cells #[.int .i64 0, .int .u64 0, .int .i64 0] 29)).2.2
  have hpx := h.drv.lt
  have hr := h.below hB0 (Nat.le_refl _)
  obtain ⟨M, hM⟩ : ∃ M, max d.s (lsF c.ts H) = M := ⟨_, rfl⟩
  rw [hM]
  have HM : Hid _ := hM
  clear hM
  go_enter Tryz.func24, Tryz.ntmps24
  go_upto_region 1 with fail
  generalize World.alloc (World.alloc w _) _ = W at *
  have c2 : W.cell? ⟨w.heap.size, 2, none⟩ = some (.int .u64 (c.ts : Int)) := hbx.at_ rfl
  have p6 : W.cell? ⟨p, 6, none⟩ = some (.slice d.ev.1 d.ev.2.1 d.ev.2.2) := hr.drv.at_ rfl
  rw [hr.len] at p6
  go_wp2_with fail
  go_loopw [15, 5, 7] (fun ks ls _ wr => ∃ k : Nat, k ≤ H.length ∧ ks = .int .i64 k ∧ ls = .int .u64 ((lsF c.ts (H.take k) : Nat) : Int) ∧ Below W.heap.size W wr) (fun ks _ _ _ => H.length - (intOf ks).toNat)
  case atStart => exact ⟨0, Nat.zero_le _, rfl, rfl, Below.refl _ _⟩
  case round =>
    obtain ⟨k, hk, rfl, rfl, hbl⟩ := hrel
    have hla := lsF_le c.ts (H.take k)
    by_cases hkl : k < H.length
    · obtain ⟨e, he⟩ : ∃ e, H[k]? = some e := ⟨_, List.getElem?_eq_getElem hkl⟩
      have hrr := hr.below hbl (Nat.le_refl _)
      obtain ⟨g, cc, hd, h1, h2, hi, a0, a1, fr⟩ := hrr.at_ he
      unfold maxLen at h2
      have hd1 : d.ev.1 = some ⟨g, 0, none⟩ := by rw [hd]
      obtain rfl : d.ev.2.2 = cc := by rw [hd]
      have hki : (k : Int) < (H.length : Int) := by omega
      have hpe := hpos e (List.mem_of_getElem? he)
      have hel := e.1.toNat_lt
      have hsub : IntKind.u64.wrap ((e.1.toNat : Int) - 1) = ((e.1.toNat - 1 : Nat) : Int) := by rw [IntKind.wrap_u64]; omega
      have HL : Hid (lsF c.ts (H.take (k + 1)) = min (lsF c.ts (H.take k)) (e.1.toNat - 1)) := by
        show _ = _
        obtain ⟨q1, q2⟩ := List.getElem?_eq_some_iff.1 he
        rw [List.take_succ_eq_append_getElem q1, q2, lsF_snoc]
      have hgl : g ≠ wr.heap.size := by have := World.block_lt_of_cell? wr _ a0; intro q; subst q; simp at this
      rw [hd1]
      generalize lsF c.ts (H.take k) = a at *
      clear hd hd1 he hrr
      obtain ⟨x1, x2⟩ := e
      simp only [] at *
      go_wp2_with fail
      refine ⟨⟨k + 1, by omega, by go_num, congrArg (Value.int .u64) ?_, hbl.trans (((Below.refl _ _).alloc (Nat.le_refl _) _).mono hbl.size)⟩, by simp [intOf]; omega⟩
      rw [HL.out]; omega
    · obtain rfl : k = H.length := by omega
      rw [List.take_of_length_le (Nat.le_refl _)] at hla ⊢
      have hrr := hr.below hbl (Nat.le_refl _)
      have hbx1 := hbx.below hbl
      have p3 : wr.cell? ⟨p, 3, none⟩ = some (.int .u64 (d.s : Int)) := hrr.drv.at_ rfl
      have f3 := hrr.drv.froz 3
      have hM := HM.out
      have gM : max (d.s : Int) ((lsF c.ts H : Nat) : Int) = (M : Int) := by omega
      have gM2 : (if d.s < lsF c.ts H then ((lsF c.ts H : Nat) : Int) else (d.s : Int)) = (M : Int) := by split <;> omega
      clear HM
      generalize lsF c.ts H = L at *
      have hd1 := hrr.drv.setS M
      have hc1 := (chg_bl (S := fun b => b = p) hbl).trans ((chg_p p 3 (.int .u64 (M : Int)) wr).mono (fun b _ q => .inl q))
      have hbx2 := hbx1.next (chg_p p 3 (.int .u64 (M : Int)) wr) (by show ¬ _ = p; omega) (by show ¬ _ = p; omega)
      clear hM hrr hbx1
      have p3' : (wr.setCell ⟨p, 3, none⟩ (.int .u64 (M : Int))).cell? ⟨p, 3, none⟩ = some (.int .u64 (M : Int)) := hd1.at_ rfl
      go_upto_region 8 with fail
      generalize World.setCell wr ⟨p, 3, none⟩ _ = W5 at *
      obtain ⟨r0, r1, r2, f5, f6, f7⟩ := hbx2.rs
      clear p3 f3
      go_wp2_with fail
      obtain ⟨⟨k0, k1, k2⟩, hc⟩ := pr_fin hbx2.res (.int .i64 0) (.int .u64 (M : Int)) (.int .i64 0)
      have hfin := fin_chg hB0 hc1 hc
      have hd2 := hd1.next hc (by show ¬ p = _; omega)
      clear hc hc1 hbx2 hd1
      generalize World.setCell _ ⟨_, 2, none⟩ _ = wz at *
      refine bodyPost_ret (v := prA 0 (M : Int) 0) (by simp [results, Tryz.results24, go_sem, k0, k1, k2]; try rfl) rfl ?_
      exact ⟨rfl, hd2, hfin⟩

set_option maxHeartbeats 2000000 in
theorem registered_any (hl : H.length ≤ 1099511627776) (h : Rg B p d w H) :
    Calls Tryz.prog 9 #[.pointer (some ⟨p, 0, none⟩)] w fun e w' => ∃ v l, e = .returned v ∧ Ou w.heap.size w' v l ∧ l.Perm (H.map (·.1)) ∧ l.Pairwise (fun x y => x.toNat ≤ y.toNat) ∧ Below w.heap.size w w' := by
  have p6 : w.cell? ⟨p, 6, none⟩ = some (.slice d.ev.1 d.ev.2.1 d.ev.2.2) := h.drv.at_ rfl
  rw [h.len] at p6
  go_enter Tryz.func9, Tryz.ntmps9
  go_wp2_with fail
  go_loopw [11, 3, 5] (fun ks ls _ wr => ∃ k : Nat, k ≤ H.length ∧ ks = .int .i64 k ∧ Ou w.heap.size wr ls ((H.take k).map (·.1)) ∧ Below w.heap.size w wr) (fun ks _ _ _ => H.length - (intOf ks).toNat)
  case atStart => exact ⟨0, Nat.zero_le _, rfl, World.ownsRow_nil _ _ _ _, Below.refl _ _⟩
  case round =>
    obtain ⟨k, hk, rfl, ho, hbl⟩ := hrel
    have hsz := hbl.size
    by_cases hkl : k < H.length
    · obtain ⟨e, he⟩ : ∃ e, H[k]? = some e := ⟨_, List.getElem?_eq_getElem hkl⟩
      have hrr := h.below hbl (Nat.le_refl _)
      obtain ⟨g, cc, hd, h1, h2, hi, a0, a1, fr⟩ := hrr.at_ he
      unfold maxLen at h2
      have hd1 : d.ev.1 = some ⟨g, 0, none⟩ := by rw [hd]
      obtain rfl : d.ev.2.2 = cc := by rw [hd]
      have hki : (k : Int) < (H.length : Int) := by omega
      have hql : ((H.take k).map (·.1)).length ≤ k := by rw [List.length_map, List.length_take]; omega
      have HL : Hid ((H.take (k + 1)).map (·.1) = (H.take k).map (·.1) ++ [e.1]) := by
        show _ = _
        obtain ⟨q1, q2⟩ := List.getElem?_eq_some_iff.1 he
        rw [List.take_succ_eq_append_getElem q1, q2, List.map_append]; rfl
      have hgl : g ≠ wr.heap.size := by have := World.block_lt_of_cell? wr _ a0; intro q; subst q; simp at this
      have HB2 : Hid (∀ {W' : World} (o1 o2 : Obj), ((wr.alloc o1).alloc o2).grownBy W' u3.ownBlock → Below w.heap.size w W') := fun {W'} o1 o2 hg => by
        have b1 : Below w.heap.size w ((wr.alloc o1).alloc o2) := (hbl.alloc hsz _).alloc (by simp; omega) _
        refine b1.grown hg b1.size (fun q e => ?_)
        exact (World.ownsRow.lt ho q e).1
      rw [hd1]
      have hoA := fun o1 o2 => (ho.alloc o1).alloc o2
      clear hd hd1 he hrr
      obtain ⟨x1, x2⟩ := e
      simp only [] at *
      go_wp2_with (first | (at_builtin; refine wpList_appU rfl _ _ rfl w.heap.size _ _ rfl (hoA _ _) _ [x1] rfl (ru_one (wr.alloc _) _ _ ?e1 _ _ (by simp)) ?e2 ?e3 ?_; rotate_right; intro v4 w5 ho4 hg4 hw4) | fail)
      case e1 => rfl
      case e2 => (try simp) <;> omega
      case e3 => (try simp) <;> omega
      exact ⟨⟨k + 1, by omega, by go_num, by rw [HL.out]; exact ho4, HB2.out _ _ hg4⟩, by simp [intOf]; omega⟩
    · obtain rfl : k = H.length := by omega
      rw [List.take_of_length_le (Nat.le_refl _)] at ho
      have hso := usort_any w.heap.size wr _ _ ho (by simp; omega)
      have hov := ho
      obtain ⟨ao, no, co, eo⟩ := row_shape ho
      have HB3 : Hid (∀ W', Chg (fun b => (Value.slice ao no co).ownBlock = some b) wr W' → Below w.heap.size w W') := fun W' hc => by
        refine hbl.trans (Chg.below hc (fun b q => ?_) hsz)
        rw [← eo] at q
        exact (World.ownsRow.lt hov b q).1
      subst eo
      clear hov ho
      go_wp2_with fail
      refine hso.mono ?_
      rintro e w5 ⟨rfl, ⟨l', hl1, hl2, hl3⟩, hc⟩
      have HZ : Hid _ := And.intro hl1 (And.intro hl2 hl3)
      have HZ2 : Hid _ := HB3.out _ hc
      clear hl1 hl2 hl3 hc hso HB3
      go_wp2_with fail
      go_ret
      exact ⟨_, l', rfl, HZ.out.1, HZ.out.2.1, HZ.out.2.2, HZ2.out⟩
end
end Go.Proofs.YtefhinopppdjbaaGreat
