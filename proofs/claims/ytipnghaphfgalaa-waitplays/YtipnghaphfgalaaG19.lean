/- slices.Compare of two ways; the heap's Less, Swap and Len. -/
import Derived.Test.YtipnghaphfgalaaG18
namespace Go.Proofs.Ytipnghaphfgalaa
open Go.RowKit
set_option linter.unusedVariables false
set_option maxRecDepth 100000

theorem lxl_at {a b : List UInt64} {k : Nat} (hk : k < a.length) (hb : k < b.length) (h : lxl a b = lxl (a.drop k) (b.drop k)) : lxl a b = (if a[k].toNat < b[k].toNat then -1 else if b[k].toNat < a[k].toNat then 1 else lxl (a.drop (k + 1)) (b.drop (k + 1))) := by
  rw [h, List.drop_eq_getElem_cons hk, List.drop_eq_getElem_cons hb]
  rfl
set_option maxHeartbeats 1000000 in
theorem scompare_any {va vb : Value} {a b : List UInt64} {w : World} (ha : Ru w va a) (hb : Ru w vb b) (hl : a.length = b.length) (hL : a.length ≤ 8192) :
    Calls Try.prog 70 #[va, vb] w fun e w' => e = .returned (.int .i64 (lxl a b)) ∧ w' = w := by
  obtain ⟨pa, ca, rfl, h1, h2, h3, h4⟩ := ha
  obtain ⟨pb, cb, rfl, k1, k2, k3, k4⟩ := hb
  unfold maxLen at h2 k2
  have hcm := fun x y W => compareU_any x y W
  have hz : lxl a b = lxl (a.drop 0) (b.drop 0) := rfl
  generalize hR : lxl a b = R at *
  have HR : Hid (lxl a b = R) := hR
  clear hR
  have HB : Hid (b.length = a.length) := hl.symm
  rw [← hl] at k1
  rw [← hl]
  clear hl
  go_enter Try.func70, Try.ntmps70
  go_wp2_with fail
  go_loopw [5, 6, 7, 8, 11] (fun _ _ _ _ i wr => ∃ k : Nat, k ≤ a.length ∧ i = .int .i64 k ∧ Hid (R = lxl (a.drop k) (b.drop k)) ∧ wr = w) (fun _ _ _ _ i _ => a.length - (intOf i).toNat)
  case atStart => exact ⟨0, Nat.zero_le _, rfl, hz, rfl⟩
  case round =>
    obtain ⟨k, hk, rfl, HZ, rfl⟩ := hrel
    by_cases hlt : k < a.length
    · have hkb : k < b.length := by rw [HB.out]; exact hlt
      obtain ⟨g1, rfl, c1⟩ := h4 k hlt
      obtain ⟨g2, rfl, c2⟩ := k4 k hkb
      have hs : Hid (R = (if a[k].toNat < b[k].toNat then -1 else if b[k].toNat < a[k].toNat then 1 else lxl (a.drop (k + 1)) (b.drop (k + 1)))) := by
        have e := lxl_at hlt hkb (HR.out.trans HZ.out)
        rw [HR.out] at e
        exact e
      clear h4 k4 hz
      generalize a[k] = p at *
      generalize b[k] = q at *
      have hc := hcm p q
      have hcv : cmpU p q = if p.toNat < q.toNat then -1 else if q.toNat < p.toNat then 1 else 0 := rfl
      by_cases q1 : p.toNat < q.toNat
      · have HE : Hid (R = -1) := by show _ = _; rw [hs.out, if_pos q1]
        rw [if_pos q1] at hcv
        rw [hcv] at hc
        clear hcv hs hcm
        go_wp2_with fail
        refine (hc _).mono ?_
        rintro e w1 ⟨rfl, rfl⟩
        go_wp2_with fail
        go_ret
        exact ⟨by rw [HE.out]; rfl, rfl⟩
      · rw [if_neg q1] at hcv
        by_cases q2 : q.toNat < p.toNat
        · have HE : Hid (R = 1) := by show _ = _; rw [hs.out, if_neg q1, if_pos q2]
          rw [if_pos q2] at hcv
          rw [hcv] at hc
          clear hcv hs hcm
          go_wp2_with fail
          refine (hc _).mono ?_
          rintro e w1 ⟨rfl, rfl⟩
          go_wp2_with fail
          go_ret
          exact ⟨by rw [HE.out]; rfl, rfl⟩
        · have HE : Hid (R = lxl (a.drop (k + 1)) (b.drop (k + 1))) := by show _ = _; rw [hs.out, if_neg q1, if_neg q2]
          rw [if_neg q2] at hcv
          rw [hcv] at hc
          clear hcv hs hcm
          go_wp2_with fail
          refine (hc _).mono ?_
          rintro e w1 ⟨rfl, rfl⟩
          go_wp2_with fail
          exact ⟨⟨k + 1, by omega, by go_num, HE, by first | rfl | trivial⟩, by simp [intOf]; omega⟩
    · have HE : Hid (R = 0) := by
        show _ = _
        have hb : b.length = a.length := HB.out
        rw [HZ.out, List.drop_of_length_le (by omega), List.drop_of_length_le (by omega)]; rfl
      clear h4 k4 hz hcm
      go_wp2_with fail
      go_ret
      exact ⟨by rw [HE.out]; rfl, rfl⟩

theorem scompare_w {va vb : Value} {la lb : List UInt64} {w : World} (ha : Ru w va la) (hb : Ru w vb lb) (hl : la.length = lb.length) (hL : la.length ≤ 8192) (q : Nat) : Calls Try.prog 70 #[va, vb] (w.drewN q) fun e w' => e = .returned (.int .i64 (lxl la lb)) ∧ ∃ n, w' = w.drewN n := by
  refine (scompare_any (ha.drewN q) (hb.drewN q) hl hL).mono ?_
  rintro _ w' ⟨rfl, rfl⟩
  exact ⟨rfl, q, rfl⟩

section
variable {w0 : World} {x : Nat} {v : Value} {w w' : World} {H A : List HE}
set_option maxHeartbeats 1000000 in
theorem hless_any (h : Hq w0 x v w H A) {i j : Nat} {a b : HE} (ha : H[i]? = some a) (hb : H[j]? = some b) :
    Calls Try.prog 68 #[v, .int .i64 i, .int .i64 j] w fun e w' => e = .returned (.bool (helt a b)) ∧ ∃ n, w' = w.drewN n := by
  have la := (h.els a (List.mem_append_right _ (List.mem_of_getElem? ha))).2.2.1
  have lb := (h.els b (List.mem_append_right _ (List.mem_of_getElem? hb))).2.2.1
  obtain ⟨g, c, rfl, h1, h2, hi, a0, ra, fr⟩ := h.at_ ha
  obtain ⟨g', c', ev, _, _, hj, b0, rb, _⟩ := h.at_ hb
  simp only [Value.slice.injEq, Option.some.injEq, Addr.mk.injEq, and_true, true_and] at ev
  obtain ⟨rfl, rfl⟩ := ev
  obtain ⟨va, la'⟩ := a
  obtain ⟨vb, lb'⟩ := b
  simp only [] at *
  have hd : helt (va, la') (vb, lb') = decide (la'.length < lb'.length ∨ (la'.length = lb'.length ∧ lxl la' lb' < 0)) := rfl
  have hc := fun q => scompare_w ra rb (q := q)
  have hii : (i : Int) < (H.length : Int) := by omega
  have hji : (j : Int) < (H.length : Int) := by omega
  obtain ⟨pa, ca, rfl, -⟩ := ra
  obtain ⟨pb, cb, rfl, -⟩ := rb
  generalize helt (_, la') (_, lb') = T at *
  have HT : Hid _ := hd
  clear hd h ha hb
  by_cases hn : la'.length = lb'.length
  · have hc' := fun q => hc q hn la
    clear hc
    have hnn : ((la'.length : Int) != (lb'.length : Int)) = false := by rw [hn]; simp
    have HT2 : Hid (T = decide (lxl la' lb' < 0)) := by
      show _ = _
      rw [HT.out]; simp [hn]
    clear HT
    generalize lxl la' lb' = z at *
    generalize la'.length = n1 at *
    generalize lb'.length = n2 at *
    have HN : Hid _ := hn
    clear hn
    go_enter Try.func68, Try.ntmps68
    go_wp2_with fail
    go_quiet (fail)
    go_wp2_with fail
    go_region_held3 (fun w' => w'.cell? ⟨g, i, none⟩ = some (.slice pa n1 ca) ∧ w'.cell? ⟨g, j, none⟩ = some (.slice pb n2 cb)) (go_keep) (first
      | (go_at_call 70; refine (hc' _).mono ?_; rintro e w1 ⟨rfl, m1, rfl⟩; have k0 : (w.drewN m1).cell? ⟨g, i, none⟩ = some (.slice pa n1 ca) := a0; have k1 : (w.drewN m1).cell? ⟨g, j, none⟩ = some (.slice pb n2 cb) := b0)
      | fail)
    go_wp2_with fail
    go_ret
    exact ⟨by rw [HT2.out]; rfl, _, rfl⟩
  · clear hc
    have hnn : ((la'.length : Int) != (lb'.length : Int)) = true := by rw [bne_iff_ne]; omega
    have HT2 : Hid (T = decide (la'.length < lb'.length)) := by
      show _ = _
      rw [HT.out, decide_eq_decide]
      constructor
      · rintro (q | q)
        · omega
        · exact absurd q.1 hn
      · intro q; exact .inl (by omega)
    clear HT
    generalize la'.length = n1 at *
    generalize lb'.length = n2 at *
    clear hn
    go_enter Try.func68, Try.ntmps68
    go_wp2_with fail
    go_quiet (fail)
    go_wp2_with fail
    go_quiet (fail)
    go_wp2_with fail
    go_ret
    refine ⟨by rw [HT2.out]; rfl, _, World.drewN_drewN _ _ _⟩

set_option maxHeartbeats 1000000 in
theorem hswap_any (h : Hq w0 x v w H A) {i j : Nat} (hi : i < H.length) (hj : j < H.length) :
    Calls Try.prog 69 #[v, .int .i64 i, .int .i64 j] w fun e w' => (∃ u, e = .returned u) ∧ Hq w0 x v w' (M.sw H i j) A ∧ Chg (fun b => v.ownBlock = some b) w w' := by
  obtain ⟨a, ha⟩ : ∃ a, H[i]? = some a := ⟨_, List.getElem?_eq_getElem hi⟩
  obtain ⟨b, hb⟩ : ∃ b, H[j]? = some b := ⟨_, List.getElem?_eq_getElem hj⟩
  obtain ⟨g, c, rfl, h1, h2, _, a0, ra, fr⟩ := h.at_ ha
  obtain ⟨g', c', ev, _, _, _, b0, rb, _⟩ := h.at_ hb
  simp only [Value.slice.injEq, Option.some.injEq, Addr.mk.injEq, and_true, true_and] at ev
  obtain ⟨rfl, rfl⟩ := ev
  have hfin : ∀ n (d : HE), (d = b ∨ (i = j ∧ d = a)) → Hq w0 x (.slice (some ⟨g, 0, none⟩) H.length c) (((w.drewN n).setCell ⟨g, i, none⟩ d.1).setCell ⟨g, j, none⟩ a.1) (M.sw H i j) A ∧ Chg (fun b => (Value.slice (some ⟨g, 0, none⟩) H.length c).ownBlock = some b) w (((w.drewN n).setCell ⟨g, i, none⟩ d.1).setCell ⟨g, j, none⟩ a.1) := fun n d hd => by
    have hdb : d = b := by
      rcases hd with e | ⟨e, e2⟩
      · exact e
      · subst e; rw [e2]; exact Option.some.inj (ha.symm.trans hb)
    subst hdb
    refine ⟨(h.drewN n).swap ha hb, ?_⟩
    have hc : Chg (fun b => (Value.slice (some ⟨g, 0, none⟩) H.length c).ownBlock = some b) w (w.drewN n) := (Chg.of_below (Below.dN w n)).mono (fun q hl hq => by omega)
    exact (hc.put g _ _ rfl).put g _ _ rfl
  have hii : (i : Int) < (H.length : Int) := by omega
  have hji : (j : Int) < (H.length : Int) := by omega
  obtain ⟨_, _, ea, _⟩ := ra
  obtain ⟨_, _, eb, _⟩ := rb
  obtain ⟨va, la⟩ := a
  obtain ⟨vb, lb⟩ := b
  simp only [] at *
  subst ea
  subst eb
  have HF : Hid _ := hfin
  clear hfin h ha hb
  go_enter Try.func69, Try.ntmps69
  go_wp2_with fail
  by_cases hij : i = j
  · subst hij
    go_region
    go_wp2_with fail
    go_end0
    exact ⟨⟨_, rfl⟩, HF.out 1 (.slice _ _ _, la) (.inr (by simp))⟩
  · have n1 : ¬ j = i := by omega
    go_region
    go_wp2_with fail
    go_end0
    exact ⟨⟨_, rfl⟩, HF.out 1 (.slice _ _ _, lb) (.inl rfl)⟩
theorem hlen_any (h : Hq w0 x v w H A) : Calls Try.prog 67 #[v] w fun e w' => e = .returned (.int .i64 (H.length : Int)) ∧ w' = w := by
  obtain ⟨a, c, rfl, _⟩ := row_reads h.row
  clear h
  go_enter Try.func67, Try.ntmps67
  go_wp2_with fail
  go_ret
  exact ⟨rfl, rfl⟩
end
end Go.Proofs.Ytipnghaphfgalaa
