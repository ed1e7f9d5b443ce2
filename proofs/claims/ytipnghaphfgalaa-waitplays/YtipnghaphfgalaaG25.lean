/- from: the edges of those for whom a number waits. -/
import Derived.Test.YtipnghaphfgalaaG17
namespace Go.Proofs.Ytipnghaphfgalaa
open Go.RowKit
set_option linter.unusedVariables false
set_option maxRecDepth 100000

theorem seg_filter {E : List Ed} (h : W.Ris E) (a : UInt64) {k : Nat} (hk : W.pl E (a, 0) ≤ k) (hkn : k ≤ E.length) (h1 : ∀ j p, W.pl E (a, 0) ≤ j → j < k → E[j]? = some p → p.1 = a) (h2 : ∀ p, E[k]? = some p → p.1 ≠ a) : (E.take k).drop (W.pl E (a, 0)) = E.filter (fun e => e.1 == a) := by
  obtain ⟨b, hb⟩ : ∃ b, W.pl E (a, 0) = b := ⟨_, rfl⟩
  have hlo : ∀ x ∈ E.take b, (x.1 == a) = false := fun x hx => by
    obtain ⟨j, hj⟩ := List.mem_iff_getElem?.1 hx
    rw [List.getElem?_take] at hj
    split at hj
    · rename_i q
      have := W.pl_lt (hb ▸ q) hj
      unfold W.elt at this
      simp at this
      rw [beq_eq_false_iff_ne]
      intro e
      rw [e] at this
      simp at this
    · cases hj
  have hhi : ∀ x ∈ E.drop k, (x.1 == a) = false := fun x hx => by
    obtain ⟨j, hj⟩ := List.mem_iff_getElem?.1 hx
    rw [List.getElem?_drop] at hj
    have hl := (List.getElem?_eq_some_iff.1 hj).1
    have hkl : k < E.length := by omega
    have e0 := h2 _ (List.getElem?_eq_getElem hkl)
    have hge : ¬ E[k].1.toNat < a.toNat := by
      have h0 : ¬ W.elt E[k] (a, 0) := by
        rcases Nat.lt_or_ge b k with q | q
        · have hbl : b < E.length := by omega
          have hg := W.pl_ge (E := E) (e := (a, 0)) (by rw [hb]; exact List.getElem?_eq_getElem hbl)
          have hl2 := List.pairwise_iff_getElem.1 h b k hbl hkl q
          exact fun q2 => hg (W.elt_trans hl2 q2)
        · obtain rfl : b = k := by omega
          exact W.pl_ge (E := E) (e := (a, 0)) (by rw [hb]; exact List.getElem?_eq_getElem hkl)
      exact fun q => h0 (.inl q)
    have hgt : a.toNat < E[k].1.toNat := by
      have : E[k].1.toNat ≠ a.toNat := fun q => e0 (UInt64.toNat_inj.1 q)
      omega
    have hx2 : a.toNat < x.1.toNat := by
      cases j with
      | zero =>
        rw [Nat.add_zero, List.getElem?_eq_getElem hkl] at hj
        obtain rfl := Option.some.inj hj
        exact hgt
      | succ j =>
        have h3 := List.pairwise_iff_getElem.1 h k (k + (j + 1)) hkl hl (by omega)
        obtain ⟨_, e⟩ := List.getElem?_eq_some_iff.1 hj
        rw [e] at h3
        unfold W.elt at h3
        omega
    rw [beq_eq_false_iff_ne]
    intro e; rw [e] at hx2; omega
  have hmid : ∀ x ∈ (E.take k).drop b, (x.1 == a) = true := fun x hx => by
    obtain ⟨j, hj⟩ := List.mem_iff_getElem?.1 hx
    rw [List.getElem?_drop, List.getElem?_take] at hj
    split at hj
    · rename_i q
      rw [beq_iff_eq]
      exact h1 (b + j) x (by omega) q hj
    · cases hj
  rw [hb]
  have hE : E = E.take b ++ ((E.take k).drop b ++ E.drop k) := by
    have e1 : E.take b ++ (E.take k).drop b = E.take k := by
      have := List.take_append_drop b (E.take k)
      rwa [List.take_take, Nat.min_eq_left (hb ▸ hk)] at this
    rw [← List.append_assoc, e1, List.take_append_drop]
  conv => rhs; rw [hE]
  rw [List.filter_append, List.filter_append, List.filter_eq_nil_iff.2 (fun x hx => by rw [hlo x hx]; simp), List.filter_eq_self.2 hmid, List.filter_eq_nil_iff.2 (fun x hx => by rw [hhi x hx]; simp)]
  simp

theorem RdE.same {w w' : World} {v : Value} {E : List Ed} (h : RdE w v E) (hb : ∀ b, v.ownBlock = some b → w'.heap[b]? = w.heap[b]?) : RdE w' v E := by
  obtain ⟨ao, c, rfl, h1, h2, h3, h4⟩ := h
  refine ⟨ao, c, rfl, h1, h2, h3, fun i p hi => ?_⟩
  obtain ⟨a, rfl, ha⟩ := h4 i p hi
  have k : ∀ x : Addr, x.block = a.block → w'.cell? x = w.cell? x := fun x e => World.cell?_of_block (w := w) (by rw [e]; exact hb _ rfl)
  exact ⟨a, rfl, (k _ (by rw [add_block])).trans ha.c0, (k ⟨(a.add (i * 2)).block, (a.add (i * 2)).off + 1, none⟩ (by rw [add_block])).trans ha.c1⟩
theorem RdE.piece {w : World} {ao : Option Addr} {n c : Nat} {E : List Ed} (h : RdE w (.slice ao n c) E) (i j : Nat) (hij : i ≤ j) (hj : j ≤ E.length) (ao' : Option Addr)
    (ha : (c = i → ao' = ao) ∧ (¬ c = i → ao' = ao.map (fun a => a.add (i * 2)))) : RdE w (.slice ao' (j - i) (c - i)) ((E.take j).drop i) := by
  obtain ⟨ao0, c0, e, h1, h2, h3, h4⟩ := h
  simp only [Value.slice.injEq] at e
  obtain ⟨rfl, rfl, rfl⟩ := e
  have hlen : ((E.take j).drop i).length = j - i := by simp; omega
  refine ⟨ao', c - i, by rw [hlen], by rw [hlen]; omega, by omega, fun hn => ?_, fun k p hk => ?_⟩
  · by_cases hc : c = i
    · omega
    · rw [ha.2 hc] at hn
      have : ao = none := by cases ao <;> simp_all
      have := h3 this; omega
  · have hkl := (List.getElem?_eq_some_iff.1 hk).1
    rw [hlen] at hkl
    rw [List.getElem?_drop, List.getElem?_take, if_pos (by omega)] at hk
    obtain ⟨a, rfl, hc⟩ := h4 (i + k) p hk
    have hne : ¬ c = i := by omega
    refine ⟨a.add (i * 2), by rw [ha.2 hne]; rfl, ?_⟩
    have e2 : (a.add (i * 2)).add (k * 2) = a.add ((i + k) * 2) := by
      unfold Addr.add
      by_cases hi : i = 0
      · subst hi; simp
      · by_cases hk0 : k = 0
        · subst hk0; simp
        · have g1 : ¬ i * 2 = 0 := by omega
          have g2 : ¬ k * 2 = 0 := by omega
          have g3 : ¬ (i + k) * 2 = 0 := by omega
          simp only [g1, g2, g3, if_false]
          congr 1
          omega
    rw [e2]; exact hc

set_option maxHeartbeats 1000000 in
theorem from_any {B x : Nat} {v : Value} {E : List Ed} {w : World} (h : Gr B x v E w) (a : UInt64) :
    Calls Try.prog 32 #[.pointer (some ⟨x, 0, none⟩), .int .u64 (a.toNat : Int)] w fun r w' => ∃ v', r = .returned v' ∧ RdE w v' (E.filter (fun e => e.1 == a)) ∧ (∀ b, v'.ownBlock = some b → v.ownBlock = some b) ∧ Below w.heap.size w w' := by
  obtain ⟨c0, cz⟩ := h.vx
  have hxl := h.xlt
  have hf := gfind_any h (a, 0)
  have hlen := h.len
  have hE := h.row.rd
  have hlt := fun b e => (h.row.lt b e).2
  have HS : Hid _ := fun {k : Nat} => seg_filter h.ris a (k := k)
  obtain ⟨ao, c, rfl, h1, h2, h3, h4⟩ := hE
  unfold maxLen at h2
  have HQ : Hid _ := fun i j => RdE.piece h.row.rd i j
  have hpl := W.pl_le E (a, 0)
  clear hlt h
  generalize W.pl E (a, 0) = pb at *
  generalize W.is E (a, 0) = ib at *
  simp only [show ((0 : UInt64).toNat : Int) = 0 from rfl] at hf
  go_enter Try.func32, Try.ntmps32
  go_wp2_with fail
  refine hf.mono ?_
  rintro r w1 ⟨rfl, hb1⟩
  have k0 : w1.cell? ⟨x, 0, none⟩ = some (.slice ao E.length c) := by rw [hb1.cell hxl]; exact c0
  have hc4 : ∀ i p, E[i]? = some p → ∃ a, ao = some a ∧ EdAt w1 (a.add (i * 2)) p := fun i p hi => by
    obtain ⟨a', e, q⟩ := h4 i p hi
    exact ⟨a', e, q.below hb1 (Nat.le_refl _)⟩
  clear h4 c0 cz hf
  go_wp2_with fail
  go_loopw [7] (fun i wr => ∃ k : Nat, pb ≤ k ∧ k ≤ E.length ∧ i = .int .i64 k ∧ Hid (∀ j p, pb ≤ j → j < k → E[j]? = some p → p.1 = a) ∧ ∃ m, wr = w1.drewN m) (fun i _ => E.length - (intOf i).toNat)
  case atStart => exact ⟨pb, Nat.le_refl _, hpl, rfl, (fun j p q1 q2 => by omega), 0, rfl⟩
  case round =>
    obtain ⟨k, hk1, hk2, rfl, HK, m, rfl⟩ := hrel
    by_cases hlt : k < E.length
    · obtain ⟨⟨p1, p2⟩, hp⟩ : ∃ p, E[k]? = some p := ⟨_, List.getElem?_eq_getElem hlt⟩
      obtain ⟨g, rfl, d0, d1⟩ := hc4 k _ hp
      simp only [] at d0 d1
      have hki : (k : Int) < (E.length : Int) := by omega
      by_cases he : p1 = a
      · subst he
        have HK2 : Hid (∀ j p, pb ≤ j → j < k + 1 → E[j]? = some p → p.1 = p1) := fun j p q1 q2 q3 => by
          rcases Nat.lt_or_ge j k with q | q
          · exact HK.out j p q1 q q3
          · obtain rfl : j = k := by omega
            rw [hp] at q3
            obtain rfl := Option.some.inj q3
            rfl
        clear hp hc4
        go_wp2_with fail
        exact ⟨⟨k + 1, by omega, by omega, by go_num, HK2, _, rfl⟩, by simp [intOf]; omega⟩
      · have hne : ((p1.toNat : Int) == (a.toNat : Int)) = false := by
          rw [beq_eq_false_iff_ne]
          intro q
          exact he (UInt64.toNat_inj.1 (by omega))
        have hne2 : ¬ p1.toNat = a.toNat := fun q => he (UInt64.toNat_inj.1 q)
        have HE : Hid _ := HS.out hk1 hk2 HK.out (fun p q => by rw [hp] at q; obtain rfl := Option.some.inj q; exact he)
        have HE2 : Hid _ := HQ.out pb k hk1 hk2
        clear hp hc4
        by_cases hcb : c = pb
        · subst hcb
          omega
        · go_wp2_with fail
          go_ret
          refine ⟨_, rfl, ?_, fun b e => ?_, Below.tr hb1 (Below.dN w1 _)⟩
          · have := HE2.out (some (g.add (pb * 2))) ⟨fun q => absurd q hcb, fun _ => rfl⟩
            rw [HE.out] at this
            exact this
          · have e' : (g.add (pb * 2)).block = b := Option.some.inj e
            rw [add_block] at e'
            rw [← e']; rfl
    · obtain rfl : k = E.length := by omega
      have HE : Hid _ := HS.out hk1 hk2 HK.out (fun p q => by rw [List.getElem?_eq_none (Nat.le_refl _)] at q; cases q)
      have HE2 : Hid _ := HQ.out pb E.length hk1 hk2
      clear hc4
      by_cases hcb : c = pb
      · go_wp2_with fail
        go_ret
        refine ⟨_, rfl, ?_, fun b e => ?_, Below.tr hb1 (Below.dN w1 _)⟩
        · have := HE2.out ao ⟨fun _ => rfl, fun q => absurd hcb q⟩
          rw [HE.out, show c - pb = 0 by omega] at this
          exact this
        · cases ao with
          | none => cases e
          | some g => exact e
      · cases ao with
        | none => have := h3 rfl; omega
        | some g =>
          go_wp2_with fail
          go_ret
          refine ⟨_, rfl, ?_, fun b e => ?_, Below.tr hb1 (Below.dN w1 _)⟩
          · have := HE2.out (some (g.add (pb * 2))) ⟨fun q => absurd q hcb, fun _ => rfl⟩
            rw [HE.out] at this
            exact this
          · have e' : (g.add (pb * 2)).block = b := Option.some.inj e
            rw [add_block] at e'
            rw [← e']; rfl
end Go.Proofs.Ytipnghaphfgalaa
