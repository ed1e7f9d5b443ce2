/- The document's rises, Members, Check. -/
import Derived.Test.YtedpfmalhapmeaaG3
import Derived.Test.YtedpfmalhapmeaaG4
import Derived.Test.YtedpfmalhapmeaaG1
import Derived.Deep.RegionHeld3
import Derived.Deep.QuietTactic
import Derived.BigQuiet
namespace Go.Proofs.Ytedpfmalhapmeaa
open Go.RowKit Go.Sort
set_option linter.unusedVariables false
set_option maxRecDepth 100000

theorem risF_drop (l : List UInt64) (k : Nat) (h : k < l.length) (n : Nat) : risF n (l.drop k) = (decide (n < (l[k]).toNat) && risF (l[k]).toNat (l.drop (k + 1))) := by
  rw [List.drop_eq_getElem_cons h, risF]

set_option maxHeartbeats 2000000 in
theorem rrises_any {v : Value} {l : List UInt64} {w : World} (hr : Ru w v l) :
    Calls Try.prog 37 #[v] w fun e w' => e = .returned (.bool (risF 0 l)) ∧ Below w.heap.size w w' := by
  have HRW : Hid (∀ W, Below w.heap.size w W → Ru W v l) := fun W hW => hr.below hW (Nat.le_refl _)
  have HBN : Hid (∀ W n, Below w.heap.size w W → Below w.heap.size w (W.drewN n)) := fun W n hW => below_drewN hW n
  obtain ⟨ao, c, rfl⟩ := hr.shape
  have hm := hr.len
  unfold maxLen at hm
  clear hr
  generalize hR : risF 0 l = R
  have HR : Hid _ := hR
  clear hR
  go_enter Try.func37, Try.ntmps37
  go_wp2_with fail
  go_loopw [3] (fun i wr => ∃ (k n : Nat), k ≤ l.length ∧ i = .int .i64 k ∧ (k = 0 → n = 0) ∧ Hid (k ≠ 0 → n = (l.getD (k - 1) 0).toNat) ∧ Hid (risF n (l.drop k) = R) ∧ Below w.heap.size w wr) (fun i _ => l.length - (intOf i).toNat)
  case atStart => exact ⟨0, 0, Nat.zero_le _, rfl, fun _ => rfl, fun h => absurd rfl h, by show risF 0 (l.drop 0) = R; rw [List.drop_zero]; exact HR.out, Below.refl _ _⟩
  case round =>
    obtain ⟨k, n, hk, rfl, hn0, HN, HX, hbw⟩ := hrel
    obtain ⟨a', c', e', h1, h2, h3, h4⟩ := HRW.out wr hbw
    simp only [Value.slice.injEq, true_and] at e'
    obtain ⟨rfl, rfl⟩ := e'
    unfold maxLen at h2
    by_cases hlt : k < l.length
    · obtain ⟨a, rfl, hc⟩ := h4 k hlt
      have HX2 : Hid _ := (risF_drop l k hlt n).symm.trans HX.out
      have HNX : Hid (k + 1 ≠ 0 → (l[k]).toNat = (l.getD (k + 1 - 1) 0).toNat) := fun _ => by rw [Nat.add_sub_cancel, List.getD_eq_getElem?_getD, List.getElem?_eq_getElem hlt]; rfl
      have hki : (k : Int) < (l.length : Int) := by omega
      by_cases hk0 : k = 0
      · subst hk0
        obtain rfl := hn0 rfl
        have hc0 : wr.cell? a = some (.int .u64 ((l[0]).toNat : Int)) := hc
        clear h4 h3 HX HN hn0
        generalize l[0] = y at *
        by_cases hy : y.toNat = 0
        · have hy2 : ((y.toNat : Int) == 0) = true := by simp [hy]
          have hR : R = false := by rw [← HX2.out]; simp [hy]
          subst hR
          clear HX2 HR hy
          go_wp2_with fail
          go_quiet (fail)
          go_wp2_with fail
          go_ret
          exact ⟨rfl, HBN.out _ _ hbw⟩
        · have hy2 : ((y.toNat : Int) == 0) = false := by simp; omega
          have HX3 : Hid (risF y.toNat (l.drop 1) = R) := by
            have h := HX2.out
            rw [decide_eq_true (by omega), Bool.true_and] at h
            exact h
          have hd0 : decide ((0 : Int) < ((0 : Nat) : Int)) = false := by decide
          clear HX2 HR
          go_wp2_with fail
          go_quiet (fail)
          go_wp2_with fail
          exact ⟨⟨1, y.toNat, by omega, by go_num, (fun h => by omega), HNX, HX3, HBN.out _ _ hbw⟩, by simp [intOf]; omega⟩
      · obtain ⟨a2, e2, hc2⟩ := h4 (k - 1) (by omega)
        obtain rfl := Option.some.inj e2
        have hnl : n = (l[k - 1]).toNat := by rw [HN.out hk0, List.getD_eq_getElem?_getD, List.getElem?_eq_getElem (by omega)]; rfl
        rw [← hnl] at hc2
        have hsub : IntKind.i64.wrap ((k : Int) - 1) = ((k - 1 : Nat) : Int) := by rw [IntKind.wrap_i64]; omega
        have hk1i : ((k - 1 : Nat) : Int) < (l.length : Int) := by omega
        have hk2i : (0 : Int) ≤ ((k - 1 : Nat) : Int) := by omega
        have hd0 : decide ((0 : Int) < (k : Int)) = true := by simp; omega
        have hk0i : (0 : Int) < (k : Int) := by omega
        have hd1 : decide (0 < k) = true := by simp; omega
        clear h4 h3 HX HN hn0 hnl
        generalize l[k] = y at *
        have HK1 : Hid (k ≠ 0) := hk0
        by_cases hy : y.toNat = 0
        · have hy2 : ((y.toNat : Int) == 0) = true := by simp [hy]
          have hR : R = false := by rw [← HX2.out]; simp [hy]
          subst hR
          clear HX2 HR hy
          go_wp2_with fail
          go_quiet (fail)
          go_wp2_with fail
          go_ret
          exact ⟨rfl, HBN.out _ _ hbw⟩
        · have hy2 : ((y.toNat : Int) == 0) = false := by simp; omega
          by_cases hny : n < y.toNat
          · have hg : decide ((y.toNat : Int) ≤ (n : Int)) = false := by simp; omega
            have HX3 : Hid (risF y.toNat (l.drop (k + 1)) = R) := by
              have h := HX2.out
              rw [decide_eq_true hny, Bool.true_and] at h
              exact h
            clear HX2 HR
            go_wp2_with fail
            go_quiet (fail)
            go_wp2_with fail
            exact ⟨⟨k + 1, y.toNat, by omega, by go_num, (fun h => by omega), HNX, HX3, HBN.out _ _ hbw⟩, by simp [intOf]; omega⟩
          · have hg : decide ((y.toNat : Int) ≤ (n : Int)) = true := by simp; omega
            have hR : R = false := by rw [← HX2.out, decide_eq_false hny]; rfl
            subst hR
            clear HX2 HR
            go_wp2_with fail
            go_quiet (fail)
            go_wp2_with fail
            go_ret
            exact ⟨rfl, HBN.out _ _ hbw⟩
    · obtain rfl : k = l.length := by omega
      have hR : R = true := by have := HX.out; rw [List.drop_length] at this; exact this.symm
      subst hR
      clear h4 h3 HX HN HR
      go_wp2_with fail
      go_ret
      exact ⟨rfl, hbw⟩

/-- Numbers put in their places one by one. -/
def ptF (l0 vs : List UInt64) : List UInt64 := vs.foldl (fun l v => putF v false l) l0
theorem ptF_snoc (l0 vs : List UInt64) (k : Nat) (h : k < vs.length) : ptF l0 (vs.take (k + 1)) = putF vs[k] false (ptF l0 (vs.take k)) := by
  unfold ptF; rw [List.take_succ_eq_append_getElem h, List.foldl_append]; rfl
theorem ptF_len (l0 : List UInt64) : ∀ vs : List UInt64, (ptF l0 vs).length ≤ l0.length + vs.length := by
  intro vs
  induction vs generalizing l0 with
  | nil => simp [ptF]
  | cons a r ih => have := ih (putF a false l0); have := putF_len a l0; simp only [ptF, List.foldl_cons, List.length_cons] at *; omega
theorem ptF_is : ∀ (vs l0 : List UInt64), Ris l0 → Ris (ptF l0 vs) ∧ ∀ x, x ∈ ptF l0 vs ↔ x ∈ l0 ∨ x ∈ vs := by
  intro vs
  induction vs with
  | nil => intro l0 h; exact ⟨h, fun x => by simp [ptF]⟩
  | cons a r ih =>
    intro l0 h
    obtain ⟨h1, h2⟩ := ih (putF a false l0) (putF_ris a l0 h)
    refine ⟨h1, fun x => ?_⟩
    show x ∈ ptF (putF a false l0) r ↔ _
    rw [h2, putF_mem, List.mem_cons]
    exact ⟨fun h => h.elim (fun q => q.elim (fun q => .inr (.inl q)) .inl) (fun q => .inr (.inr q)), fun h => h.elim (fun q => .inl (.inr q)) (fun q => q.elim (fun q => .inl (.inl q)) .inr)⟩
theorem ptF_mems (c : Cn) : ptF (ptF (ptF [] c.1) c.2.1) c.2.2 = mems c := by
  obtain ⟨a1, a2⟩ := ptF_is c.1 [] List.Pairwise.nil
  obtain ⟨b1, b2⟩ := ptF_is c.2.1 _ a1
  obtain ⟨d1, d2⟩ := ptF_is c.2.2 _ b1
  refine IsMem.eq ⟨d1, fun x => ?_⟩
  rw [d2, b2, a2]
  simp [or_assoc]

set_option maxHeartbeats 4000000 in
theorem rmembers_any {x y z : Value} {c : Cn} {w : World} (hr : Rc w x y z c) (hl : c.1.length + c.2.1.length + c.2.2.length ≤ 1099511627776) :
    Calls Try.prog 19 #[.agg #[x, y, z]] w fun e w' => ∃ am cm, e = .returned (.slice am (mems c).length cm) ∧ Ou w.heap.size w' (.slice am (mems c).length cm) (mems c) ∧ Below w.heap.size w w' := by
  have hB := u_al w (.cells #[x, y, z] 24)
  have HK : Hid (∀ W, Below (w.heap.size + 1) (w.alloc (.cells #[x, y, z] 24)) W → W.cell? ⟨w.heap.size, 0, none⟩ = some x ∧ W.cell? ⟨w.heap.size, 1, none⟩ = some y ∧ W.cell? ⟨w.heap.size, 2, none⟩ = some z) := fun W hW => box3 hW rfl
  have HB : Hid (∀ W, Below (w.heap.size + 1) (w.alloc (.cells #[x, y, z] 24)) W → Below w.heap.size w W) := fun W hW => hB.trans (hW.mono (by omega))
  have HZ : Hid (∀ W, Below (w.heap.size + 1) (w.alloc (.cells #[x, y, z] 24)) W → w.heap.size + 1 ≤ W.heap.size) := fun W hW => by
    have := hW.size; simp only [World.size_alloc] at this; omega
  have HR1 : Hid (∀ W, Below (w.heap.size + 1) (w.alloc (.cells #[x, y, z] 24)) W → Ru W x c.1) := fun W hW => hr.1.below (HB.out W hW) (Nat.le_refl _)
  have HR2 : Hid (∀ W, Below (w.heap.size + 1) (w.alloc (.cells #[x, y, z] 24)) W → Ru W y c.2.1) := fun W hW => hr.2.1.below (HB.out W hW) (Nat.le_refl _)
  have HR3 : Hid (∀ W, Below (w.heap.size + 1) (w.alloc (.cells #[x, y, z] 24)) W → Ru W z c.2.2) := fun W hW => hr.2.2.below (HB.out W hW) (Nat.le_refl _)
  have hS0 : Below (w.heap.size + 1) (w.alloc (.cells #[x, y, z] 24)) (w.alloc (.cells #[x, y, z] 24)) := Below.refl _ _
  have hM := ptF_mems c
  have HM : Hid _ := hM
  have hl1 := ptF_len [] c.1
  have hl2 := ptF_len (ptF [] c.1) c.2.1
  obtain ⟨ax, cx, rfl⟩ := hr.1.shape
  obtain ⟨ay, cy, rfl⟩ := hr.2.1.shape
  obtain ⟨az, cz, rfl⟩ := hr.2.2.shape
  obtain ⟨V, O, L⟩ := c
  simp only [List.length_nil, Nat.zero_add] at *
  have HPUT : Hid (∀ W q l v, Ou (w.heap.size + 1) W q l → l.length ≤ 1099511627776 → w.heap.size + 1 ≤ W.heap.size → Calls Try.prog 40 #[q, .int .u64 ((v : UInt64).toNat : Int)] W fun e w' => ∃ v', e = .returned v' ∧ Ou (w.heap.size + 1) w' v' (putF v false l) ∧ Below (w.heap.size + 1) W w') := fun W q l v ho hl hz => (rput_any ho.ru hl).mono (by
    rintro e w' ⟨v', rfl, h1, h2⟩
    exact ⟨v', rfl, h1.mono hz, h2.mono hz⟩)
  clear hr hM
  generalize mems (V, O, L) = R at *
  go_enter Try.func19, Try.ntmps19
  go_wp2_with fail
  generalize (w.alloc (.cells #[.slice ax V.length cx, .slice ay O.length cy, .slice az L.length cz] 24)) = W0 at *
  go_loopw [3, 4] (fun o i wr => ∃ k : Nat, k ≤ V.length ∧ i = .int .i64 k ∧ Ou (w.heap.size + 1) wr o (ptF [] (V.take k)) ∧ Below (w.heap.size + 1) W0 wr) (fun _ i _ => V.length - (intOf i).toNat)
  case atStart => exact ⟨0, Nat.zero_le _, rfl, Ou.nil _ _, hS0⟩
  case round =>
    obtain ⟨k, hk, rfl, ho, hb⟩ := hrel
    obtain ⟨k0, k1, k2⟩ := HK.out wr hb
    obtain ⟨a', c', e', h1, h2, h3, h4⟩ := HR1.out wr hb
    simp only [Value.slice.injEq, true_and] at e'
    obtain ⟨rfl, rfl⟩ := e'
    unfold maxLen at h2
    by_cases hlt : k < V.length
    · obtain ⟨a, rfl, hc⟩ := h4 k hlt
      have HS : Hid _ := ptF_snoc [] V k hlt
      have hlk := ptF_len [] (V.take k)
      rw [List.length_take, List.length_nil] at hlk
      have hput := HPUT.out wr _ _ V[k] ho (by omega) (HZ.out wr hb)
      generalize V[k] = vk at *
      clear h4 h3 hlk
      obtain ⟨aq, cq, rfl⟩ := ho.shape
      go_wp2_with fail
      refine hput.mono ?_
      rintro e w1 ⟨v1, rfl, ho1, hb1⟩
      rw [← HS.out] at ho1
      obtain ⟨a1, e1, rfl⟩ := ho1.shape
      go_wp2_with fail
      exact ⟨⟨k + 1, by omega, by go_num, ho1, hb.trans hb1⟩, by simp [intOf]; omega⟩
    · obtain rfl : k = V.length := by omega
      rw [List.take_length] at ho
      clear h4 h3 HR1
      generalize ptF [] V = PV at *
      go_wp2_with fail
      clear k0 k1 k2
      generalize hwr : wr = W1 at *
      clear hwr wr
      go_loopw [3, 5] (fun o i wr => ∃ k : Nat, k ≤ O.length ∧ i = .int .i64 k ∧ Ou (w.heap.size + 1) wr o (ptF PV (O.take k)) ∧ Below (w.heap.size + 1) W0 wr) (fun _ i _ => O.length - (intOf i).toNat)
      case atStart => exact ⟨0, Nat.zero_le _, rfl, ho, hb⟩
      case round =>
        obtain ⟨k, hk, rfl, ho, hb⟩ := hrel
        obtain ⟨k0, k1, k2⟩ := HK.out wr hb
        obtain ⟨a', c', e', h1, h2, h3, h4⟩ := HR2.out wr hb
        simp only [Value.slice.injEq, true_and] at e'
        obtain ⟨rfl, rfl⟩ := e'
        unfold maxLen at h2
        by_cases hlt : k < O.length
        · obtain ⟨a, rfl, hc⟩ := h4 k hlt
          have HS : Hid _ := ptF_snoc PV O k hlt
          have hlk := ptF_len PV (O.take k)
          rw [List.length_take] at hlk
          have hput := HPUT.out wr _ _ O[k] ho (by omega) (HZ.out wr hb)
          generalize O[k] = vk at *
          clear h4 h3 hlk
          obtain ⟨aq, cq, rfl⟩ := ho.shape
          go_wp2_with fail
          refine hput.mono ?_
          rintro e w1 ⟨v1, rfl, ho1, hb1⟩
          rw [← HS.out] at ho1
          obtain ⟨a1, e1, rfl⟩ := ho1.shape
          go_wp2_with fail
          exact ⟨⟨k + 1, by omega, by go_num, ho1, hb.trans hb1⟩, by simp [intOf]; omega⟩
        · obtain rfl : k = O.length := by omega
          rw [List.take_length] at ho
          clear h4 h3 HR2
          generalize ptF PV O = PO at *
          go_wp2_with fail
          clear k0 k1 k2
          generalize hwr : wr = W2 at *
          clear hwr wr
          go_loopw [3, 6] (fun o i wr => ∃ k : Nat, k ≤ L.length ∧ i = .int .i64 k ∧ Ou (w.heap.size + 1) wr o (ptF PO (L.take k)) ∧ Below (w.heap.size + 1) W0 wr) (fun _ i _ => L.length - (intOf i).toNat)
          case atStart => exact ⟨0, Nat.zero_le _, rfl, ho, hb⟩
          case round =>
            obtain ⟨k, hk, rfl, ho, hb⟩ := hrel
            obtain ⟨k0, k1, k2⟩ := HK.out wr hb
            obtain ⟨a', c', e', h1, h2, h3, h4⟩ := HR3.out wr hb
            simp only [Value.slice.injEq, true_and] at e'
            obtain ⟨rfl, rfl⟩ := e'
            unfold maxLen at h2
            by_cases hlt : k < L.length
            · obtain ⟨a, rfl, hc⟩ := h4 k hlt
              have HS : Hid _ := ptF_snoc PO L k hlt
              have hlk := ptF_len PO (L.take k)
              rw [List.length_take] at hlk
              have hput := HPUT.out wr _ _ L[k] ho (by omega) (HZ.out wr hb)
              generalize L[k] = vk at *
              clear h4 h3 hlk
              obtain ⟨aq, cq, rfl⟩ := ho.shape
              go_wp2_with fail
              refine hput.mono ?_
              rintro e w1 ⟨v1, rfl, ho1, hb1⟩
              rw [← HS.out] at ho1
              obtain ⟨a1, e1, rfl⟩ := ho1.shape
              go_wp2_with fail
              exact ⟨⟨k + 1, by omega, by go_num, ho1, hb.trans hb1⟩, by simp [intOf]; omega⟩
            · obtain rfl : k = L.length := by omega
              rw [List.take_length, HM.out] at ho
              clear h4 h3 HR3 HM
              obtain ⟨aq, cq, rfl⟩ := ho.shape
              go_wp2_with fail
              go_ret
              exact ⟨aq, cq, rfl, ho.mono (Nat.le_succ _), HB.out _ hb⟩
end Go.Proofs.Ytedpfmalhapmeaa

/- The mathematics of the document's Enter. -/
namespace Go.Proofs.Ytedpfmalhapmeaa
open Go.RowKit
set_option linter.unusedVariables false
set_option maxRecDepth 100000

def outF (p : UInt64) (l : List UInt64) : List UInt64 := l.filter (fun x => decide (x ≠ p))
theorem outF_mem (p x : UInt64) (l : List UInt64) : x ∈ outF p l ↔ x ∈ l ∧ x ≠ p := by unfold outF; simp
theorem outF_ris (p : UInt64) (l : List UInt64) (h : Ris l) : Ris (outF p l) := List.Pairwise.filter _ h
theorem outF_len (p : UInt64) (l : List UInt64) : (outF p l).length ≤ l.length := List.length_filter_le _ _
/-- What the document's change makes of voters and learners. -/
def rchg (V L : List UInt64) (k : Int) (p : UInt64) : Option (List UInt64 × List UInt64) :=
  if p = 0 then none else if k = 1 then some (putF p false V, outF p L) else if k = 2 then (if p ∈ V then none else some (V, putF p false L)) else if k = 3 then some (outF p V, outF p L) else none
theorem isL_put {S : UInt64 → Nat} {s : Nat} {l : List UInt64} (p : UInt64) (h : IsL S s l) : IsL (upd S p s) s (putF p false l) := by
  refine ⟨putF_ris p l h.1, fun x => ?_⟩
  rw [putF_mem, h.2]
  unfold upd
  by_cases e : x = p
  · simp [e]
  · simp [e]
theorem isL_out {S : UInt64 → Nat} {s t : Nat} {l : List UInt64} (p : UInt64) (h : IsL S s l) (ht : t ≠ s) : IsL (upd S p t) s (outF p l) := by
  refine ⟨outF_ris p l h.1, fun x => ?_⟩
  rw [outF_mem, h.2]
  unfold upd
  by_cases e : x = p
  · simp [e, ht]
  · simp [e]
theorem isL_stay {S : UInt64 → Nat} {s t : Nat} {l : List UInt64} (p : UInt64) (h : IsL S s l) (ht : t ≠ s) (hp : S p ≠ s) : IsL (upd S p t) s l := by
  refine ⟨h.1, fun x => ?_⟩
  rw [h.2]
  unfold upd
  by_cases e : x = p
  · subst e; simp [ht, hp]
  · simp [e]
theorem rchg_none {S : UInt64 → Nat} {V L : List UInt64} (h1 : IsL S 1 V) {k : Int} {p : UInt64} (h : rchg V L k p = none) : chg1 S k p = none := by
  unfold rchg at h
  unfold chg1
  split at h
  · rename_i h0; rw [if_pos h0]
  · rename_i h0
    rw [if_neg h0]
    split at h
    · cases h
    · rename_i hk1
      rw [if_neg hk1]
      split at h
      · rename_i hk2
        rw [if_pos hk2]
        split at h
        · rename_i hp; rw [if_pos ((h1.2 p).1 hp)]
        · cases h
      · rename_i hk2
        rw [if_neg hk2]
        split at h
        · cases h
        · rename_i hk3; rw [if_neg hk3]
theorem rchg_some {S : UInt64 → Nat} {V L V' L' : List UInt64} (h1 : IsL S 1 V) (h2 : IsL S 2 L) {k : Int} {p : UInt64} (h : rchg V L k p = some (V', L')) : ∃ S', chg1 S k p = some S' ∧ IsL S' 1 V' ∧ IsL S' 2 L' := by
  unfold rchg at h
  unfold chg1
  split at h
  · cases h
  · rename_i h0
    rw [if_neg h0]
    split at h
    · rename_i hk1
      rw [if_pos hk1]
      cases h
      exact ⟨_, rfl, isL_put p h1, isL_out p h2 (by decide)⟩
    · rename_i hk1
      rw [if_neg hk1]
      split at h
      · rename_i hk2
        rw [if_pos hk2]
        split at h
        · cases h
        · rename_i hp
          have hS : ¬ S p = 1 := fun e => hp ((h1.2 p).2 e)
          rw [if_neg hS]
          cases h
          exact ⟨_, rfl, isL_stay p h1 (by decide) hS, isL_put p h2⟩
      · rename_i hk2
        rw [if_neg hk2]
        split at h
        · rename_i hk3
          rw [if_pos hk3]
          cases h
          exact ⟨_, rfl, isL_out p h1 (by decide), isL_out p h2 (by decide)⟩
        · cases h
theorem rchg_len {V L V' L' : List UInt64} {k : Int} {p : UInt64} (h : rchg V L k p = some (V', L')) : V'.length ≤ V.length + 1 ∧ L'.length ≤ L.length + 1 := by
  have a1 := putF_len p V
  have a2 := putF_len p L
  have a3 := outF_len p V
  have a4 := outF_len p L
  unfold rchg at h
  split at h
  · cases h
  · split at h
    · cases h; omega
    · split at h
      · split at h
        · cases h
        · cases h; omega
      · split at h
        · cases h; omega
        · cases h
/-- The seats of a configuration that is right and not joint. -/
theorem seat_start {c : Cn} (h : chk c = true) : IsL (seatF c.1 c.2.2) 1 c.1 ∧ IsL (seatF c.1 c.2.2) 2 c.2.2 := by
  have hh := h
  unfold chk ok1 at hh
  simp only [Bool.and_eq_true, decide_eq_true_eq, Bool.not_eq_true'] at hh
  obtain ⟨⟨_, r1⟩, _, ⟨_, r3⟩, _, hv, _⟩ := hh
  have hd : ∀ x, x ∈ c.1 → x ∉ c.2.2 := fun x h1 h2 => by
    have := List.any_eq_false.1 hv x h2
    unfold vt at this
    simp [h1] at this
  have ris : ∀ (l : List UInt64) (n : Nat), risF n l = true → Ris l ∧ ∀ x ∈ l, n < x.toNat := by
    intro l
    induction l with
    | nil => intro n _; exact ⟨List.Pairwise.nil, fun x hx => by cases hx⟩
    | cons a r ih =>
      intro n h
      simp only [risF, Bool.and_eq_true, decide_eq_true_eq] at h
      obtain ⟨h1, h2⟩ := ih _ h.2
      refine ⟨List.pairwise_cons.2 ⟨fun x hx => h2 x hx, h1⟩, fun x hx => ?_⟩
      rcases List.mem_cons.1 hx with rfl | hx
      · exact h.1
      · have := h2 x hx; omega
  refine ⟨⟨(ris _ _ r1).1, fun x => ?_⟩, ⟨(ris _ _ r3).1, fun x => ?_⟩⟩
  · unfold seatF
    by_cases e : x ∈ c.2.2
    · rw [if_pos e]; simp; exact fun q => hd x q e
    · rw [if_neg e]; by_cases e1 : x ∈ c.1 <;> simp [e1]
  · unfold seatF
    by_cases e : x ∈ c.2.2
    · simp [e]
    · rw [if_neg e]; by_cases e1 : x ∈ c.1 <;> simp [e1, e]
theorem entR_uniq {c : Cn} {qs : List Cg} {r r' : Cn} {e e' : Nat} (h : EntR c qs r e) (h' : EntR c qs r' e') : r = r' ∧ e = e' := by
  rcases h with ⟨a1, rfl, rfl⟩ | ⟨a1, a2, rfl, rfl⟩ | ⟨a1, a2, a3, rfl, rfl⟩ | ⟨a1, a2, S, V, L, a3, a4, a5, a6⟩ <;>
    rcases h' with ⟨b1, rfl, rfl⟩ | ⟨b1, b2, rfl, rfl⟩ | ⟨b1, b2, b3, rfl, rfl⟩ | ⟨b1, b2, S', V', L', b3, b4, b5, b6⟩
  case inr.inr.inr.inr.inr.inr =>
    rw [a3] at b3
    obtain rfl := Option.some.inj b3
    obtain rfl := isL_eq a4 b4
    obtain rfl := isL_eq a5 b5
    rcases a6 with ⟨p1, rfl, rfl⟩ | ⟨p1, rfl, rfl⟩ <;> rcases b6 with ⟨q1, rfl, rfl⟩ | ⟨q1, rfl, rfl⟩
    · exact ⟨rfl, rfl⟩
    · rw [p1] at q1; cases q1
    · rw [p1] at q1; cases q1
    · exact ⟨rfl, rfl⟩
  all_goals first
    | exact ⟨rfl, rfl⟩
    | (rw [a1] at b1; cases b1; done)
    | (rw [a3] at b3; cases b3; done)
    | (rw [b2] at a2; simp at a2; done)
    | (rw [a2] at b2; simp at b2; done)
end Go.Proofs.Ytedpfmalhapmeaa

/- The document's Check. -/
namespace Go.Proofs.Ytedpfmalhapmeaa
open Go.RowKit Go.Sort
set_option linter.unusedVariables false
set_option maxRecDepth 100000

theorem risF_ris : ∀ (l : List UInt64) (n : Nat), risF n l = true → Ris l ∧ ∀ x ∈ l, n < x.toNat := by
  intro l
  induction l with
  | nil => intro n _; exact ⟨List.Pairwise.nil, fun x hx => by cases hx⟩
  | cons a r ih =>
    intro n h
    simp only [risF, Bool.and_eq_true, decide_eq_true_eq] at h
    obtain ⟨h1, h2⟩ := ih _ h.2
    refine ⟨List.pairwise_cons.2 ⟨fun x hx => h2 x hx, h1⟩, fun x hx => ?_⟩
    rcases List.mem_cons.1 hx with rfl | hx
    · exact h.1
    · have := h2 x hx; omega
/-- What the document asks of a configuration is what the program asks of it. -/
theorem chk_ref (c : Cn) : chk c = (decide (c.1 ≠ []) && (risF 0 c.1 && (risF 0 c.2.1 && (risF 0 c.2.2 && (decide ((mems c).length ≤ 9) && !(c.2.2.any (vt c))))))) := by
  have hi := (mems_is c).2
  rw [Bool.eq_iff_iff]
  unfold chk ok1
  simp only [Bool.and_eq_true, decide_eq_true_eq]
  constructor
  · rintro ⟨⟨_, a⟩, ⟨_, b⟩, ⟨_, d⟩, e, f, g⟩
    exact ⟨e, a, b, d, g, f⟩
  · rintro ⟨e, a, b, d, g, f⟩
    have l1 := ris_len (risF_ris _ _ a).1 (fun x hx => (hi x).2 (.inl hx))
    have l2 := ris_len (risF_ris _ _ b).1 (fun x hx => (hi x).2 (.inr (.inl hx)))
    have l3 := ris_len (risF_ris _ _ d).1 (fun x hx => (hi x).2 (.inr (.inr hx)))
    exact ⟨⟨by omega, a⟩, ⟨by omega, b⟩, ⟨by omega, d⟩, e, f, g⟩
theorem any_take (c : Cn) (l : List UInt64) (k : Nat) (h : k < l.length) : (l.take (k + 1)).any (vt c) = ((l.take k).any (vt c) || vt c l[k]) := by
  rw [List.take_succ_eq_append_getElem h, List.any_append]; simp

set_option maxHeartbeats 4000000 in
theorem rcheck_any {x y z : Value} {c : Cn} {w : World} (hr : Rc w x y z c) (hl : c.1.length + c.2.1.length + c.2.2.length ≤ 1099511627776) :
    Calls Try.prog 12 #[.agg #[x, y, z]] w fun e w' => e = .returned (.int .i64 (if chk c = true then 0 else 70)) ∧ Below w.heap.size w w' := by
  have hB := u_al w (.cells #[x, y, z] 24)
  have HK : Hid (∀ W, Below (w.heap.size + 1) (w.alloc (.cells #[x, y, z] 24)) W → W.cell? ⟨w.heap.size, 0, none⟩ = some x ∧ W.cell? ⟨w.heap.size, 1, none⟩ = some y ∧ W.cell? ⟨w.heap.size, 2, none⟩ = some z) := fun W hW => box3 hW rfl
  have HB : Hid (∀ W, Below (w.heap.size + 1) (w.alloc (.cells #[x, y, z] 24)) W → Below w.heap.size w W) := fun W hW => hB.trans (hW.mono (by omega))
  have HZ : Hid (∀ W, Below (w.heap.size + 1) (w.alloc (.cells #[x, y, z] 24)) W → w.heap.size + 1 ≤ W.heap.size) := fun W hW => by
    have := hW.size; simp only [World.size_alloc] at this; omega
  have HRC : Hid (∀ W, Below (w.heap.size + 1) (w.alloc (.cells #[x, y, z] 24)) W → Rc W x y z c) := fun W hW => hr.below (HB.out W hW) (Nat.le_refl _)
  have hS0 : Below (w.heap.size + 1) (w.alloc (.cells #[x, y, z] 24)) (w.alloc (.cells #[x, y, z] 24)) := Below.refl _ _
  have hR0 : (if chk c = true then (0 : Int) else 70) = if (decide (c.1 ≠ []) && (risF 0 c.1 && (risF 0 c.2.1 && (risF 0 c.2.2 && (decide ((mems c).length ≤ 9) && !(c.2.2.any (vt c))))))) = true then 0 else 70 := by rw [← chk_ref]
  obtain ⟨ax, cx, rfl⟩ := hr.1.shape
  obtain ⟨ay, cy, rfl⟩ := hr.2.1.shape
  obtain ⟨az, cz, rfl⟩ := hr.2.2.shape
  rw [hR0]
  clear hR0 hr
  have HRI : Hid (∀ W v l, Below (w.heap.size + 1) (w.alloc (.cells #[.slice ax c.1.length cx, .slice ay c.2.1.length cy, .slice az c.2.2.length cz] 24)) W → Ru W v l → Calls Try.prog 37 #[v] W fun e w' => e = .returned (.bool (risF 0 l)) ∧ Below (w.heap.size + 1) (w.alloc (.cells #[.slice ax c.1.length cx, .slice ay c.2.1.length cy, .slice az c.2.2.length cz] 24)) w') := fun W v l hW hv => (rrises_any hv).mono (by
    rintro e w' ⟨rfl, h⟩
    exact ⟨rfl, hW.trans (h.mono (HZ.out W hW))⟩)
  have HME : Hid (∀ W, Below (w.heap.size + 1) (w.alloc (.cells #[.slice ax c.1.length cx, .slice ay c.2.1.length cy, .slice az c.2.2.length cz] 24)) W → Calls Try.prog 19 #[.agg #[.slice ax c.1.length cx, .slice ay c.2.1.length cy, .slice az c.2.2.length cz]] W fun e w' => ∃ am cm, e = .returned (.slice am (mems c).length cm) ∧ Below (w.heap.size + 1) (w.alloc (.cells #[.slice ax c.1.length cx, .slice ay c.2.1.length cy, .slice az c.2.2.length cz] 24)) w') := fun W hW => (rmembers_any (HRC.out W hW) hl).mono (by
    rintro e w' ⟨am, cm, rfl, _, h⟩
    exact ⟨am, cm, rfl, hW.trans (h.mono (HZ.out W hW))⟩)
  have HVO : Hid (∀ W p, Below (w.heap.size + 1) (w.alloc (.cells #[.slice ax c.1.length cx, .slice ay c.2.1.length cy, .slice az c.2.2.length cz] 24)) W → Calls Try.prog 17 #[.agg #[.slice ax c.1.length cx, .slice ay c.2.1.length cy, .slice az c.2.2.length cz], .int .u64 ((p : UInt64).toNat : Int)] W fun e w' => e = .returned (.bool (vt c p)) ∧ Below (w.heap.size + 1) (w.alloc (.cells #[.slice ax c.1.length cx, .slice ay c.2.1.length cy, .slice az c.2.2.length cz] 24)) w') := fun W p hW => (rvotes_any (HRC.out W hW)).mono (by
    rintro e w' ⟨rfl, h⟩
    exact ⟨rfl, hW.trans (h.mono (HZ.out W hW))⟩)
  have hmx : (mems c).length ≤ 1099511627776 := by have := mems_le c; omega
  have h5 : ∀ k, (h : k < c.2.2.length) → (c.2.2.take (k + 1)).any (vt c) = ((c.2.2.take k).any (vt c) || vt c c.2.2[k]) := fun k h => any_take c c.2.2 k h
  have H5 : Hid _ := h5
  have HV0 : Hid (c.1 = [] ↔ c.1.length = 0) := (List.length_eq_zero_iff).symm
  have HTR : Hid (∀ k, k ≤ c.2.2.length → c.2.2.any (vt c) = false ∨ c.2.2.any (vt c) = true) := fun _ _ => by cases c.2.2.any (vt c) <;> simp
  have HAN : Hid (∀ k, (h : k < c.2.2.length) → vt c c.2.2[k] = true → c.2.2.any (vt c) = true) := fun k h hv => List.any_eq_true.2 ⟨_, List.getElem_mem h, hv⟩
  have HAL : Hid ((c.2.2.take c.2.2.length).any (vt c) = false → c.2.2.any (vt c) = false) := by show _ → _; rw [List.take_length]; exact id
  generalize hG : (if (decide (c.1 ≠ []) && (risF 0 c.1 && (risF 0 c.2.1 && (risF 0 c.2.2 && (decide ((mems c).length ≤ 9) && !(c.2.2.any (vt c))))))) = true then (0 : Int) else 70) = G
  have HG : Hid _ := hG
  clear hG h5
  obtain ⟨k0, k1, k2⟩ := HK.out _ hS0
  by_cases hV : c.1.length = 0
  · obtain rfl : 70 = G := by rw [← HG.out, (HV0.out).2 hV]; rfl
    have hq : ((c.1.length : Int) == 0) = true := by simp [hV]
    clear HG hV
    go_enter Try.func12, Try.ntmps12
    go_wp2_with fail
    go_ret
    exact ⟨rfl, HB.out _ hS0⟩
  · have hq : ((c.1.length : Int) == 0) = false := by simp only [beq_eq_false_iff_ne, ne_eq]; omega
    have hVn : c.1 ≠ [] := fun e => hV (HV0.out.1 e)
    have HG2 : Hid ((if ((risF 0 c.1 && (risF 0 c.2.1 && (risF 0 c.2.2 && (decide ((mems c).length ≤ 9) && !(c.2.2.any (vt c))))))) = true then (0 : Int) else 70) = G) := by
      show _ = _
      rw [← HG.out, decide_eq_true hVn, Bool.true_and]
    clear HG hVn hV
    go_enter Try.func12, Try.ntmps12
    go_wp2_with fail
    generalize (w.alloc (.cells #[.slice ax c.1.length cx, .slice ay c.2.1.length cy, .slice az c.2.2.length cz] 24)) = W0 at *
    refine (HRI.out W0 _ _ hS0 (HRC.out W0 hS0).1).mono ?_
    rintro e w1 ⟨rfl, hS1⟩
    obtain ⟨l0, l1, l2⟩ := HK.out w1 hS1
    clear k0 k1 k2
    cases hr1 : risF 0 c.1 with
    | false =>
      obtain rfl : 70 = G := by rw [← HG2.out, hr1]; rfl
      clear HG2 hr1
      go_wp2_with fail
      go_ret
      exact ⟨rfl, HB.out _ hS1⟩
    | true =>
    have HG3 : Hid ((if ((risF 0 c.2.1 && (risF 0 c.2.2 && (decide ((mems c).length ≤ 9) && !(c.2.2.any (vt c)))))) = true then (0 : Int) else 70) = G) := by
      show _ = _
      rw [← HG2.out, hr1, Bool.true_and]
    clear HG2 hr1
    go_wp2_with fail
    refine (HRI.out w1 _ _ hS1 (HRC.out w1 hS1).2.1).mono ?_
    rintro e w2 ⟨rfl, hS2⟩
    obtain ⟨m0, m1, m2⟩ := HK.out w2 hS2
    clear l0 l1 l2
    cases hr2 : risF 0 c.2.1 with
    | false =>
      obtain rfl : 70 = G := by rw [← HG3.out, hr2]; rfl
      clear HG3 hr2
      go_wp2_with fail
      go_ret
      exact ⟨rfl, HB.out _ hS2⟩
    | true =>
    have HG4 : Hid ((if ((risF 0 c.2.2 && (decide ((mems c).length ≤ 9) && !(c.2.2.any (vt c))))) = true then (0 : Int) else 70) = G) := by
      show _ = _
      rw [← HG3.out, hr2, Bool.true_and]
    clear HG3 hr2
    go_wp2_with fail
    refine (HRI.out w2 _ _ hS2 (HRC.out w2 hS2).2.2).mono ?_
    rintro e w3 ⟨rfl, hS3⟩
    obtain ⟨n0, n1, n2⟩ := HK.out w3 hS3
    clear m0 m1 m2
    cases hr3 : risF 0 c.2.2 with
    | false =>
      obtain rfl : 70 = G := by rw [← HG4.out, hr3]; rfl
      clear HG4 hr3
      go_wp2_with fail
      go_ret
      exact ⟨rfl, HB.out _ hS3⟩
    | true =>
    have HG5 : Hid ((if ((decide ((mems c).length ≤ 9) && !(c.2.2.any (vt c)))) = true then (0 : Int) else 70) = G) := by
      show _ = _
      rw [← HG4.out, hr3, Bool.true_and]
    clear HG4 hr3
    go_wp2_with fail
    refine (HME.out w3 hS3).mono ?_
    rintro e w4 ⟨am, cm, rfl, hS4⟩
    obtain ⟨p0, p1, p2⟩ := HK.out w4 hS4
    clear n0 n1 n2
    generalize (mems c).length = ml at *
    by_cases h9 : 9 < ml
    · obtain rfl : 70 = G := by rw [← HG5.out, decide_eq_false (by omega)]; rfl
      have h9i : (9 : Int) < (ml : Int) := by omega
      clear HG5
      go_wp2_with fail
      go_ret
      exact ⟨rfl, HB.out _ hS4⟩
    · have h9i : ¬ (9 : Int) < (ml : Int) := by omega
      have HG6 : Hid ((if (!(c.2.2.any (vt c))) = true then (0 : Int) else 70) = G) := by
        show _ = _
        rw [← HG5.out, decide_eq_true (by omega), Bool.true_and]
      clear HG5
      go_wp2_with fail
      clear p0 p1 p2
      go_loopw [3] (fun i wr => ∃ k : Nat, k ≤ c.2.2.length ∧ i = .int .i64 k ∧ Hid ((c.2.2.take k).any (vt c) = false) ∧ Below (w.heap.size + 1) W0 wr) (fun i _ => c.2.2.length - (intOf i).toNat)
      case atStart => exact ⟨0, Nat.zero_le _, rfl, by show _ = _; simp, hS4⟩
      case round =>
        obtain ⟨k, hk, rfl, HX, hb⟩ := hrel
        obtain ⟨k0, k1, k2⟩ := HK.out wr hb
        obtain ⟨a', c', e', h1, h2, h3, h4⟩ := (HRC.out wr hb).2.2
        simp only [Value.slice.injEq, true_and] at e'
        obtain ⟨rfl, rfl⟩ := e'
        unfold maxLen at h2
        by_cases hlt : k < c.2.2.length
        · obtain ⟨a, rfl, hc⟩ := h4 k hlt
          have HT : Hid _ := H5.out k hlt
          have HA1 : Hid _ := HAN.out k hlt
          have HVP : Hid (∀ W, Below (w.heap.size + 1) W0 W → Calls Try.prog 17 #[.agg #[.slice ax c.1.length cx, .slice ay c.2.1.length cy, .slice (some a) c.2.2.length cz], .int .u64 (c.2.2[k].toNat : Int)] W fun e w' => e = .returned (.bool (vt c c.2.2[k])) ∧ Below (w.heap.size + 1) W0 w') := fun W hW => HVO.out W _ hW
          have HKZ : Hid (∀ W, Below (w.heap.size + 1) W0 W → W.cell? (a.add k) = some (.int .u64 (c.2.2[k].toNat : Int))) := fun W hW => by
            obtain ⟨a'', c'', e'', _, _, _, h4'⟩ := (HRC.out W hW).2.2
            simp only [Value.slice.injEq, true_and] at e''
            obtain ⟨rfl, rfl⟩ := e''
            obtain ⟨a3, e3, hc3⟩ := h4' k hlt
            obtain rfl := Option.some.inj e3
            exact hc3
          clear h4 h3 H5 HAN
          generalize c.2.2[k] = vk at *
          have hbd : Below (w.heap.size + 1) W0 wr.drew := below_drewN hb 1
          go_wp2_with fail
          go_region_held3 (fun w' => w'.cell? ⟨w.heap.size, 0, none⟩ = some (.slice ax c.1.length cx) ∧ w'.cell? ⟨w.heap.size, 1, none⟩ = some (.slice ay c.2.1.length cy) ∧ w'.cell? ⟨w.heap.size, 2, none⟩ = some (.slice (some a) c.2.2.length cz) ∧ w'.cell? (a.add k) = some (.int .u64 (vk.toNat : Int))) (go_keep) (first
            | (go_at_call 17; refine (HVP.out _ hbd).mono ?_; rintro e w5 ⟨rfl, hb5⟩; obtain ⟨r0, r1, r2⟩ := HK.out w5 hb5; have r3 := HKZ.out w5 hb5)
            | fail)
          cases hv : vt c vk with
          | true =>
            obtain rfl : 70 = G := by rw [← HG6.out, HA1.out hv]; rfl
            clear HG6 HT HA1 HAL
            go_wp2_with fail
            go_ret
            exact ⟨rfl, HB.out _ hb5⟩
          | false =>
            have HX2 : Hid ((c.2.2.take (k + 1)).any (vt c) = false) := by show _ = _; rw [HT.out, HX.out, hv]; rfl
            clear HT HA1 hv
            go_wp2_with fail
            exact ⟨⟨k + 1, by omega, by go_num, HX2, hb5⟩, by simp [intOf]; omega⟩
        · obtain rfl : k = c.2.2.length := by omega
          obtain rfl : 0 = G := by rw [← HG6.out, HAL.out HX.out]; rfl
          clear h4 h3 HX HG6 H5 HAN HAL
          go_wp2_with fail
          go_ret
          exact ⟨rfl, HB.out _ hb⟩
end Go.Proofs.Ytedpfmalhapmeaa

/- The document's Leave. -/
namespace Go.Proofs.Ytedpfmalhapmeaa
open Go.RowKit Go.Maps
set_option linter.unusedVariables false
set_option maxRecDepth 100000

set_option maxHeartbeats 2000000 in
theorem rleave_any {x y z : Value} {c : Cn} {w : World} (hr : Rc w x y z c) (hlc : c.1.length + c.2.1.length + c.2.2.length ≤ 1048576) :
    Calls Try.prog 24 #[.agg #[x, y, z]] w fun e w' => ∃ (x' y' z' : Value), e = .returned (.tuple #[.agg #[x', y', z'], .int .i64 ((leF c).2 : Nat)]) ∧ Oc w.heap.size w' x' y' z' (leF c).1 ∧ Below w.heap.size w w' := by
  obtain ⟨V, O, L⟩ := c
  obtain ⟨ax, cx, rfl⟩ := hr.1.shape
  obtain ⟨ay, cy, rfl⟩ := hr.2.1.shape
  obtain ⟨az, cz, rfl⟩ := hr.2.2.shape
  have hlc2 : V.length + O.length + L.length ≤ 1048576 := hlc
  generalize hF : leF (V, O, L) = F
  unfold leF at hF
  simp only [] at hF
  have HF : Hid _ := hF
  clear hF
  have hB0 : Below w.heap.size w ((w.alloc (.cells #[.slice ax V.length cx, .slice ay O.length cy, .slice az L.length cz] 24)).alloc (.cells #[.slice none 0 0, .slice none 0 0, .slice none 0 0] 24)) := (u_al w _).alloc (by simp) _
  have hz0 : ((w.alloc (.cells #[.slice ax V.length cx, .slice ay O.length cy, .slice az L.length cz] 24)).alloc (.cells #[.slice none 0 0, .slice none 0 0, .slice none 0 0] 24)).heap.size = w.heap.size + 2 := by simp
  have hbx : ((w.alloc (.cells #[.slice ax V.length cx, .slice ay O.length cy, .slice az L.length cz] 24)).alloc (.cells #[.slice none 0 0, .slice none 0 0, .slice none 0 0] 24)).heap[w.heap.size]? = some (.cells #[.slice ax V.length cx, .slice ay O.length cy, .slice az L.length cz] 24 (0, 0)) := by
    rw [Below.heap_alloc _ _ _ (by simp)]; exact heap_alloc_new w _
  have hrs : ((w.alloc (.cells #[.slice ax V.length cx, .slice ay O.length cy, .slice az L.length cz] 24)).alloc (.cells #[.slice none 0 0, .slice none 0 0, .slice none 0 0] 24)).heap[w.heap.size + 1]? = some (.cells #[.slice none 0 0, .slice none 0 0, .slice none 0 0] 24 (0, 0)) := by
    have := heap_alloc_new (w.alloc (.cells #[.slice ax V.length cx, .slice ay O.length cy, .slice az L.length cz] 24)) (.cells #[.slice none 0 0, .slice none 0 0, .slice none 0 0] 24)
    rw [World.size_alloc] at this
    exact this
  go_enter Try.func24, Try.ntmps24
  go_wp2_with fail
  generalize ((w.alloc (.cells #[.slice ax V.length cx, .slice ay O.length cy, .slice az L.length cz] 24)).alloc (.cells #[.slice none 0 0, .slice none 0 0, .slice none 0 0] 24)) = W0 at *
  have HKB : Hid (∀ W, Below W0.heap.size W0 W → Below w.heap.size w W) := fun W hW => hB0.trans (hW.mono hB0.size)
  have HKC : Hid (∀ W, Below W0.heap.size W0 W → W.cell? ⟨w.heap.size, 0, none⟩ = some (.slice ax V.length cx) ∧ W.cell? ⟨w.heap.size, 1, none⟩ = some (.slice ay O.length cy) ∧ W.cell? ⟨w.heap.size, 2, none⟩ = some (.slice az L.length cz)) := fun W hW => by
    obtain ⟨q0, q1, q2, _⟩ := at3 ((hW.block _ (by omega)).trans hbx)
    exact ⟨q0, q1, q2⟩
  have HKR : Hid (∀ W, Below W0.heap.size W0 W → W.heap[w.heap.size + 1]? = some (.cells #[.slice none 0 0, .slice none 0 0, .slice none 0 0] 24 (0, 0))) := fun W hW => (hW.block _ (by omega)).trans hrs
  have HRC : Hid (∀ W, Below W0.heap.size W0 W → Rc W (.slice ax V.length cx) (.slice ay O.length cy) (.slice az L.length cz) (V, O, L)) := fun W hW => hr.below (HKB.out W hW) (Nat.le_refl _)
  have HOUT : Hid (∀ (W : World) (x' y' z' : Value) (res : Cn), Below W0.heap.size W0 W → Oc W0.heap.size W x' y' z' res → ∀ W', W' = ((W.setCell ⟨w.heap.size + 1, 0, none⟩ x').setCell ⟨w.heap.size + 1, 1, none⟩ y').setCell ⟨w.heap.size + 1, 2, none⟩ z' → (W'.cell? ⟨w.heap.size + 1, 0, none⟩ = some x' ∧ W'.cell? ⟨w.heap.size + 1, 1, none⟩ = some y' ∧ W'.cell? ⟨w.heap.size + 1, 2, none⟩ = some z') ∧ Oc w.heap.size W' x' y' z' res ∧ Below w.heap.size w W') := fun W x' y' z' res hW ho => outO (HKR.out W hW) (Nat.le_succ _) (by omega) (HKB.out W hW) ho
  clear hbx hrs hr hB0
  obtain ⟨c0, c1, c2⟩ := HKC.out W0 (Below.refl _ _)
  have hck := rcheck_any (HRC.out W0 (Below.refl _ _)) (by simp only [] at hlc ⊢; omega)
  cases hchk : chk (V, O, L) with
  | false =>
    rw [hchk] at hck
    obtain rfl : (none3, 70) = F := by rw [← HF.out, hchk]; rfl
    clear HF
    go_wp2_with fail
    refine hck.mono ?_
    rintro e w1 ⟨rfl, hb1⟩
    obtain ⟨t0, t1, t2, tz⟩ := at3 (HKR.out w1 hb1)
    have tz0 := tz 0
    have tz1 := tz 1
    have tz2 := tz 2
    clear tz
    go_wp2_with fail
    obtain ⟨⟨k0, k1, k2⟩, hoc, hbz⟩ := HOUT.out w1 _ _ _ none3 hb1 (Oc.nil _ _) _ rfl
    generalize (((w1.setCell ⟨w.heap.size + 1, 0, none⟩ (.slice none 0 0)).setCell ⟨w.heap.size + 1, 1, none⟩ (.slice none 0 0)).setCell ⟨w.heap.size + 1, 2, none⟩ (.slice none 0 0)) = wz at *
    refine bodyPost_ret (v := .tuple #[.agg #[.slice none 0 0, .slice none 0 0, .slice none 0 0], .int .i64 70]) (by simp [results, Try.results24, go_sem, k0, k1, k2]; try rfl) rfl ?_
    exact ⟨_, _, _, rfl, hoc, hbz⟩
  | true =>
    rw [hchk] at hck
    by_cases hO : O.length = 0
    · obtain rfl : (none3, 71) = F := by rw [← HF.out, hchk]; simp only [if_true]; rw [if_pos hO]
      have hOi : ((O.length : Int) == 0) = true := by simp [hO]
      clear HF hchk hO
      go_wp2_with fail
      refine hck.mono ?_
      rintro e w1 ⟨rfl, hb1⟩
      clear hck
      obtain ⟨d0, d1, d2⟩ := HKC.out w1 hb1
      obtain ⟨t0, t1, t2, tz⟩ := at3 (HKR.out w1 hb1)
      have tz0 := tz 0
      have tz1 := tz 1
      have tz2 := tz 2
      clear tz
      go_wp2_with fail
      obtain ⟨⟨k0, k1, k2⟩, hoc, hbz⟩ := HOUT.out w1 _ _ _ none3 hb1 (Oc.nil _ _) _ rfl
      generalize (((w1.setCell ⟨w.heap.size + 1, 0, none⟩ (.slice none 0 0)).setCell ⟨w.heap.size + 1, 1, none⟩ (.slice none 0 0)).setCell ⟨w.heap.size + 1, 2, none⟩ (.slice none 0 0)) = wz at *
      refine bodyPost_ret (v := .tuple #[.agg #[.slice none 0 0, .slice none 0 0, .slice none 0 0], .int .i64 71]) (by simp [results, Try.results24, go_sem, k0, k1, k2]; try rfl) rfl ?_
      exact ⟨_, _, _, rfl, hoc, hbz⟩
    · obtain rfl : (lv (V, O, L), 0) = F := by rw [← HF.out, hchk]; simp only [if_true]; rw [if_neg hO]
      have hOi : ((O.length : Int) == 0) = false := by simp only [beq_eq_false_iff_ne, ne_eq]; omega
      clear HF hchk hO
      go_wp2_with fail
      refine hck.mono ?_
      rintro e w1 ⟨rfl, hb1⟩
      clear hck
      obtain ⟨d0, d1, d2⟩ := HKC.out w1 hb1
      have hb0 : Below W0.heap.size W0 (w1.drewN 1) := Below.drN hb1 1
      have HR1 : Hid (∀ W, Below W0.heap.size W0 W → Ru W (.slice ax V.length cx) V) := fun W hW => (HRC.out W hW).1
      have HR3 : Hid (∀ W, Below W0.heap.size W0 W → Ru W (.slice az L.length cz) L) := fun W hW => (HRC.out W hW).2.2
      go_wp2_with fail
      go_region_held3 (fun w' => w'.cell? ⟨w.heap.size, 0, none⟩ = some (.slice ax V.length cx) ∧ w'.cell? ⟨w.heap.size, 1, none⟩ = some (.slice ay O.length cy) ∧ w'.cell? ⟨w.heap.size, 2, none⟩ = some (.slice az L.length cz)) (go_keep) (first
        | (refine step_appU0 rfl _ _ rfl W0.heap.size rfl _ _ rfl (HR3.out w3 hb3) hb3.size (by omega) ?_; intro v4 w4 ho4 hb4'; have hb4 := hb3.trans (hb4'.mono hb3.size); have ho3' := ho3.below hb4' (Nat.le_refl _); obtain ⟨a4, e4, rfl⟩ := ho4.shape; obtain ⟨r0, r1, r2⟩ := HKC.out w4 hb4; obtain ⟨t0, t1, t2, tz⟩ := at3 (HKR.out w4 hb4); have tz0 := tz 0; have tz1 := tz 1; have tz2 := tz 2; clear tz)
        | (refine step_appU0 rfl _ _ rfl W0.heap.size rfl _ _ rfl (HR1.out _ hb0) hb0.size (by omega) ?_; intro v3 w3 ho3 hb3'; have hb3 := hb0.trans (hb3'.mono hb0.size); obtain ⟨a3, e3, rfl⟩ := ho3.shape; obtain ⟨p0, p1, p2⟩ := HKC.out w3 hb3)
        | fail)
      go_wp2_with fail
      obtain ⟨⟨k0, k1, k2⟩, hoc, hbz⟩ := HOUT.out w4 (.slice a3 V.length e3) (.slice none 0 0) (.slice a4 L.length e4) (lv (V, O, L)) hb4 ⟨ho3', Ou.nil _ _, ho4⟩ _ rfl
      generalize (((w4.setCell ⟨w.heap.size + 1, 0, none⟩ (.slice a3 V.length e3)).setCell ⟨w.heap.size + 1, 1, none⟩ (.slice none 0 0)).setCell ⟨w.heap.size + 1, 2, none⟩ (.slice a4 L.length e4)) = wz at *
      refine bodyPost_ret (v := .tuple #[.agg #[.slice a3 V.length e3, .slice none 0 0, .slice a4 L.length e4], .int .i64 0]) (by simp [results, Try.results24, go_sem, k0, k1, k2]; try rfl) rfl ?_
      exact ⟨_, _, _, rfl, hoc, hbz⟩
end Go.Proofs.Ytedpfmalhapmeaa

/- The document's Out and same. -/
namespace Go.Proofs.Ytedpfmalhapmeaa
open Go.RowKit
set_option linter.unusedVariables false
set_option maxRecDepth 100000

theorem outF_take (p : UInt64) (l : List UInt64) (k : Nat) (h : k < l.length) : outF p (l.take (k + 1)) = outF p (l.take k) ++ (if l[k] = p then [] else [l[k]]) := by
  unfold outF
  rw [List.take_succ_eq_append_getElem h, List.filter_append]
  congr 1
  by_cases q : l[k] = p
  · simp [q]
  · simp [q]

set_option maxHeartbeats 1000000 in
theorem rout_any {v : Value} {l : List UInt64} {x : UInt64} {w : World} (hr : Ru w v l) (hl : l.length ≤ 1099511627776) :
    Calls Try.prog 46 #[v, .int .u64 (x.toNat : Int)] w fun e w' => ∃ v', e = .returned v' ∧ Ou w.heap.size w' v' (outF x l) ∧ Below w.heap.size w w' := by
  obtain ⟨ao, c, rfl, h1, h2, h3, h4⟩ := hr
  unfold maxLen at h2
  generalize hR : outF x l = R
  have HR : Hid (outF x (l.take l.length) = R) := by rw [List.take_length]; exact hR
  have HLN : Hid (∀ k, (outF x (l.take k)).length ≤ k) := fun k => Nat.le_trans (outF_len x _) (by rw [List.length_take]; omega)
  clear hR
  go_enter Try.func46, Try.ntmps46
  go_wp2_with fail
  go_loopw [5, 6] (fun o i wr => ∃ k : Nat, k ≤ l.length ∧ i = .int .i64 k ∧ Ou w.heap.size wr o (outF x (l.take k)) ∧ Below w.heap.size w wr) (fun _ i _ => l.length - (intOf i).toNat)
  case atStart => exact ⟨0, Nat.zero_le _, rfl, by rw [List.take_zero]; exact Ou.nil _ _, Below.refl _ _⟩
  case round =>
    obtain ⟨k, hk, rfl, ho, hb⟩ := hrel
    have hsz := hb.size
    by_cases hlt : k < l.length
    · obtain ⟨a, rfl, hc⟩ := h4 k hlt
      have hcx : wr.cell? (a.add k) = some (.int .u64 (l[k].toNat : Int)) := by rw [hb.cell (World.block_lt_of_cell? w _ hc)]; exact hc
      have HT : Hid _ := outF_take x l k hlt
      have hln := HLN.out k
      clear h4 h3 hc HLN
      generalize l[k] = y at *
      by_cases hyx : y = x
      · have hq : ((y.toNat : Int) == (x.toNat : Int)) = true := by simp [hyx]
        have ho2 : Ou w.heap.size wr u5 (outF x (l.take (k + 1))) := by rw [HT.out, if_pos hyx, List.append_nil]; exact ho
        clear HT hyx
        go_wp2_with fail
        exact ⟨⟨k + 1, by omega, by go_num, ho2, hb⟩, by simp [intOf]; omega⟩
      · have hq : ((y.toNat : Int) == (x.toNat : Int)) = false := by
          simp only [beq_eq_false_iff_ne, ne_eq]
          exact fun e => hyx (u_inj e)
        have HT2 : Hid (outF x (l.take (k + 1)) = outF x (l.take k) ++ [y]) := by show _ = _; rw [HT.out, if_neg hyx]
        clear HT hyx
        go_wp2_with (first | (at_builtin; refine wpList_appU rfl _ _ rfl w.heap.size _ _ rfl (ho.alloc _) _ [y] rfl (ru_one _ _ _ ?e1 _ _ rfl) ?e2 ?e3 ?_; rotate_right; intro v4 w5 ho4 hg4 hw4) | fail)
        case e1 => rfl
        case e2 => (try simp) <;> omega
        case e3 => (try simp) <;> omega
        have hb5 : Below w.heap.size w w5 := hb.trans (((Below.refl w.heap.size _).alloc hsz _).trans ((Below.refl w.heap.size _).grown hg4 (by simp; omega) (fun j e => (ho.lt j e).1)))
        rw [← HT2.out] at ho4
        exact ⟨⟨k + 1, by omega, by go_num, ho4, hb5⟩, by simp [intOf]; omega⟩
    · obtain rfl : k = l.length := by omega
      rw [HR.out] at ho
      clear h4 h3 HR HLN
      obtain ⟨aq, cq, rfl⟩ := ho.shape
      go_wp2_with fail
      go_ret
      exact ⟨_, rfl, ho, hb⟩

set_option maxHeartbeats 1000000 in
theorem rsame_any {va vb : Value} {la lb : List UInt64} {w : World} (ha : Ru w va la) (hb : Ru w vb lb) :
    Calls Try.prog 47 #[va, vb] w fun e w' => e = .returned (.bool (decide (la = lb))) ∧ Below w.heap.size w w' := by
  have HA : Hid (∀ W, Below w.heap.size w W → Ru W va la) := fun W hW => ha.below hW (Nat.le_refl _)
  have HB : Hid (∀ W, Below w.heap.size w W → Ru W vb lb) := fun W hW => hb.below hW (Nat.le_refl _)
  obtain ⟨aa, ca, rfl⟩ := ha.shape
  obtain ⟨ab, cb, rfl⟩ := hb.shape
  have hal := ha.len
  have hbl := hb.len
  unfold maxLen at hal hbl
  clear ha hb
  by_cases hn : la.length = lb.length
  · have hne : ((la.length : Int) == (lb.length : Int)) = true := by simp [hn]
    have hne2 : ((la.length : Int) != (lb.length : Int)) = false := by simp [hn]
    have HN : Hid (la.length = lb.length) := hn
    clear hn
    go_enter Try.func47, Try.ntmps47
    go_wp2_with fail
    clear hne hne2
    go_loopw [5] (fun i wr => ∃ k : Nat, k ≤ la.length ∧ i = .int .i64 k ∧ Hid (la.take k = lb.take k) ∧ Below w.heap.size w wr) (fun i _ => la.length - (intOf i).toNat)
    case atStart => exact ⟨0, Nat.zero_le _, rfl, by show _ = _; simp, Below.refl _ _⟩
    case round =>
      obtain ⟨k, hk, rfl, HX, hb⟩ := hrel
      by_cases hlt : k < la.length
      · have hltb : k < lb.length := by have := HN.out; omega
        obtain ⟨ao, co, e, _, _, _, h4⟩ := HA.out wr hb
        simp only [Value.slice.injEq, true_and] at e
        obtain ⟨rfl, rfl⟩ := e
        obtain ⟨a, rfl, hc⟩ := h4 k hlt
        obtain ⟨bo, do', e, _, _, _, g4⟩ := HB.out wr hb
        simp only [Value.slice.injEq, true_and] at e
        obtain ⟨rfl, rfl⟩ := e
        obtain ⟨b, rfl, hd⟩ := g4 k hltb
        have hki : (k : Int) < (la.length : Int) := by omega
        have hkj : (k : Int) < (lb.length : Int) := by omega
        have HT1 : Hid _ := List.take_succ_eq_append_getElem hlt
        have HT2 : Hid _ := List.take_succ_eq_append_getElem hltb
        have HE : Hid (la = lb → la[k] = lb[k]) := fun e => by subst e; rfl
        clear h4 g4
        generalize la[k] = p at *
        generalize lb[k] = q at *
        by_cases hpq : p = q
        · have hq : ((p.toNat : Int) == (q.toNat : Int)) = true := by simp [hpq]
          have hq2 : ((p.toNat : Int) != (q.toNat : Int)) = false := by simp [hpq]
          have HX2 : Hid (la.take (k + 1) = lb.take (k + 1)) := by show _ = _; rw [HT1.out, HT2.out, HX.out, hpq]
          clear hpq HT1 HT2 HE
          go_wp2_with fail
          go_quiet (fail)
          go_wp2_with fail
          exact ⟨⟨k + 1, by omega, by go_num, HX2, below_drewN hb _⟩, by simp [intOf]; omega⟩
        · have hq : ((p.toNat : Int) == (q.toNat : Int)) = false := by
            simp only [beq_eq_false_iff_ne, ne_eq]
            exact fun e => hpq (u_inj e)
          have hq2 : ((p.toNat : Int) != (q.toNat : Int)) = true := by simp only [bne, hq]; rfl
          have HF : Hid (decide (la = lb) = false) := decide_eq_false (fun e => hpq (HE.out e))
          clear hpq HT1 HT2 HE
          go_wp2_with fail
          go_quiet (fail)
          go_wp2_with fail
          go_ret
          rw [HF.out]
          exact ⟨rfl, below_drewN hb _⟩
      · obtain rfl : k = la.length := by omega
        have HF : Hid (decide (la = lb) = true) := decide_eq_true (by have := HX.out; rw [List.take_length, HN.out, List.take_length] at this; exact this)
        clear HX
        go_wp2_with fail
        go_ret
        rw [HF.out]
        exact ⟨rfl, hb⟩
  · have hne : ((la.length : Int) == (lb.length : Int)) = false := by simp only [beq_eq_false_iff_ne, ne_eq]; omega
    have HF : Hid (decide (la = lb) = false) := decide_eq_false (fun e => hn (by rw [e]))
    clear hn
    go_enter Try.func47, Try.ntmps47
    go_wp2_with fail
    go_ret
    rw [HF.out]
    exact ⟨rfl, Below.refl _ _⟩
end Go.Proofs.Ytedpfmalhapmeaa
