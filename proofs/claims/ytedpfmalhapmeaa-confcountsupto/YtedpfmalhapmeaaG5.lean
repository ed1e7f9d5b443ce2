/- The document's Check. -/
import Derived.Test.YtedpfmalhapmeaaG4
import Derived.Test.YtedpfmalhapmeaaG3
import Derived.Deep.RegionHeld3
import Derived.Deep.QuietTactic
import Derived.BigQuiet
namespace Go.Proofs.Ytedpfmalhapmeaa
open Go.RowKit Go.Sort
set_option linter.unusedVariables false
set_option maxRecDepth 100000

theorem risF_ris : ∀ (l : List UInt64) (n : Nat), risF n l = true → Ris l ∧ ∀ x ∈ l, n < x.toNat := by
  intro l
  induction l with
  | nil => intro n _; exact ⟨List.Pairwise.nil, fun x hx => by cases hx⟩
  | cons a r ih =>
    intro n h
    simp only [risF, Bool.and_eq_true, decide_eq_true_eq] at h
    obtain ⟨h1, h2⟩ := ih _ h.2
    refine ⟨List.pairwise_cons.2 ⟨fun x hx => h2 x hx, h1⟩, fun x hx => ?_⟩
    rcases List.mem_cons.1 hx with rfl | hx
    · exact h.1
    · have := h2 x hx; omega
/-- What the document asks of a configuration is what the program asks of it. -/
theorem chk_ref (c : Cn) : chk c = (decide (c.1 ≠ []) && (risF 0 c.1 && (risF 0 c.2.1 && (risF 0 c.2.2 && (decide ((mems c).length ≤ 9) && !(c.2.2.any (vt c))))))) := by
  have hi := (mems_is c).2
  rw [Bool.eq_iff_iff]
  unfold chk ok1
  simp only [Bool.and_eq_true, decide_eq_true_eq]
  constructor
  · rintro ⟨⟨_, a⟩, ⟨_, b⟩, ⟨_, d⟩, e, f, g⟩
    exact ⟨e, a, b, d, g, f⟩
  · rintro ⟨e, a, b, d, g, f⟩
    have l1 := ris_len (risF_ris _ _ a).1 (fun x hx => (hi x).2 (.inl hx))
    have l2 := ris_len (risF_ris _ _ b).1 (fun x hx => (hi x).2 (.inr (.inl hx)))
    have l3 := ris_len (risF_ris _ _ d).1 (fun x hx => (hi x).2 (.inr (.inr hx)))
    exact ⟨⟨by omega, a⟩, ⟨by omega, b⟩, ⟨by omega, d⟩, e, f, g⟩
theorem any_take (c : Cn) (l : List UInt64) (k : Nat) (h : k < l.length) : (l.take (k + 1)).any (vt c) = ((l.take k).any (vt c) || vt c l[k]) := by
  rw [List.take_succ_eq_append_getElem h, List.any_append]; simp

set_option maxHeartbeats 4000000 in
theorem rcheck_any {x y z : Value} {c : Cn} {w : World} (hr : Rc w x y z c) (hl : c.1.length + c.2.1.length + c.2.2.length ≤ 1099511627776) :
    Calls Try.prog 12 #[.agg #[x, y, z]] w fun e w' => e = .returned (.int .i64 (if chk c = true then 0 else 70)) ∧ Below w.heap.size w w' := by
  have hB := u_al w (.cells #[x, y, z] 24)
  have HK : Hid (∀ W, Below (w.heap.size + 1) (w.alloc (.cells #[x, y, z] 24)) W → W.cell? ⟨w.heap.size, 0, none⟩ = some x ∧ W.cell? ⟨w.heap.size, 1, none⟩ = some y ∧ W.cell? ⟨w.heap.size, 2, none⟩ = some z) := fun W hW => box3 hW rfl
  have HB : Hid (∀ W, Below (w.heap.size + 1) (w.alloc (.cells #[x, y, z] 24)) W → Below w.heap.size w W) := fun W hW => hB.trans (hW.mono (by omega))
  have HZ : Hid (∀ W, Below (w.heap.size + 1) (w.alloc (.cells #[x, y, z] 24)) W → w.heap.size + 1 ≤ W.heap.size) := fun W hW => by
    have := hW.size; simp only [World.size_alloc] at this; omega
  have HRC : Hid (∀ W, Below (w.heap.size + 1) (w.alloc (.cells #[x, y, z] 24)) W → Rc W x y z c) := fun W hW => hr.below (HB.out W hW) (Nat.le_refl _)
  have hS0 : Below (w.heap.size + 1) (w.alloc (.cells #[x, y, z] 24)) (w.alloc (.cells #[x, y, z] 24)) := Below.refl _ _
  have hR0 : (if chk c = true then (0 : Int) else 70) = if (decide (c.1 ≠ []) && (risF 0 c.1 && (risF 0 c.2.1 && (risF 0 c.2.2 && (decide ((mems c).length ≤ 9) && !(c.2.2.any (vt c))))))) = true then 0 else 70 := by rw [← chk_ref]
  obtain ⟨ax, cx, rfl⟩ := hr.1.shape
  obtain ⟨ay, cy, rfl⟩ := hr.2.1.shape
  obtain ⟨az, cz, rfl⟩ := hr.2.2.shape
  rw [hR0]
  clear hR0 hr
  have HRI : Hid (∀ W v l, Below (w.heap.size + 1) (w.alloc (.cells #[.slice ax c.1.length cx, .slice ay c.2.1.length cy, .slice az c.2.2.length cz] 24)) W → Ru W v l → Calls Try.prog 37 #[v] W fun e w' => e = .returned (.bool (risF 0 l)) ∧ Below (w.heap.size + 1) (w.alloc (.cells #[.slice ax c.1.length cx, .slice ay c.2.1.length cy, .slice az c.2.2.length cz] 24)) w') := fun W v l hW hv => (rrises_any hv).mono (by
    rintro e w' ⟨rfl, h⟩
    exact ⟨rfl, hW.trans (h.mono (HZ.out W hW))⟩)
  have HME : Hid (∀ W, Below (w.heap.size + 1) (w.alloc (.cells #[.slice ax c.1.length cx, .slice ay c.2.1.length cy, .slice az c.2.2.length cz] 24)) W → Calls Try.prog 19 #[.agg #[.slice ax c.1.length cx, .slice ay c.2.1.length cy, .slice az c.2.2.length cz]] W fun e w' => ∃ am cm, e = .returned (.slice am (mems c).length cm) ∧ Below (w.heap.size + 1) (w.alloc (.cells #[.slice ax c.1.length cx, .slice ay c.2.1.length cy, .slice az c.2.2.length cz] 24)) w') := fun W hW => (rmembers_any (HRC.out W hW) hl).mono (by
    rintro e w' ⟨am, cm, rfl, _, h⟩
    exact ⟨am, cm, rfl, hW.trans (h.mono (HZ.out W hW))⟩)
  have HVO : Hid (∀ W p, Below (w.heap.size + 1) (w.alloc (.cells #[.slice ax c.1.length cx, .slice ay c.2.1.length cy, .slice az c.2.2.length cz] 24)) W → Calls Try.prog 17 #[.agg #[.slice ax c.1.length cx, .slice ay c.2.1.length cy, .slice az c.2.2.length cz], .int .u64 ((p : UInt64).toNat : Int)] W fun e w' => e = .returned (.bool (vt c p)) ∧ Below (w.heap.size + 1) (w.alloc (.cells #[.slice ax c.1.length cx, .slice ay c.2.1.length cy, .slice az c.2.2.length cz] 24)) w') := fun W p hW => (rvotes_any (HRC.out W hW)).mono (by
    rintro e w' ⟨rfl, h⟩
    exact ⟨rfl, hW.trans (h.mono (HZ.out W hW))⟩)
  have hmx : (mems c).length ≤ 1099511627776 := by have := mems_le c; omega
  have h5 : ∀ k, (h : k < c.2.2.length) → (c.2.2.take (k + 1)).any (vt c) = ((c.2.2.take k).any (vt c) || vt c c.2.2[k]) := fun k h => any_take c c.2.2 k h
  have H5 : Hid _ := h5
  have HV0 : Hid (c.1 = [] ↔ c.1.length = 0) := (List.length_eq_zero_iff).symm
  have HTR : Hid (∀ k, k ≤ c.2.2.length → c.2.2.any (vt c) = false ∨ c.2.2.any (vt c) = true) := fun _ _ => by cases c.2.2.any (vt c) <;> simp
  have HAN : Hid (∀ k, (h : k < c.2.2.length) → vt c c.2.2[k] = true → c.2.2.any (vt c) = true) := fun k h hv => List.any_eq_true.2 ⟨_, List.getElem_mem h, hv⟩
  have HAL : Hid ((c.2.2.take c.2.2.length).any (vt c) = false → c.2.2.any (vt c) = false) := by show _ → _; rw [List.take_length]; exact id
  generalize hG : (if (decide (c.1 ≠ []) && (risF 0 c.1 && (risF 0 c.2.1 && (risF 0 c.2.2 && (decide ((mems c).length ≤ 9) && !(c.2.2.any (vt c))))))) = true then (0 : Int) else 70) = G
  have HG : Hid _ := hG
  clear hG h5
  obtain ⟨k0, k1, k2⟩ := HK.out _ hS0
  by_cases hV : c.1.length = 0
  · obtain rfl : 70 = G := by rw [← HG.out, (HV0.out).2 hV]; rfl
    have hq : ((c.1.length : Int) == 0) = true := by simp [hV]
    clear HG hV
    go_enter Try.func12, Try.ntmps12
    go_wp2_with fail
    go_ret
    exact ⟨rfl, HB.out _ hS0⟩
  · have hq : ((c.1.length : Int) == 0) = false := by simp only [beq_eq_false_iff_ne, ne_eq]; omega
    have hVn : c.1 ≠ [] := fun e => hV (HV0.out.1 e)
    have HG2 : Hid ((if ((risF 0 c.1 && (risF 0 c.2.1 && (risF 0 c.2.2 && (decide ((mems c).length ≤ 9) && !(c.2.2.any (vt c))))))) = true then (0 : Int) else 70) = G) := by
      show _ = _
      rw [← HG.out, decide_eq_true hVn, Bool.true_and]
    clear HG hVn hV
    go_enter Try.func12, Try.ntmps12
    go_wp2_with fail
    generalize (w.alloc (.cells #[.slice ax c.1.length cx, .slice ay c.2.1.length cy, .slice az c.2.2.length cz] 24)) = W0 at *
    refine (HRI.out W0 _ _ hS0 (HRC.out W0 hS0).1).mono ?_
    rintro e w1 ⟨rfl, hS1⟩
    obtain ⟨l0, l1, l2⟩ := HK.out w1 hS1
    clear k0 k1 k2
    cases hr1 : risF 0 c.1 with
    | false =>
      obtain rfl : 70 = G := by rw [← HG2.out, hr1]; rfl
      clear HG2 hr1
      go_wp2_with fail
      go_ret
      exact ⟨rfl, HB.out _ hS1⟩
    | true =>
    have HG3 : Hid ((if ((risF 0 c.2.1 && (risF 0 c.2.2 && (decide ((mems c).length ≤ 9) && !(c.2.2.any (vt c)))))) = true then (0 : Int) else 70) = G) := by
      show _ = _
      rw [← HG2.out, hr1, Bool.true_and]
    clear HG2 hr1
    go_wp2_with fail
    refine (HRI.out w1 _ _ hS1 (HRC.out w1 hS1).2.1).mono ?_
    rintro e w2 ⟨rfl, hS2⟩
    obtain ⟨m0, m1, m2⟩ := HK.out w2 hS2
    clear l0 l1 l2
    cases hr2 : risF 0 c.2.1 with
    | false =>
      obtain rfl : 70 = G := by rw [← HG3.out, hr2]; rfl
      clear HG3 hr2
      go_wp2_with fail
      go_ret
      exact ⟨rfl, HB.out _ hS2⟩
    | true =>
    have HG4 : Hid ((if ((risF 0 c.2.2 && (decide ((mems c).length ≤ 9) && !(c.2.2.any (vt c))))) = true then (0 : Int) else 70) = G) := by
      show _ = _
      rw [← HG3.out, hr2, Bool.true_and]
    clear HG3 hr2
    go_wp2_with fail
    refine (HRI.out w2 _ _ hS2 (HRC.out w2 hS2).2.2).mono ?_
    rintro e w3 ⟨rfl, hS3⟩
    obtain ⟨n0, n1, n2⟩ := HK.out w3 hS3
    clear m0 m1 m2
    cases hr3 : risF 0 c.2.2 with
    | false =>
      obtain rfl : 70 = G := by rw [← HG4.out, hr3]; rfl
      clear HG4 hr3
      go_wp2_with fail
      go_ret
      exact ⟨rfl, HB.out _ hS3⟩
    | true =>
    have HG5 : Hid ((if ((decide ((mems c).length ≤ 9) && !(c.2.2.any (vt c)))) = true then (0 : Int) else 70) = G) := by
      show _ = _
      rw [← HG4.out, hr3, Bool.true_and]
    clear HG4 hr3
    go_wp2_with fail
    refine (HME.out w3 hS3).mono ?_
    rintro e w4 ⟨am, cm, rfl, hS4⟩
    obtain ⟨p0, p1, p2⟩ := HK.out w4 hS4
    clear n0 n1 n2
    generalize (mems c).length = ml at *
    by_cases h9 : 9 < ml
    · obtain rfl : 70 = G := by rw [← HG5.out, decide_eq_false (by omega)]; rfl
      have h9i : (9 : Int) < (ml : Int) := by omega
      clear HG5
      go_wp2_with fail
      go_ret
      exact ⟨rfl, HB.out _ hS4⟩
    · have h9i : ¬ (9 : Int) < (ml : Int) := by omega
      have HG6 : Hid ((if (!(c.2.2.any (vt c))) = true then (0 : Int) else 70) = G) := by
        show _ = _
        rw [← HG5.out, decide_eq_true (by omega), Bool.true_and]
      clear HG5
      go_wp2_with fail
      clear p0 p1 p2
      go_loopw [3] (fun i wr => ∃ k : Nat, k ≤ c.2.2.length ∧ i = .int .i64 k ∧ Hid ((c.2.2.take k).any (vt c) = false) ∧ Below (w.heap.size + 1) W0 wr) (fun i _ => c.2.2.length - (intOf i).toNat)
      case atStart => exact ⟨0, Nat.zero_le _, rfl, by show _ = _; simp, hS4⟩
      case round =>
        obtain ⟨k, hk, rfl, HX, hb⟩ := hrel
        obtain ⟨k0, k1, k2⟩ := HK.out wr hb
        obtain ⟨a', c', e', h1, h2, h3, h4⟩ := (HRC.out wr hb).2.2
        simp only [Value.slice.injEq, true_and] at e'
        obtain ⟨rfl, rfl⟩ := e'
        unfold maxLen at h2
        by_cases hlt : k < c.2.2.length
        · obtain ⟨a, rfl, hc⟩ := h4 k hlt
          have HT : Hid _ := H5.out k hlt
          have HA1 : Hid _ := HAN.out k hlt
          have HVP : Hid (∀ W, Below (w.heap.size + 1) W0 W → Calls Try.prog 17 #[.agg #[.slice ax c.1.length cx, .slice ay c.2.1.length cy, .slice (some a) c.2.2.length cz], .int .u64 (c.2.2[k].toNat : Int)] W fun e w' => e = .returned (.bool (vt c c.2.2[k])) ∧ Below (w.heap.size + 1) W0 w') := fun W hW => HVO.out W _ hW
          have HKZ : Hid (∀ W, Below (w.heap.size + 1) W0 W → W.cell? (a.add k) = some (.int .u64 (c.2.2[k].toNat : Int))) := fun W hW => by
            obtain ⟨a'', c'', e'', _, _, _, h4'⟩ := (HRC.out W hW).2.2
            simp only [Value.slice.injEq, true_and] at e''
            obtain ⟨rfl, rfl⟩ := e''
            obtain ⟨a3, e3, hc3⟩ := h4' k hlt
            obtain rfl := Option.some.inj e3
            exact hc3
          clear h4 h3 H5 HAN
          generalize c.2.2[k] = vk at *
          have hbd : Below (w.heap.size + 1) W0 wr.drew := below_drewN hb 1
          go_wp2_with fail
          go_region_held3 (fun w' => w'.cell? ⟨w.heap.size, 0, none⟩ = some (.slice ax c.1.length cx) ∧ w'.cell? ⟨w.heap.size, 1, none⟩ = some (.slice ay c.2.1.length cy) ∧ w'.cell? ⟨w.heap.size, 2, none⟩ = some (.slice (some a) c.2.2.length cz) ∧ w'.cell? (a.add k) = some (.int .u64 (vk.toNat : Int))) (go_keep) (first
            | (go_at_call 17; refine (HVP.out _ hbd).mono ?_; rintro e w5 ⟨rfl, hb5⟩; obtain ⟨r0, r1, r2⟩ := HK.out w5 hb5; have r3 := HKZ.out w5 hb5)
            | fail)
          cases hv : vt c vk with
          | true =>
            obtain rfl : 70 = G := by rw [← HG6.out, HA1.out hv]; rfl
            clear HG6 HT HA1 HAL
            go_wp2_with fail
            go_ret
            exact ⟨rfl, HB.out _ hb5⟩
          | false =>
            have HX2 : Hid ((c.2.2.take (k + 1)).any (vt c) = false) := by show _ = _; rw [HT.out, HX.out, hv]; rfl
            clear HT HA1 hv
            go_wp2_with fail
            exact ⟨⟨k + 1, by omega, by go_num, HX2, hb5⟩, by simp [intOf]; omega⟩
        · obtain rfl : k = c.2.2.length := by omega
          obtain rfl : 0 = G := by rw [← HG6.out, HAL.out HX.out]; rfl
          clear h4 h3 HX HG6 H5 HAN HAL
          go_wp2_with fail
          go_ret
          exact ⟨rfl, HB.out _ hb⟩
end Go.Proofs.Ytedpfmalhapmeaa

/- The document's count, Quorum, Lost (made by tools/genref.py). -/
namespace Go.Proofs.Ytedpfmalhapmeaa
open Go.RowKit Go.Maps
set_option linter.unusedVariables false
set_option maxRecDepth 100000

theorem rcount_any {v v' : Value} {l vs : List UInt64} {w : World} (hl : Ru w v l) (hr : Ru w v' vs) :
    Calls Try.prog 50 #[v', v] w fun e w' => e = .returned (.int .i64 (cnt l vs : Nat)) ∧ w' = w := by
  have hcn : ∀ x : UInt64, Calls Try.prog 39 #[v, .int .u64 (x.toNat : Int)] w fun e w' => e = .returned (.bool (decide (x ∈ l))) ∧ w' = w := fun x => rin_any hl
  obtain ⟨al, cl, rfl⟩ := hl.shape
  obtain ⟨ao, c, rfl, h1, h2, h3, h4⟩ := hr
  unfold maxLen at h2
  generalize hR : cnt l vs = R
  have HR : Hid (cnt l (vs.take vs.length) = R) := by rw [List.take_length]; exact hR
  clear hR
  go_enter Try.func50, Try.ntmps50
  go_wp2_with fail
  go_loopw [5, 6] (fun n i wr => ∃ k m : Nat, k ≤ vs.length ∧ i = .int .i64 k ∧ n = .int .i64 m ∧ m ≤ k ∧ Hid (cnt l (vs.take k) = m) ∧ wr = w) (fun _ i _ => vs.length - (intOf i).toNat)
  case atStart => exact ⟨0, 0, Nat.zero_le _, rfl, rfl, Nat.le_refl _, by show _ = _; simp [cnt], rfl⟩
  case round =>
    obtain ⟨k, m, hk, rfl, rfl, hmk, HX, rfl⟩ := hrel
    by_cases hlt : k < vs.length
    · obtain ⟨a, rfl, hc⟩ := h4 k hlt
      have HT : Hid _ := cnt_take l vs k hlt
      have hq := hcn vs[k]
      clear h4 h3 hcn
      generalize vs[k] = y at *
      by_cases hm : y ∈ l
      · rw [decide_eq_true hm] at hq
        have HX2 : Hid (cnt l (vs.take (k + 1)) = m + 1) := by show _ = _; rw [HT.out, HX.out, if_pos hm]
        clear HT HX hm
        go_wp2_with fail
        refine hq.mono ?_
        rintro e w1 ⟨rfl, rfl⟩
        go_wp2_with fail
        exact ⟨⟨k + 1, m + 1, by omega, by go_num, by go_num, by omega, HX2, trivial⟩, by simp [intOf]; omega⟩
      · rw [decide_eq_false hm] at hq
        have HX2 : Hid (cnt l (vs.take (k + 1)) = m) := by show _ = _; rw [HT.out, HX.out, if_neg hm]; rfl
        clear HT HX hm
        go_wp2_with fail
        refine hq.mono ?_
        rintro e w1 ⟨rfl, rfl⟩
        go_wp2_with fail
        exact ⟨⟨k + 1, m, by omega, by go_num, rfl, by omega, HX2, trivial⟩, by simp [intOf]; omega⟩
    · obtain rfl : k = vs.length := by omega
      obtain rfl : m = R := by rw [← HX.out]; exact HR.out
      clear h4 HX HR hcn
      go_wp2_with fail
      go_ret
      exact ⟨rfl, rfl⟩

theorem lost_eq (c : Cn) (l : List UInt64) : (!(agr (fun vs => vs.length - cnt l vs) c)) = (decide (c.1.length ≤ 2 * cnt l c.1) || (decide (0 < c.2.1.length) && decide (c.2.1.length ≤ 2 * cnt l c.2.1))) := by
  have h1 := cnt_le l c.1
  have h2 := cnt_le l c.2.1
  rw [Bool.eq_iff_iff]
  unfold agr
  simp only [Bool.not_eq_true', Bool.and_eq_false_iff, Bool.or_eq_false_iff, decide_eq_false_iff_not, Bool.or_eq_true, Bool.and_eq_true, decide_eq_true_eq]
  omega

set_option maxHeartbeats 4000000 in
theorem rquorum_any {x y z v : Value} {c : Cn} {l : List UInt64} {w : World} (hr : Rc w x y z c) (hl : Ru w v l) (hlc : c.1.length + c.2.1.length + c.2.2.length ≤ 1099511627776) :
    Calls Try.prog 26 #[.agg #[x, y, z], v] w fun e w' => e = .returned (.bool (chk c && agr (cnt l) c)) ∧ Below w.heap.size w w' := by
  have hB := u_al w (.cells #[x, y, z] 24)
  have hf1 := cnt_le l c.1
  have hf2 := cnt_le l c.2.1
  have HB : Hid (∀ W, Below (w.heap.size + 1) (w.alloc (.cells #[x, y, z] 24)) W → Below w.heap.size w W) := fun W hW => hB.trans (hW.mono (by omega))
  have HZ : Hid (∀ W, Below (w.heap.size + 1) (w.alloc (.cells #[x, y, z] 24)) W → w.heap.size + 1 ≤ W.heap.size) := fun W hW => by
    have := hW.size; simp only [World.size_alloc] at this; omega
  have HC : Hid (∀ W, Below (w.heap.size + 1) (w.alloc (.cells #[x, y, z] 24)) W → Calls Try.prog 12 #[.agg #[x, y, z]] W fun e w' => e = .returned (.int .i64 (if chk c = true then 0 else 70)) ∧ Below (w.heap.size + 1) (w.alloc (.cells #[x, y, z] 24)) w') := fun W hW => (rcheck_any (hr.below (HB.out W hW) (Nat.le_refl _)) hlc).mono (by rintro e w' ⟨rfl, h⟩; exact ⟨rfl, hW.trans (h.mono (HZ.out W hW))⟩)
  have HQ : Hid (∀ W, Below (w.heap.size + 1) (w.alloc (.cells #[x, y, z] 24)) W → Calls Try.prog 50 #[x, v] W fun e w' => e = .returned (.int .i64 (cnt l c.1 : Nat)) ∧ Below (w.heap.size + 1) (w.alloc (.cells #[x, y, z] 24)) w') := fun W hW => (rcount_any (hl.below (HB.out W hW) (Nat.le_refl _)) (hr.1.below (HB.out W hW) (Nat.le_refl _))).mono (by rintro e w' ⟨rfl, rfl⟩; exact ⟨rfl, hW⟩)
  have HO : Hid (∀ W, Below (w.heap.size + 1) (w.alloc (.cells #[x, y, z] 24)) W → Calls Try.prog 50 #[y, v] W fun e w' => e = .returned (.int .i64 (cnt l c.2.1 : Nat)) ∧ Below (w.heap.size + 1) (w.alloc (.cells #[x, y, z] 24)) w') := fun W hW => (rcount_any (hl.below (HB.out W hW) (Nat.le_refl _)) (hr.2.1.below (HB.out W hW) (Nat.le_refl _))).mono (by rintro e w' ⟨rfl, rfl⟩; exact ⟨rfl, hW⟩)
  have HK : Hid (∀ W, Below (w.heap.size + 1) (w.alloc (.cells #[x, y, z] 24)) W → W.cell? ⟨w.heap.size, 0, none⟩ = some x ∧ W.cell? ⟨w.heap.size, 1, none⟩ = some y ∧ W.cell? ⟨w.heap.size, 2, none⟩ = some z) := fun W hW => box3 hW rfl
  have hS : Below (w.heap.size + 1) (w.alloc (.cells #[x, y, z] 24)) (w.alloc (.cells #[x, y, z] 24)) := Below.refl _ _
  have hS0 : Below (w.heap.size + 1) (w.alloc (.cells #[x, y, z] 24)) (w.alloc (.cells #[x, y, z] 24)).drew := (u_drew _).mono (by simp)
  generalize hR : (chk c && agr (cnt l) c) = R
  unfold agr at hR
  obtain ⟨ax, cx, rfl⟩ := hr.1.shape
  obtain ⟨ay, cy, rfl⟩ := hr.2.1.shape
  obtain ⟨az, cz, rfl⟩ := hr.2.2.shape
  obtain ⟨al, cl, rfl⟩ := hl.shape
  generalize cnt l c.1 = n1 at *
  generalize cnt l c.2.1 = n2 at *
  generalize hchk : chk c = CK at *
  obtain ⟨V, O, L⟩ := c
  simp only [] at *
  clear hchk
  generalize V.length = lv at *
  generalize O.length = lo at *
  generalize L.length = ll at *
  generalize l.length = lr at *
  clear hr hl
  have HR : Hid _ := hR
  clear hR
  have hm1 : IntKind.i64.wrap (2 * (n1 : Int)) = 2 * (n1 : Int) := by rw [IntKind.wrap_i64]; omega
  have hm2 : IntKind.i64.wrap (2 * (n2 : Int)) = 2 * (n2 : Int) := by rw [IntKind.wrap_i64]; omega
  go_enter Try.func26, Try.ntmps26
  go_wp2_with fail
  cases CK with
  | false =>
    obtain rfl : false = R := by rw [← HR.out]; simp; try omega
    clear HR
    refine wp_region_held_drew (S := fun W => Below (w.heap.size + 1) (w.alloc (.cells #[.slice ax lv cx, .slice ay lo cy, .slice az ll cz] 24)) W) (by kernel_rfl) hS0 (fun _ => ?_)
    refine wpAnyH_take (i := 0) (v := .agg #[.slice ax lv cx, .slice ay lo cy, .slice az ll cz]) rfl (by kernel_rfl) (by kernel_rfl) (by kernel_rfl) (fun _ _ _ h => h) (.inl ⟨by kernel_rfl, fun W hW => by obtain ⟨k0, k1, k2⟩ := HK.out W hW; go_simp⟩) hS0 ?_
    refine wpAnyH_ready (rs := [1]) (by kernel_rfl) (by simp) ?_
    refine AllReadyH.cons rfl (fun K hK => ?_) AllReadyH.nil
    rw [if_pos (by kernel_rfl)]
    go_simp
    refine (HC.out _ hS0).mono ?_
    rintro e w1 ⟨rfl, hS1⟩
    try simp only [Bool.false_eq_true, if_false]
    try simp only []
    refine hK.out _ _ hS1 (fun _ => ?_)
    clear hK K
    refine wpAnyH_take (i := 2) (v := .bool true) rfl (by kernel_rfl) (by kernel_rfl) (by kernel_rfl) (fun _ _ _ h => h) (.inl ⟨by kernel_rfl, fun W hW => by go_simp; try simp [*]⟩) hS1 ?_
    refine wpAnyH_take (i := 3) (v := .bool true) rfl (by kernel_rfl) (by kernel_rfl) (by kernel_rfl) (fun _ _ _ h => h) (.inl ⟨by kernel_rfl, fun W hW => by kernel_rfl⟩) hS1 ?_
    refine wpAnyH_take (i := 4) (v := undef) rfl (by kernel_rfl) (by kernel_rfl) (by kernel_rfl) (fun _ _ _ h => h) (.inr ⟨by kernel_rfl, rfl⟩) hS1 ?_
    refine wpAnyH_take (i := 5) (v := undef) rfl (by kernel_rfl) (by kernel_rfl) (by kernel_rfl) (fun _ _ _ h => h) (.inr ⟨by kernel_rfl, rfl⟩) hS1 ?_
    refine wpAnyH_take (i := 6) (v := undef) rfl (by kernel_rfl) (by kernel_rfl) (by kernel_rfl) (fun _ _ _ h => h) (.inr ⟨by kernel_rfl, rfl⟩) hS1 ?_
    refine wpAnyH_take (i := 7) (v := undef) rfl (by kernel_rfl) (by kernel_rfl) (by kernel_rfl) (fun _ _ _ h => h) (.inr ⟨by kernel_rfl, rfl⟩) hS1 ?_
    refine wpAnyH_take (i := 8) (v := undef) rfl (by kernel_rfl) (by kernel_rfl) (by kernel_rfl) (fun _ _ _ h => h) (.inr ⟨by kernel_rfl, rfl⟩) hS1 ?_
    refine wpAnyH_take (i := 9) (v := undef) rfl (by kernel_rfl) (by kernel_rfl) (by kernel_rfl) (fun _ _ _ h => h) (.inr ⟨by kernel_rfl, rfl⟩) hS1 ?_
    refine wpAnyH_take (i := 10) (v := undef) rfl (by kernel_rfl) (by kernel_rfl) (by kernel_rfl) (fun _ _ _ h => h) (.inr ⟨by kernel_rfl, rfl⟩) hS1 ?_
    refine wpAnyH_take (i := 11) (v := undef) rfl (by kernel_rfl) (by kernel_rfl) (by kernel_rfl) (fun _ _ _ h => h) (.inr ⟨by kernel_rfl, rfl⟩) hS1 ?_
    refine wpAnyH_take (i := 12) (v := undef) rfl (by kernel_rfl) (by kernel_rfl) (by kernel_rfl) (fun _ _ _ h => h) (.inr ⟨by kernel_rfl, rfl⟩) hS1 ?_
    refine wpAnyH_take (i := 13) (v := .bool true) rfl (by kernel_rfl) (by kernel_rfl) (by kernel_rfl) (fun _ _ _ h => h) (.inl ⟨by kernel_rfl, fun W hW => by kernel_rfl⟩) hS1 ?_
    refine wpAnyH_done (by kernel_rfl) ?_ _
    go_simp
    go_wp2_with fail
    go_ret
    exact ⟨rfl, HB.out _ hS1⟩
  | true =>
    by_cases h1 : lv < 2 * n1
    · have h1i : ¬ 2 * (n1 : Int) ≤ (lv : Int) := by omega
      refine wp_region_held_drew (S := fun W => Below (w.heap.size + 1) (w.alloc (.cells #[.slice ax lv cx, .slice ay lo cy, .slice az ll cz] 24)) W) (by kernel_rfl) hS0 (fun _ => ?_)
      refine wpAnyH_take (i := 0) (v := .agg #[.slice ax lv cx, .slice ay lo cy, .slice az ll cz]) rfl (by kernel_rfl) (by kernel_rfl) (by kernel_rfl) (fun _ _ _ h => h) (.inl ⟨by kernel_rfl, fun W hW => by obtain ⟨k0, k1, k2⟩ := HK.out W hW; go_simp⟩) hS0 ?_
      refine wpAnyH_ready (rs := [1]) (by kernel_rfl) (by simp) ?_
      refine AllReadyH.cons rfl (fun K hK => ?_) AllReadyH.nil
      rw [if_pos (by kernel_rfl)]
      go_simp
      refine (HC.out _ hS0).mono ?_
      rintro e w1 ⟨rfl, hS1⟩
      try simp only [if_true]
      try simp only []
      refine hK.out _ _ hS1 (fun _ => ?_)
      clear hK K
      refine wpAnyH_take (i := 2) (v := .bool false) rfl (by kernel_rfl) (by kernel_rfl) (by kernel_rfl) (fun _ _ _ h => h) (.inl ⟨by kernel_rfl, fun W hW => by go_simp; try simp [*]⟩) hS1 ?_
      refine wpAnyH_take (i := 3) (v := .bool false) rfl (by kernel_rfl) (by kernel_rfl) (by kernel_rfl) (fun _ _ _ h => h) (.inl ⟨by kernel_rfl, fun W hW => by kernel_rfl⟩) hS1 ?_
      refine wpAnyH_take (i := 4) (v := .pointer (some ⟨w.heap.size, 0, none⟩)) rfl (by kernel_rfl) (by kernel_rfl) (by kernel_rfl) (fun _ _ _ h => h) (.inl ⟨by kernel_rfl, fun W hW => by kernel_rfl⟩) hS1 ?_
      refine wpAnyH_take (i := 5) (v := .slice ax lv cx) rfl (by kernel_rfl) (by kernel_rfl) (by kernel_rfl) (fun _ _ _ h => h) (.inl ⟨by kernel_rfl, fun W hW => by obtain ⟨k0, k1, k2⟩ := HK.out W hW; go_simp⟩) hS1 ?_
      refine wpAnyH_take (i := 6) (v := .slice al lr cl) rfl (by kernel_rfl) (by kernel_rfl) (by kernel_rfl) (fun _ _ _ h => h) (.inl ⟨by kernel_rfl, fun W hW => by kernel_rfl⟩) hS1 ?_
      refine wpAnyH_take (i := 9) (v := .pointer (some ⟨w.heap.size, 0, none⟩)) rfl (by kernel_rfl) (by kernel_rfl) (by kernel_rfl) (fun _ _ _ h => h) (.inl ⟨by kernel_rfl, fun W hW => by kernel_rfl⟩) hS1 ?_
      refine wpAnyH_take (i := 10) (v := .slice ax lv cx) rfl (by kernel_rfl) (by kernel_rfl) (by kernel_rfl) (fun _ _ _ h => h) (.inl ⟨by kernel_rfl, fun W hW => by obtain ⟨k0, k1, k2⟩ := HK.out W hW; go_simp⟩) hS1 ?_
      refine wpAnyH_take (i := 11) (v := .int .i64 (lv : Int)) rfl (by kernel_rfl) (by kernel_rfl) (by kernel_rfl) (fun _ _ _ h => h) (.inl ⟨by kernel_rfl, fun W hW => by go_simp; try simp [*]⟩) hS1 ?_
      refine wpAnyH_ready (rs := [7]) (by kernel_rfl) (by simp) ?_
      refine AllReadyH.cons rfl (fun K hK => ?_) AllReadyH.nil
      rw [if_pos (by kernel_rfl)]
      go_simp
      refine (HQ.out _ hS1).mono ?_
      rintro e w2 ⟨rfl, hS2⟩
      try simp only []
      refine hK.out _ _ hS2 (fun _ => ?_)
      clear hK K
      refine wpAnyH_take (i := 8) (v := .int .i64 (2 * (n1 : Int))) rfl (by kernel_rfl) (by kernel_rfl) (by kernel_rfl) (fun _ _ _ h => h) (.inl ⟨by kernel_rfl, fun W hW => by go_simp; try simp [*]⟩) hS2 ?_
      refine wpAnyH_take (i := 12) (v := .bool false) rfl (by kernel_rfl) (by kernel_rfl) (by kernel_rfl) (fun _ _ _ h => h) (.inl ⟨by kernel_rfl, fun W hW => by go_simp; try simp [*]⟩) hS2 ?_
      refine wpAnyH_take (i := 13) (v := .bool false) rfl (by kernel_rfl) (by kernel_rfl) (by kernel_rfl) (fun _ _ _ h => h) (.inl ⟨by kernel_rfl, fun W hW => by kernel_rfl⟩) hS2 ?_
      refine wpAnyH_done (by kernel_rfl) ?_ _
      go_simp
      go_wp2_with fail
      by_cases h0 : lo = 0
      · have h0i : ((lo : Int) == 0) = true := by simp [h0]
        obtain rfl : true = R := by rw [← HR.out]; simp [h1, h0]
        clear HR
        clear h0
        have hS2d : Below (w.heap.size + 1) (w.alloc (.cells #[.slice ax lv cx, .slice ay lo cy, .slice az ll cz] 24)) w2.drew := below_drewN hS2 1
        refine wp_region_held_drew (S := fun W => Below (w.heap.size + 1) (w.alloc (.cells #[.slice ax lv cx, .slice ay lo cy, .slice az ll cz] 24)) W) (by kernel_rfl) hS2d (fun _ => ?_)
        refine wpAnyH_take (i := 0) (v := .pointer (some ⟨w.heap.size, 1, none⟩)) rfl (by kernel_rfl) (by kernel_rfl) (by kernel_rfl) (fun _ _ _ h => h) (.inl ⟨by kernel_rfl, fun W hW => by kernel_rfl⟩) hS2d ?_
        refine wpAnyH_take (i := 1) (v := .slice ay lo cy) rfl (by kernel_rfl) (by kernel_rfl) (by kernel_rfl) (fun _ _ _ h => h) (.inl ⟨by kernel_rfl, fun W hW => by obtain ⟨k0, k1, k2⟩ := HK.out W hW; go_simp⟩) hS2d ?_
        refine wpAnyH_take (i := 2) (v := .int .i64 (lo : Int)) rfl (by kernel_rfl) (by kernel_rfl) (by kernel_rfl) (fun _ _ _ h => h) (.inl ⟨by kernel_rfl, fun W hW => by go_simp; try simp [*]⟩) hS2d ?_
        refine wpAnyH_take (i := 3) (v := .bool true) rfl (by kernel_rfl) (by kernel_rfl) (by kernel_rfl) (fun _ _ _ h => h) (.inl ⟨by kernel_rfl, fun W hW => by go_simp; try simp [*]⟩) hS2d ?_
        refine wpAnyH_take (i := 4) (v := .bool true) rfl (by kernel_rfl) (by kernel_rfl) (by kernel_rfl) (fun _ _ _ h => h) (.inl ⟨by kernel_rfl, fun W hW => by kernel_rfl⟩) hS2d ?_
        refine wpAnyH_take (i := 5) (v := undef) rfl (by kernel_rfl) (by kernel_rfl) (by kernel_rfl) (fun _ _ _ h => h) (.inr ⟨by kernel_rfl, rfl⟩) hS2d ?_
        refine wpAnyH_take (i := 6) (v := undef) rfl (by kernel_rfl) (by kernel_rfl) (by kernel_rfl) (fun _ _ _ h => h) (.inr ⟨by kernel_rfl, rfl⟩) hS2d ?_
        refine wpAnyH_take (i := 7) (v := undef) rfl (by kernel_rfl) (by kernel_rfl) (by kernel_rfl) (fun _ _ _ h => h) (.inr ⟨by kernel_rfl, rfl⟩) hS2d ?_
        refine wpAnyH_take (i := 8) (v := undef) rfl (by kernel_rfl) (by kernel_rfl) (by kernel_rfl) (fun _ _ _ h => h) (.inr ⟨by kernel_rfl, rfl⟩) hS2d ?_
        refine wpAnyH_take (i := 9) (v := undef) rfl (by kernel_rfl) (by kernel_rfl) (by kernel_rfl) (fun _ _ _ h => h) (.inr ⟨by kernel_rfl, rfl⟩) hS2d ?_
        refine wpAnyH_take (i := 10) (v := undef) rfl (by kernel_rfl) (by kernel_rfl) (by kernel_rfl) (fun _ _ _ h => h) (.inr ⟨by kernel_rfl, rfl⟩) hS2d ?_
        refine wpAnyH_take (i := 11) (v := undef) rfl (by kernel_rfl) (by kernel_rfl) (by kernel_rfl) (fun _ _ _ h => h) (.inr ⟨by kernel_rfl, rfl⟩) hS2d ?_
        refine wpAnyH_take (i := 12) (v := undef) rfl (by kernel_rfl) (by kernel_rfl) (by kernel_rfl) (fun _ _ _ h => h) (.inr ⟨by kernel_rfl, rfl⟩) hS2d ?_
        refine wpAnyH_take (i := 13) (v := undef) rfl (by kernel_rfl) (by kernel_rfl) (by kernel_rfl) (fun _ _ _ h => h) (.inr ⟨by kernel_rfl, rfl⟩) hS2d ?_
        refine wpAnyH_take (i := 14) (v := .bool true) rfl (by kernel_rfl) (by kernel_rfl) (by kernel_rfl) (fun _ _ _ h => h) (.inl ⟨by kernel_rfl, fun W hW => by kernel_rfl⟩) hS2d ?_
        refine wpAnyH_take (i := 15) (v := .bool true) rfl (by kernel_rfl) (by kernel_rfl) (by kernel_rfl) (fun _ _ _ h => h) (.inl ⟨by kernel_rfl, fun W hW => by kernel_rfl⟩) hS2d ?_
        refine wpAnyH_done (by kernel_rfl) ?_ _
        go_simp
        go_wp2_with fail
        go_ret
        exact ⟨rfl, HB.out _ hS2d⟩
      · have h0i : ((lo : Int) == 0) = false := by simp only [beq_eq_false_iff_ne, ne_eq]; omega
        by_cases h2 : lo < 2 * n2
        · have h2i : (lo : Int) < 2 * (n2 : Int) := by omega
          obtain rfl : true = R := by rw [← HR.out]; simp [h1, h2]
          clear HR
          have hS2d : Below (w.heap.size + 1) (w.alloc (.cells #[.slice ax lv cx, .slice ay lo cy, .slice az ll cz] 24)) w2.drew := below_drewN hS2 1
          refine wp_region_held_drew (S := fun W => Below (w.heap.size + 1) (w.alloc (.cells #[.slice ax lv cx, .slice ay lo cy, .slice az ll cz] 24)) W) (by kernel_rfl) hS2d (fun _ => ?_)
          refine wpAnyH_take (i := 0) (v := .pointer (some ⟨w.heap.size, 1, none⟩)) rfl (by kernel_rfl) (by kernel_rfl) (by kernel_rfl) (fun _ _ _ h => h) (.inl ⟨by kernel_rfl, fun W hW => by kernel_rfl⟩) hS2d ?_
          refine wpAnyH_take (i := 1) (v := .slice ay lo cy) rfl (by kernel_rfl) (by kernel_rfl) (by kernel_rfl) (fun _ _ _ h => h) (.inl ⟨by kernel_rfl, fun W hW => by obtain ⟨k0, k1, k2⟩ := HK.out W hW; go_simp⟩) hS2d ?_
          refine wpAnyH_take (i := 2) (v := .int .i64 (lo : Int)) rfl (by kernel_rfl) (by kernel_rfl) (by kernel_rfl) (fun _ _ _ h => h) (.inl ⟨by kernel_rfl, fun W hW => by go_simp; try simp [*]⟩) hS2d ?_
          refine wpAnyH_take (i := 3) (v := .bool false) rfl (by kernel_rfl) (by kernel_rfl) (by kernel_rfl) (fun _ _ _ h => h) (.inl ⟨by kernel_rfl, fun W hW => by go_simp; try simp [*]⟩) hS2d ?_
          refine wpAnyH_take (i := 4) (v := .bool false) rfl (by kernel_rfl) (by kernel_rfl) (by kernel_rfl) (fun _ _ _ h => h) (.inl ⟨by kernel_rfl, fun W hW => by kernel_rfl⟩) hS2d ?_
          refine wpAnyH_take (i := 5) (v := .pointer (some ⟨w.heap.size, 1, none⟩)) rfl (by kernel_rfl) (by kernel_rfl) (by kernel_rfl) (fun _ _ _ h => h) (.inl ⟨by kernel_rfl, fun W hW => by kernel_rfl⟩) hS2d ?_
          refine wpAnyH_take (i := 6) (v := .slice ay lo cy) rfl (by kernel_rfl) (by kernel_rfl) (by kernel_rfl) (fun _ _ _ h => h) (.inl ⟨by kernel_rfl, fun W hW => by obtain ⟨k0, k1, k2⟩ := HK.out W hW; go_simp⟩) hS2d ?_
          refine wpAnyH_take (i := 7) (v := .slice al lr cl) rfl (by kernel_rfl) (by kernel_rfl) (by kernel_rfl) (fun _ _ _ h => h) (.inl ⟨by kernel_rfl, fun W hW => by kernel_rfl⟩) hS2d ?_
          refine wpAnyH_take (i := 10) (v := .pointer (some ⟨w.heap.size, 1, none⟩)) rfl (by kernel_rfl) (by kernel_rfl) (by kernel_rfl) (fun _ _ _ h => h) (.inl ⟨by kernel_rfl, fun W hW => by kernel_rfl⟩) hS2d ?_
          refine wpAnyH_take (i := 11) (v := .slice ay lo cy) rfl (by kernel_rfl) (by kernel_rfl) (by kernel_rfl) (fun _ _ _ h => h) (.inl ⟨by kernel_rfl, fun W hW => by obtain ⟨k0, k1, k2⟩ := HK.out W hW; go_simp⟩) hS2d ?_
          refine wpAnyH_take (i := 12) (v := .int .i64 (lo : Int)) rfl (by kernel_rfl) (by kernel_rfl) (by kernel_rfl) (fun _ _ _ h => h) (.inl ⟨by kernel_rfl, fun W hW => by go_simp; try simp [*]⟩) hS2d ?_
          refine wpAnyH_ready (rs := [8]) (by kernel_rfl) (by simp) ?_
          refine AllReadyH.cons rfl (fun K hK => ?_) AllReadyH.nil
          rw [if_pos (by kernel_rfl)]
          go_simp
          refine (HO.out _ hS2d).mono ?_
          rintro e w3 ⟨rfl, hS3⟩
          try simp only []
          refine hK.out _ _ hS3 (fun _ => ?_)
          clear hK K
          refine wpAnyH_take (i := 9) (v := .int .i64 (2 * (n2 : Int))) rfl (by kernel_rfl) (by kernel_rfl) (by kernel_rfl) (fun _ _ _ h => h) (.inl ⟨by kernel_rfl, fun W hW => by go_simp; try simp [*]⟩) hS3 ?_
          refine wpAnyH_take (i := 13) (v := .bool true) rfl (by kernel_rfl) (by kernel_rfl) (by kernel_rfl) (fun _ _ _ h => h) (.inl ⟨by kernel_rfl, fun W hW => by go_simp; try simp [*]⟩) hS3 ?_
          refine wpAnyH_take (i := 14) (v := .bool true) rfl (by kernel_rfl) (by kernel_rfl) (by kernel_rfl) (fun _ _ _ h => h) (.inl ⟨by kernel_rfl, fun W hW => by kernel_rfl⟩) hS3 ?_
          refine wpAnyH_take (i := 15) (v := .bool true) rfl (by kernel_rfl) (by kernel_rfl) (by kernel_rfl) (fun _ _ _ h => h) (.inl ⟨by kernel_rfl, fun W hW => by kernel_rfl⟩) hS3 ?_
          refine wpAnyH_done (by kernel_rfl) ?_ _
          go_simp
          go_wp2_with fail
          go_ret
          exact ⟨rfl, HB.out _ hS3⟩
        · have h2i : ¬ (lo : Int) < 2 * (n2 : Int) := by omega
          obtain rfl : false = R := by rw [← HR.out]; simp [h0, h2]
          clear HR
          have hS2d : Below (w.heap.size + 1) (w.alloc (.cells #[.slice ax lv cx, .slice ay lo cy, .slice az ll cz] 24)) w2.drew := below_drewN hS2 1
          refine wp_region_held_drew (S := fun W => Below (w.heap.size + 1) (w.alloc (.cells #[.slice ax lv cx, .slice ay lo cy, .slice az ll cz] 24)) W) (by kernel_rfl) hS2d (fun _ => ?_)
          refine wpAnyH_take (i := 0) (v := .pointer (some ⟨w.heap.size, 1, none⟩)) rfl (by kernel_rfl) (by kernel_rfl) (by kernel_rfl) (fun _ _ _ h => h) (.inl ⟨by kernel_rfl, fun W hW => by kernel_rfl⟩) hS2d ?_
          refine wpAnyH_take (i := 1) (v := .slice ay lo cy) rfl (by kernel_rfl) (by kernel_rfl) (by kernel_rfl) (fun _ _ _ h => h) (.inl ⟨by kernel_rfl, fun W hW => by obtain ⟨k0, k1, k2⟩ := HK.out W hW; go_simp⟩) hS2d ?_
          refine wpAnyH_take (i := 2) (v := .int .i64 (lo : Int)) rfl (by kernel_rfl) (by kernel_rfl) (by kernel_rfl) (fun _ _ _ h => h) (.inl ⟨by kernel_rfl, fun W hW => by go_simp; try simp [*]⟩) hS2d ?_
          refine wpAnyH_take (i := 3) (v := .bool false) rfl (by kernel_rfl) (by kernel_rfl) (by kernel_rfl) (fun _ _ _ h => h) (.inl ⟨by kernel_rfl, fun W hW => by go_simp; try simp [*]⟩) hS2d ?_
          refine wpAnyH_take (i := 4) (v := .bool false) rfl (by kernel_rfl) (by kernel_rfl) (by kernel_rfl) (fun _ _ _ h => h) (.inl ⟨by kernel_rfl, fun W hW => by kernel_rfl⟩) hS2d ?_
          refine wpAnyH_take (i := 5) (v := .pointer (some ⟨w.heap.size, 1, none⟩)) rfl (by kernel_rfl) (by kernel_rfl) (by kernel_rfl) (fun _ _ _ h => h) (.inl ⟨by kernel_rfl, fun W hW => by kernel_rfl⟩) hS2d ?_
          refine wpAnyH_take (i := 6) (v := .slice ay lo cy) rfl (by kernel_rfl) (by kernel_rfl) (by kernel_rfl) (fun _ _ _ h => h) (.inl ⟨by kernel_rfl, fun W hW => by obtain ⟨k0, k1, k2⟩ := HK.out W hW; go_simp⟩) hS2d ?_
          refine wpAnyH_take (i := 7) (v := .slice al lr cl) rfl (by kernel_rfl) (by kernel_rfl) (by kernel_rfl) (fun _ _ _ h => h) (.inl ⟨by kernel_rfl, fun W hW => by kernel_rfl⟩) hS2d ?_
          refine wpAnyH_take (i := 10) (v := .pointer (some ⟨w.heap.size, 1, none⟩)) rfl (by kernel_rfl) (by kernel_rfl) (by kernel_rfl) (fun _ _ _ h => h) (.inl ⟨by kernel_rfl, fun W hW => by kernel_rfl⟩) hS2d ?_
          refine wpAnyH_take (i := 11) (v := .slice ay lo cy) rfl (by kernel_rfl) (by kernel_rfl) (by kernel_rfl) (fun _ _ _ h => h) (.inl ⟨by kernel_rfl, fun W hW => by obtain ⟨k0, k1, k2⟩ := HK.out W hW; go_simp⟩) hS2d ?_
          refine wpAnyH_take (i := 12) (v := .int .i64 (lo : Int)) rfl (by kernel_rfl) (by kernel_rfl) (by kernel_rfl) (fun _ _ _ h => h) (.inl ⟨by kernel_rfl, fun W hW => by go_simp; try simp [*]⟩) hS2d ?_
          refine wpAnyH_ready (rs := [8]) (by kernel_rfl) (by simp) ?_
          refine AllReadyH.cons rfl (fun K hK => ?_) AllReadyH.nil
          rw [if_pos (by kernel_rfl)]
          go_simp
          refine (HO.out _ hS2d).mono ?_
          rintro e w3 ⟨rfl, hS3⟩
          try simp only []
          refine hK.out _ _ hS3 (fun _ => ?_)
          clear hK K
          refine wpAnyH_take (i := 9) (v := .int .i64 (2 * (n2 : Int))) rfl (by kernel_rfl) (by kernel_rfl) (by kernel_rfl) (fun _ _ _ h => h) (.inl ⟨by kernel_rfl, fun W hW => by go_simp; try simp [*]⟩) hS3 ?_
          refine wpAnyH_take (i := 13) (v := .bool false) rfl (by kernel_rfl) (by kernel_rfl) (by kernel_rfl) (fun _ _ _ h => h) (.inl ⟨by kernel_rfl, fun W hW => by go_simp; try simp [*]⟩) hS3 ?_
          refine wpAnyH_take (i := 14) (v := .bool false) rfl (by kernel_rfl) (by kernel_rfl) (by kernel_rfl) (fun _ _ _ h => h) (.inl ⟨by kernel_rfl, fun W hW => by kernel_rfl⟩) hS3 ?_
          refine wpAnyH_take (i := 15) (v := .bool false) rfl (by kernel_rfl) (by kernel_rfl) (by kernel_rfl) (fun _ _ _ h => h) (.inl ⟨by kernel_rfl, fun W hW => by kernel_rfl⟩) hS3 ?_
          refine wpAnyH_done (by kernel_rfl) ?_ _
          go_simp
          go_wp2_with fail
          go_ret
          exact ⟨rfl, HB.out _ hS3⟩
    · have h1i : 2 * (n1 : Int) ≤ (lv : Int) := by omega
      obtain rfl : false = R := by rw [← HR.out]; simp [h1]
      clear HR
      refine wp_region_held_drew (S := fun W => Below (w.heap.size + 1) (w.alloc (.cells #[.slice ax lv cx, .slice ay lo cy, .slice az ll cz] 24)) W) (by kernel_rfl) hS0 (fun _ => ?_)
      refine wpAnyH_take (i := 0) (v := .agg #[.slice ax lv cx, .slice ay lo cy, .slice az ll cz]) rfl (by kernel_rfl) (by kernel_rfl) (by kernel_rfl) (fun _ _ _ h => h) (.inl ⟨by kernel_rfl, fun W hW => by obtain ⟨k0, k1, k2⟩ := HK.out W hW; go_simp⟩) hS0 ?_
      refine wpAnyH_ready (rs := [1]) (by kernel_rfl) (by simp) ?_
      refine AllReadyH.cons rfl (fun K hK => ?_) AllReadyH.nil
      rw [if_pos (by kernel_rfl)]
      go_simp
      refine (HC.out _ hS0).mono ?_
      rintro e w1 ⟨rfl, hS1⟩
      try simp only [if_true]
      try simp only []
      refine hK.out _ _ hS1 (fun _ => ?_)
      clear hK K
      refine wpAnyH_take (i := 2) (v := .bool false) rfl (by kernel_rfl) (by kernel_rfl) (by kernel_rfl) (fun _ _ _ h => h) (.inl ⟨by kernel_rfl, fun W hW => by go_simp; try simp [*]⟩) hS1 ?_
      refine wpAnyH_take (i := 3) (v := .bool false) rfl (by kernel_rfl) (by kernel_rfl) (by kernel_rfl) (fun _ _ _ h => h) (.inl ⟨by kernel_rfl, fun W hW => by kernel_rfl⟩) hS1 ?_
      refine wpAnyH_take (i := 4) (v := .pointer (some ⟨w.heap.size, 0, none⟩)) rfl (by kernel_rfl) (by kernel_rfl) (by kernel_rfl) (fun _ _ _ h => h) (.inl ⟨by kernel_rfl, fun W hW => by kernel_rfl⟩) hS1 ?_
      refine wpAnyH_take (i := 5) (v := .slice ax lv cx) rfl (by kernel_rfl) (by kernel_rfl) (by kernel_rfl) (fun _ _ _ h => h) (.inl ⟨by kernel_rfl, fun W hW => by obtain ⟨k0, k1, k2⟩ := HK.out W hW; go_simp⟩) hS1 ?_
      refine wpAnyH_take (i := 6) (v := .slice al lr cl) rfl (by kernel_rfl) (by kernel_rfl) (by kernel_rfl) (fun _ _ _ h => h) (.inl ⟨by kernel_rfl, fun W hW => by kernel_rfl⟩) hS1 ?_
      refine wpAnyH_take (i := 9) (v := .pointer (some ⟨w.heap.size, 0, none⟩)) rfl (by kernel_rfl) (by kernel_rfl) (by kernel_rfl) (fun _ _ _ h => h) (.inl ⟨by kernel_rfl, fun W hW => by kernel_rfl⟩) hS1 ?_
      refine wpAnyH_take (i := 10) (v := .slice ax lv cx) rfl (by kernel_rfl) (by kernel_rfl) (by kernel_rfl) (fun _ _ _ h => h) (.inl ⟨by kernel_rfl, fun W hW => by obtain ⟨k0, k1, k2⟩ := HK.out W hW; go_simp⟩) hS1 ?_
      refine wpAnyH_take (i := 11) (v := .int .i64 (lv : Int)) rfl (by kernel_rfl) (by kernel_rfl) (by kernel_rfl) (fun _ _ _ h => h) (.inl ⟨by kernel_rfl, fun W hW => by go_simp; try simp [*]⟩) hS1 ?_
      refine wpAnyH_ready (rs := [7]) (by kernel_rfl) (by simp) ?_
      refine AllReadyH.cons rfl (fun K hK => ?_) AllReadyH.nil
      rw [if_pos (by kernel_rfl)]
      go_simp
      refine (HQ.out _ hS1).mono ?_
      rintro e w2 ⟨rfl, hS2⟩
      try simp only []
      refine hK.out _ _ hS2 (fun _ => ?_)
      clear hK K
      refine wpAnyH_take (i := 8) (v := .int .i64 (2 * (n1 : Int))) rfl (by kernel_rfl) (by kernel_rfl) (by kernel_rfl) (fun _ _ _ h => h) (.inl ⟨by kernel_rfl, fun W hW => by go_simp; try simp [*]⟩) hS2 ?_
      refine wpAnyH_take (i := 12) (v := .bool true) rfl (by kernel_rfl) (by kernel_rfl) (by kernel_rfl) (fun _ _ _ h => h) (.inl ⟨by kernel_rfl, fun W hW => by go_simp; try simp [*]⟩) hS2 ?_
      refine wpAnyH_take (i := 13) (v := .bool true) rfl (by kernel_rfl) (by kernel_rfl) (by kernel_rfl) (fun _ _ _ h => h) (.inl ⟨by kernel_rfl, fun W hW => by kernel_rfl⟩) hS2 ?_
      refine wpAnyH_done (by kernel_rfl) ?_ _
      go_simp
      go_wp2_with fail
      go_ret
      exact ⟨rfl, HB.out _ hS2⟩

set_option maxHeartbeats 4000000 in
theorem rlost_any {x y z v : Value} {c : Cn} {l : List UInt64} {w : World} (hr : Rc w x y z c) (hl : Ru w v l) (hlc : c.1.length + c.2.1.length + c.2.2.length ≤ 1099511627776) :
    Calls Try.prog 28 #[.agg #[x, y, z], v] w fun e w' => e = .returned (.bool (chk c && !(agr (fun vs => vs.length - cnt l vs) c))) ∧ Below w.heap.size w w' := by
  have hB := u_al w (.cells #[x, y, z] 24)
  have hf1 := cnt_le l c.1
  have hf2 := cnt_le l c.2.1
  have HB : Hid (∀ W, Below (w.heap.size + 1) (w.alloc (.cells #[x, y, z] 24)) W → Below w.heap.size w W) := fun W hW => hB.trans (hW.mono (by omega))
  have HZ : Hid (∀ W, Below (w.heap.size + 1) (w.alloc (.cells #[x, y, z] 24)) W → w.heap.size + 1 ≤ W.heap.size) := fun W hW => by
    have := hW.size; simp only [World.size_alloc] at this; omega
  have HC : Hid (∀ W, Below (w.heap.size + 1) (w.alloc (.cells #[x, y, z] 24)) W → Calls Try.prog 12 #[.agg #[x, y, z]] W fun e w' => e = .returned (.int .i64 (if chk c = true then 0 else 70)) ∧ Below (w.heap.size + 1) (w.alloc (.cells #[x, y, z] 24)) w') := fun W hW => (rcheck_any (hr.below (HB.out W hW) (Nat.le_refl _)) hlc).mono (by rintro e w' ⟨rfl, h⟩; exact ⟨rfl, hW.trans (h.mono (HZ.out W hW))⟩)
  have HQ : Hid (∀ W, Below (w.heap.size + 1) (w.alloc (.cells #[x, y, z] 24)) W → Calls Try.prog 50 #[x, v] W fun e w' => e = .returned (.int .i64 (cnt l c.1 : Nat)) ∧ Below (w.heap.size + 1) (w.alloc (.cells #[x, y, z] 24)) w') := fun W hW => (rcount_any (hl.below (HB.out W hW) (Nat.le_refl _)) (hr.1.below (HB.out W hW) (Nat.le_refl _))).mono (by rintro e w' ⟨rfl, rfl⟩; exact ⟨rfl, hW⟩)
  have HO : Hid (∀ W, Below (w.heap.size + 1) (w.alloc (.cells #[x, y, z] 24)) W → Calls Try.prog 50 #[y, v] W fun e w' => e = .returned (.int .i64 (cnt l c.2.1 : Nat)) ∧ Below (w.heap.size + 1) (w.alloc (.cells #[x, y, z] 24)) w') := fun W hW => (rcount_any (hl.below (HB.out W hW) (Nat.le_refl _)) (hr.2.1.below (HB.out W hW) (Nat.le_refl _))).mono (by rintro e w' ⟨rfl, rfl⟩; exact ⟨rfl, hW⟩)
  have HK : Hid (∀ W, Below (w.heap.size + 1) (w.alloc (.cells #[x, y, z] 24)) W → W.cell? ⟨w.heap.size, 0, none⟩ = some x ∧ W.cell? ⟨w.heap.size, 1, none⟩ = some y ∧ W.cell? ⟨w.heap.size, 2, none⟩ = some z) := fun W hW => box3 hW rfl
  have hS : Below (w.heap.size + 1) (w.alloc (.cells #[x, y, z] 24)) (w.alloc (.cells #[x, y, z] 24)) := Below.refl _ _
  have hS0 : Below (w.heap.size + 1) (w.alloc (.cells #[x, y, z] 24)) (w.alloc (.cells #[x, y, z] 24)).drew := (u_drew _).mono (by simp)
  generalize hR : (chk c && !(agr (fun vs => vs.length - cnt l vs) c)) = R
  rw [lost_eq] at hR
  obtain ⟨ax, cx, rfl⟩ := hr.1.shape
  obtain ⟨ay, cy, rfl⟩ := hr.2.1.shape
  obtain ⟨az, cz, rfl⟩ := hr.2.2.shape
  obtain ⟨al, cl, rfl⟩ := hl.shape
  generalize cnt l c.1 = n1 at *
  generalize cnt l c.2.1 = n2 at *
  generalize hchk : chk c = CK at *
  obtain ⟨V, O, L⟩ := c
  simp only [] at *
  clear hchk
  generalize V.length = lv at *
  generalize O.length = lo at *
  generalize L.length = ll at *
  generalize l.length = lr at *
  clear hr hl
  have HR : Hid _ := hR
  clear hR
  have hm1 : IntKind.i64.wrap (2 * (n1 : Int)) = 2 * (n1 : Int) := by rw [IntKind.wrap_i64]; omega
  have hm2 : IntKind.i64.wrap (2 * (n2 : Int)) = 2 * (n2 : Int) := by rw [IntKind.wrap_i64]; omega
  obtain ⟨k0, k1, k2⟩ := HK.out _ hS
  go_enter Try.func28, Try.ntmps28
  go_wp2_with fail
  refine (HC.out _ hS).mono ?_
  rintro e w1 ⟨rfl, hS1⟩
  clear k0 k1 k2
  cases CK with
  | false =>
    simp only [Bool.false_eq_true, if_false]
    obtain rfl : false = R := by rw [← HR.out]; simp; try omega
    clear HR
    go_wp2_with fail
    go_ret
    exact ⟨rfl, HB.out _ hS1⟩
  | true =>
    simp only [if_true]
    go_wp2_with fail
    by_cases h1 : lv ≤ 2 * n1
    · have h1i : (lv : Int) ≤ 2 * (n1 : Int) := by omega
      obtain rfl : true = R := by rw [← HR.out]; simp; omega
      clear HR
      have hS1d : Below (w.heap.size + 1) (w.alloc (.cells #[.slice ax lv cx, .slice ay lo cy, .slice az ll cz] 24)) w1.drew := below_drewN hS1 1
      refine wp_region_held_drew (S := fun W => Below (w.heap.size + 1) (w.alloc (.cells #[.slice ax lv cx, .slice ay lo cy, .slice az ll cz] 24)) W) (by kernel_rfl) hS1d (fun _ => ?_)
      refine wpAnyH_take (i := 0) (v := .pointer (some ⟨w.heap.size, 0, none⟩)) rfl (by kernel_rfl) (by kernel_rfl) (by kernel_rfl) (fun _ _ _ h => h) (.inl ⟨by kernel_rfl, fun W hW => by kernel_rfl⟩) hS1d ?_
      refine wpAnyH_take (i := 1) (v := .slice ax lv cx) rfl (by kernel_rfl) (by kernel_rfl) (by kernel_rfl) (fun _ _ _ h => h) (.inl ⟨by kernel_rfl, fun W hW => by obtain ⟨k0, k1, k2⟩ := HK.out W hW; go_simp⟩) hS1d ?_
      refine wpAnyH_take (i := 2) (v := .slice al lr cl) rfl (by kernel_rfl) (by kernel_rfl) (by kernel_rfl) (fun _ _ _ h => h) (.inl ⟨by kernel_rfl, fun W hW => by kernel_rfl⟩) hS1d ?_
      refine wpAnyH_take (i := 5) (v := .pointer (some ⟨w.heap.size, 0, none⟩)) rfl (by kernel_rfl) (by kernel_rfl) (by kernel_rfl) (fun _ _ _ h => h) (.inl ⟨by kernel_rfl, fun W hW => by kernel_rfl⟩) hS1d ?_
      refine wpAnyH_take (i := 6) (v := .slice ax lv cx) rfl (by kernel_rfl) (by kernel_rfl) (by kernel_rfl) (fun _ _ _ h => h) (.inl ⟨by kernel_rfl, fun W hW => by obtain ⟨k0, k1, k2⟩ := HK.out W hW; go_simp⟩) hS1d ?_
      refine wpAnyH_take (i := 7) (v := .int .i64 (lv : Int)) rfl (by kernel_rfl) (by kernel_rfl) (by kernel_rfl) (fun _ _ _ h => h) (.inl ⟨by kernel_rfl, fun W hW => by go_simp; try simp [*]⟩) hS1d ?_
      refine wpAnyH_ready (rs := [3]) (by kernel_rfl) (by simp) ?_
      refine AllReadyH.cons rfl (fun K hK => ?_) AllReadyH.nil
      rw [if_pos (by kernel_rfl)]
      go_simp
      refine (HQ.out _ hS1d).mono ?_
      rintro e w2 ⟨rfl, hS2⟩
      try simp only []
      refine hK.out _ _ hS2 (fun _ => ?_)
      clear hK K
      refine wpAnyH_take (i := 4) (v := .int .i64 (2 * (n1 : Int))) rfl (by kernel_rfl) (by kernel_rfl) (by kernel_rfl) (fun _ _ _ h => h) (.inl ⟨by kernel_rfl, fun W hW => by go_simp; try simp [*]⟩) hS2 ?_
      refine wpAnyH_take (i := 8) (v := .bool true) rfl (by kernel_rfl) (by kernel_rfl) (by kernel_rfl) (fun _ _ _ h => h) (.inl ⟨by kernel_rfl, fun W hW => by go_simp; try simp [*]⟩) hS2 ?_
      refine wpAnyH_take (i := 9) (v := .bool true) rfl (by kernel_rfl) (by kernel_rfl) (by kernel_rfl) (fun _ _ _ h => h) (.inl ⟨by kernel_rfl, fun W hW => by kernel_rfl⟩) hS2 ?_
      refine wpAnyH_take (i := 10) (v := undef) rfl (by kernel_rfl) (by kernel_rfl) (by kernel_rfl) (fun _ _ _ h => h) (.inr ⟨by kernel_rfl, rfl⟩) hS2 ?_
      refine wpAnyH_take (i := 11) (v := undef) rfl (by kernel_rfl) (by kernel_rfl) (by kernel_rfl) (fun _ _ _ h => h) (.inr ⟨by kernel_rfl, rfl⟩) hS2 ?_
      refine wpAnyH_take (i := 12) (v := undef) rfl (by kernel_rfl) (by kernel_rfl) (by kernel_rfl) (fun _ _ _ h => h) (.inr ⟨by kernel_rfl, rfl⟩) hS2 ?_
      refine wpAnyH_take (i := 13) (v := undef) rfl (by kernel_rfl) (by kernel_rfl) (by kernel_rfl) (fun _ _ _ h => h) (.inr ⟨by kernel_rfl, rfl⟩) hS2 ?_
      refine wpAnyH_take (i := 14) (v := undef) rfl (by kernel_rfl) (by kernel_rfl) (by kernel_rfl) (fun _ _ _ h => h) (.inr ⟨by kernel_rfl, rfl⟩) hS2 ?_
      refine wpAnyH_take (i := 15) (v := undef) rfl (by kernel_rfl) (by kernel_rfl) (by kernel_rfl) (fun _ _ _ h => h) (.inr ⟨by kernel_rfl, rfl⟩) hS2 ?_
      refine wpAnyH_take (i := 16) (v := undef) rfl (by kernel_rfl) (by kernel_rfl) (by kernel_rfl) (fun _ _ _ h => h) (.inr ⟨by kernel_rfl, rfl⟩) hS2 ?_
      refine wpAnyH_take (i := 17) (v := undef) rfl (by kernel_rfl) (by kernel_rfl) (by kernel_rfl) (fun _ _ _ h => h) (.inr ⟨by kernel_rfl, rfl⟩) hS2 ?_
      refine wpAnyH_take (i := 18) (v := undef) rfl (by kernel_rfl) (by kernel_rfl) (by kernel_rfl) (fun _ _ _ h => h) (.inr ⟨by kernel_rfl, rfl⟩) hS2 ?_
      refine wpAnyH_take (i := 19) (v := undef) rfl (by kernel_rfl) (by kernel_rfl) (by kernel_rfl) (fun _ _ _ h => h) (.inr ⟨by kernel_rfl, rfl⟩) hS2 ?_
      refine wpAnyH_take (i := 20) (v := undef) rfl (by kernel_rfl) (by kernel_rfl) (by kernel_rfl) (fun _ _ _ h => h) (.inr ⟨by kernel_rfl, rfl⟩) hS2 ?_
      refine wpAnyH_take (i := 21) (v := undef) rfl (by kernel_rfl) (by kernel_rfl) (by kernel_rfl) (fun _ _ _ h => h) (.inr ⟨by kernel_rfl, rfl⟩) hS2 ?_
      refine wpAnyH_take (i := 22) (v := undef) rfl (by kernel_rfl) (by kernel_rfl) (by kernel_rfl) (fun _ _ _ h => h) (.inr ⟨by kernel_rfl, rfl⟩) hS2 ?_
      refine wpAnyH_take (i := 23) (v := undef) rfl (by kernel_rfl) (by kernel_rfl) (by kernel_rfl) (fun _ _ _ h => h) (.inr ⟨by kernel_rfl, rfl⟩) hS2 ?_
      refine wpAnyH_take (i := 24) (v := undef) rfl (by kernel_rfl) (by kernel_rfl) (by kernel_rfl) (fun _ _ _ h => h) (.inr ⟨by kernel_rfl, rfl⟩) hS2 ?_
      refine wpAnyH_take (i := 25) (v := .bool true) rfl (by kernel_rfl) (by kernel_rfl) (by kernel_rfl) (fun _ _ _ h => h) (.inl ⟨by kernel_rfl, fun W hW => by kernel_rfl⟩) hS2 ?_
      refine wpAnyH_take (i := 26) (v := .bool true) rfl (by kernel_rfl) (by kernel_rfl) (by kernel_rfl) (fun _ _ _ h => h) (.inl ⟨by kernel_rfl, fun W hW => by kernel_rfl⟩) hS2 ?_
      refine wpAnyH_done (by kernel_rfl) ?_ _
      go_simp
      go_wp2_with fail
      go_ret
      exact ⟨rfl, HB.out _ hS2⟩
    · have h1i : ¬ (lv : Int) ≤ 2 * (n1 : Int) := by omega
      by_cases h0 : 0 < lo
      · have h0i : (0 : Int) < (lo : Int) := by omega
        by_cases h2 : lo ≤ 2 * n2
        · have h2i : (lo : Int) ≤ 2 * (n2 : Int) := by omega
          obtain rfl : true = R := by rw [← HR.out]; simp; omega
          clear HR
          have hS1d : Below (w.heap.size + 1) (w.alloc (.cells #[.slice ax lv cx, .slice ay lo cy, .slice az ll cz] 24)) w1.drew := below_drewN hS1 1
          refine wp_region_held_drew (S := fun W => Below (w.heap.size + 1) (w.alloc (.cells #[.slice ax lv cx, .slice ay lo cy, .slice az ll cz] 24)) W) (by kernel_rfl) hS1d (fun _ => ?_)
          refine wpAnyH_take (i := 0) (v := .pointer (some ⟨w.heap.size, 0, none⟩)) rfl (by kernel_rfl) (by kernel_rfl) (by kernel_rfl) (fun _ _ _ h => h) (.inl ⟨by kernel_rfl, fun W hW => by kernel_rfl⟩) hS1d ?_
          refine wpAnyH_take (i := 1) (v := .slice ax lv cx) rfl (by kernel_rfl) (by kernel_rfl) (by kernel_rfl) (fun _ _ _ h => h) (.inl ⟨by kernel_rfl, fun W hW => by obtain ⟨k0, k1, k2⟩ := HK.out W hW; go_simp⟩) hS1d ?_
          refine wpAnyH_take (i := 2) (v := .slice al lr cl) rfl (by kernel_rfl) (by kernel_rfl) (by kernel_rfl) (fun _ _ _ h => h) (.inl ⟨by kernel_rfl, fun W hW => by kernel_rfl⟩) hS1d ?_
          refine wpAnyH_take (i := 5) (v := .pointer (some ⟨w.heap.size, 0, none⟩)) rfl (by kernel_rfl) (by kernel_rfl) (by kernel_rfl) (fun _ _ _ h => h) (.inl ⟨by kernel_rfl, fun W hW => by kernel_rfl⟩) hS1d ?_
          refine wpAnyH_take (i := 6) (v := .slice ax lv cx) rfl (by kernel_rfl) (by kernel_rfl) (by kernel_rfl) (fun _ _ _ h => h) (.inl ⟨by kernel_rfl, fun W hW => by obtain ⟨k0, k1, k2⟩ := HK.out W hW; go_simp⟩) hS1d ?_
          refine wpAnyH_take (i := 7) (v := .int .i64 (lv : Int)) rfl (by kernel_rfl) (by kernel_rfl) (by kernel_rfl) (fun _ _ _ h => h) (.inl ⟨by kernel_rfl, fun W hW => by go_simp; try simp [*]⟩) hS1d ?_
          refine wpAnyH_ready (rs := [3]) (by kernel_rfl) (by simp) ?_
          refine AllReadyH.cons rfl (fun K hK => ?_) AllReadyH.nil
          rw [if_pos (by kernel_rfl)]
          go_simp
          refine (HQ.out _ hS1d).mono ?_
          rintro e w2 ⟨rfl, hS2⟩
          try simp only []
          refine hK.out _ _ hS2 (fun _ => ?_)
          clear hK K
          refine wpAnyH_take (i := 4) (v := .int .i64 (2 * (n1 : Int))) rfl (by kernel_rfl) (by kernel_rfl) (by kernel_rfl) (fun _ _ _ h => h) (.inl ⟨by kernel_rfl, fun W hW => by go_simp; try simp [*]⟩) hS2 ?_
          refine wpAnyH_take (i := 8) (v := .bool false) rfl (by kernel_rfl) (by kernel_rfl) (by kernel_rfl) (fun _ _ _ h => h) (.inl ⟨by kernel_rfl, fun W hW => by go_simp; try simp [*]⟩) hS2 ?_
          refine wpAnyH_take (i := 9) (v := .bool false) rfl (by kernel_rfl) (by kernel_rfl) (by kernel_rfl) (fun _ _ _ h => h) (.inl ⟨by kernel_rfl, fun W hW => by kernel_rfl⟩) hS2 ?_
          refine wpAnyH_take (i := 10) (v := .pointer (some ⟨w.heap.size, 1, none⟩)) rfl (by kernel_rfl) (by kernel_rfl) (by kernel_rfl) (fun _ _ _ h => h) (.inl ⟨by kernel_rfl, fun W hW => by kernel_rfl⟩) hS2 ?_
          refine wpAnyH_take (i := 11) (v := .slice ay lo cy) rfl (by kernel_rfl) (by kernel_rfl) (by kernel_rfl) (fun _ _ _ h => h) (.inl ⟨by kernel_rfl, fun W hW => by obtain ⟨k0, k1, k2⟩ := HK.out W hW; go_simp⟩) hS2 ?_
          refine wpAnyH_take (i := 12) (v := .int .i64 (lo : Int)) rfl (by kernel_rfl) (by kernel_rfl) (by kernel_rfl) (fun _ _ _ h => h) (.inl ⟨by kernel_rfl, fun W hW => by go_simp; try simp [*]⟩) hS2 ?_
          refine wpAnyH_take (i := 13) (v := .bool true) rfl (by kernel_rfl) (by kernel_rfl) (by kernel_rfl) (fun _ _ _ h => h) (.inl ⟨by kernel_rfl, fun W hW => by go_simp; try simp [*]⟩) hS2 ?_
          refine wpAnyH_take (i := 14) (v := .bool true) rfl (by kernel_rfl) (by kernel_rfl) (by kernel_rfl) (fun _ _ _ h => h) (.inl ⟨by kernel_rfl, fun W hW => by kernel_rfl⟩) hS2 ?_
          refine wpAnyH_take (i := 15) (v := .pointer (some ⟨w.heap.size, 1, none⟩)) rfl (by kernel_rfl) (by kernel_rfl) (by kernel_rfl) (fun _ _ _ h => h) (.inl ⟨by kernel_rfl, fun W hW => by kernel_rfl⟩) hS2 ?_
          refine wpAnyH_take (i := 16) (v := .slice ay lo cy) rfl (by kernel_rfl) (by kernel_rfl) (by kernel_rfl) (fun _ _ _ h => h) (.inl ⟨by kernel_rfl, fun W hW => by obtain ⟨k0, k1, k2⟩ := HK.out W hW; go_simp⟩) hS2 ?_
          refine wpAnyH_take (i := 17) (v := .slice al lr cl) rfl (by kernel_rfl) (by kernel_rfl) (by kernel_rfl) (fun _ _ _ h => h) (.inl ⟨by kernel_rfl, fun W hW => by kernel_rfl⟩) hS2 ?_
          refine wpAnyH_take (i := 20) (v := .pointer (some ⟨w.heap.size, 1, none⟩)) rfl (by kernel_rfl) (by kernel_rfl) (by kernel_rfl) (fun _ _ _ h => h) (.inl ⟨by kernel_rfl, fun W hW => by kernel_rfl⟩) hS2 ?_
          refine wpAnyH_take (i := 21) (v := .slice ay lo cy) rfl (by kernel_rfl) (by kernel_rfl) (by kernel_rfl) (fun _ _ _ h => h) (.inl ⟨by kernel_rfl, fun W hW => by obtain ⟨k0, k1, k2⟩ := HK.out W hW; go_simp⟩) hS2 ?_
          refine wpAnyH_take (i := 22) (v := .int .i64 (lo : Int)) rfl (by kernel_rfl) (by kernel_rfl) (by kernel_rfl) (fun _ _ _ h => h) (.inl ⟨by kernel_rfl, fun W hW => by go_simp; try simp [*]⟩) hS2 ?_
          refine wpAnyH_ready (rs := [18]) (by kernel_rfl) (by simp) ?_
          refine AllReadyH.cons rfl (fun K hK => ?_) AllReadyH.nil
          rw [if_pos (by kernel_rfl)]
          go_simp
          refine (HO.out _ hS2).mono ?_
          rintro e w3 ⟨rfl, hS3⟩
          try simp only []
          refine hK.out _ _ hS3 (fun _ => ?_)
          clear hK K
          refine wpAnyH_take (i := 19) (v := .int .i64 (2 * (n2 : Int))) rfl (by kernel_rfl) (by kernel_rfl) (by kernel_rfl) (fun _ _ _ h => h) (.inl ⟨by kernel_rfl, fun W hW => by go_simp; try simp [*]⟩) hS3 ?_
          refine wpAnyH_take (i := 23) (v := .bool true) rfl (by kernel_rfl) (by kernel_rfl) (by kernel_rfl) (fun _ _ _ h => h) (.inl ⟨by kernel_rfl, fun W hW => by go_simp; try simp [*]⟩) hS3 ?_
          refine wpAnyH_take (i := 24) (v := .bool true) rfl (by kernel_rfl) (by kernel_rfl) (by kernel_rfl) (fun _ _ _ h => h) (.inl ⟨by kernel_rfl, fun W hW => by kernel_rfl⟩) hS3 ?_
          refine wpAnyH_take (i := 25) (v := .bool true) rfl (by kernel_rfl) (by kernel_rfl) (by kernel_rfl) (fun _ _ _ h => h) (.inl ⟨by kernel_rfl, fun W hW => by kernel_rfl⟩) hS3 ?_
          refine wpAnyH_take (i := 26) (v := .bool true) rfl (by kernel_rfl) (by kernel_rfl) (by kernel_rfl) (fun _ _ _ h => h) (.inl ⟨by kernel_rfl, fun W hW => by kernel_rfl⟩) hS3 ?_
          refine wpAnyH_done (by kernel_rfl) ?_ _
          go_simp
          go_wp2_with fail
          go_ret
          exact ⟨rfl, HB.out _ hS3⟩
        · have h2i : ¬ (lo : Int) ≤ 2 * (n2 : Int) := by omega
          obtain rfl : false = R := by rw [← HR.out]; simp; omega
          clear HR
          have hS1d : Below (w.heap.size + 1) (w.alloc (.cells #[.slice ax lv cx, .slice ay lo cy, .slice az ll cz] 24)) w1.drew := below_drewN hS1 1
          refine wp_region_held_drew (S := fun W => Below (w.heap.size + 1) (w.alloc (.cells #[.slice ax lv cx, .slice ay lo cy, .slice az ll cz] 24)) W) (by kernel_rfl) hS1d (fun _ => ?_)
          refine wpAnyH_take (i := 0) (v := .pointer (some ⟨w.heap.size, 0, none⟩)) rfl (by kernel_rfl) (by kernel_rfl) (by kernel_rfl) (fun _ _ _ h => h) (.inl ⟨by kernel_rfl, fun W hW => by kernel_rfl⟩) hS1d ?_
          refine wpAnyH_take (i := 1) (v := .slice ax lv cx) rfl (by kernel_rfl) (by kernel_rfl) (by kernel_rfl) (fun _ _ _ h => h) (.inl ⟨by kernel_rfl, fun W hW => by obtain ⟨k0, k1, k2⟩ := HK.out W hW; go_simp⟩) hS1d ?_
          refine wpAnyH_take (i := 2) (v := .slice al lr cl) rfl (by kernel_rfl) (by kernel_rfl) (by kernel_rfl) (fun _ _ _ h => h) (.inl ⟨by kernel_rfl, fun W hW => by kernel_rfl⟩) hS1d ?_
          refine wpAnyH_take (i := 5) (v := .pointer (some ⟨w.heap.size, 0, none⟩)) rfl (by kernel_rfl) (by kernel_rfl) (by kernel_rfl) (fun _ _ _ h => h) (.inl ⟨by kernel_rfl, fun W hW => by kernel_rfl⟩) hS1d ?_
          refine wpAnyH_take (i := 6) (v := .slice ax lv cx) rfl (by kernel_rfl) (by kernel_rfl) (by kernel_rfl) (fun _ _ _ h => h) (.inl ⟨by kernel_rfl, fun W hW => by obtain ⟨k0, k1, k2⟩ := HK.out W hW; go_simp⟩) hS1d ?_
          refine wpAnyH_take (i := 7) (v := .int .i64 (lv : Int)) rfl (by kernel_rfl) (by kernel_rfl) (by kernel_rfl) (fun _ _ _ h => h) (.inl ⟨by kernel_rfl, fun W hW => by go_simp; try simp [*]⟩) hS1d ?_
          refine wpAnyH_ready (rs := [3]) (by kernel_rfl) (by simp) ?_
          refine AllReadyH.cons rfl (fun K hK => ?_) AllReadyH.nil
          rw [if_pos (by kernel_rfl)]
          go_simp
          refine (HQ.out _ hS1d).mono ?_
          rintro e w2 ⟨rfl, hS2⟩
          try simp only []
          refine hK.out _ _ hS2 (fun _ => ?_)
          clear hK K
          refine wpAnyH_take (i := 4) (v := .int .i64 (2 * (n1 : Int))) rfl (by kernel_rfl) (by kernel_rfl) (by kernel_rfl) (fun _ _ _ h => h) (.inl ⟨by kernel_rfl, fun W hW => by go_simp; try simp [*]⟩) hS2 ?_
          refine wpAnyH_take (i := 8) (v := .bool false) rfl (by kernel_rfl) (by kernel_rfl) (by kernel_rfl) (fun _ _ _ h => h) (.inl ⟨by kernel_rfl, fun W hW => by go_simp; try simp [*]⟩) hS2 ?_
          refine wpAnyH_take (i := 9) (v := .bool false) rfl (by kernel_rfl) (by kernel_rfl) (by kernel_rfl) (fun _ _ _ h => h) (.inl ⟨by kernel_rfl, fun W hW => by kernel_rfl⟩) hS2 ?_
          refine wpAnyH_take (i := 10) (v := .pointer (some ⟨w.heap.size, 1, none⟩)) rfl (by kernel_rfl) (by kernel_rfl) (by kernel_rfl) (fun _ _ _ h => h) (.inl ⟨by kernel_rfl, fun W hW => by kernel_rfl⟩) hS2 ?_
          refine wpAnyH_take (i := 11) (v := .slice ay lo cy) rfl (by kernel_rfl) (by kernel_rfl) (by kernel_rfl) (fun _ _ _ h => h) (.inl ⟨by kernel_rfl, fun W hW => by obtain ⟨k0, k1, k2⟩ := HK.out W hW; go_simp⟩) hS2 ?_
          refine wpAnyH_take (i := 12) (v := .int .i64 (lo : Int)) rfl (by kernel_rfl) (by kernel_rfl) (by kernel_rfl) (fun _ _ _ h => h) (.inl ⟨by kernel_rfl, fun W hW => by go_simp; try simp [*]⟩) hS2 ?_
          refine wpAnyH_take (i := 13) (v := .bool true) rfl (by kernel_rfl) (by kernel_rfl) (by kernel_rfl) (fun _ _ _ h => h) (.inl ⟨by kernel_rfl, fun W hW => by go_simp; try simp [*]⟩) hS2 ?_
          refine wpAnyH_take (i := 14) (v := .bool true) rfl (by kernel_rfl) (by kernel_rfl) (by kernel_rfl) (fun _ _ _ h => h) (.inl ⟨by kernel_rfl, fun W hW => by kernel_rfl⟩) hS2 ?_
          refine wpAnyH_take (i := 15) (v := .pointer (some ⟨w.heap.size, 1, none⟩)) rfl (by kernel_rfl) (by kernel_rfl) (by kernel_rfl) (fun _ _ _ h => h) (.inl ⟨by kernel_rfl, fun W hW => by kernel_rfl⟩) hS2 ?_
          refine wpAnyH_take (i := 16) (v := .slice ay lo cy) rfl (by kernel_rfl) (by kernel_rfl) (by kernel_rfl) (fun _ _ _ h => h) (.inl ⟨by kernel_rfl, fun W hW => by obtain ⟨k0, k1, k2⟩ := HK.out W hW; go_simp⟩) hS2 ?_
          refine wpAnyH_take (i := 17) (v := .slice al lr cl) rfl (by kernel_rfl) (by kernel_rfl) (by kernel_rfl) (fun _ _ _ h => h) (.inl ⟨by kernel_rfl, fun W hW => by kernel_rfl⟩) hS2 ?_
          refine wpAnyH_take (i := 20) (v := .pointer (some ⟨w.heap.size, 1, none⟩)) rfl (by kernel_rfl) (by kernel_rfl) (by kernel_rfl) (fun _ _ _ h => h) (.inl ⟨by kernel_rfl, fun W hW => by kernel_rfl⟩) hS2 ?_
          refine wpAnyH_take (i := 21) (v := .slice ay lo cy) rfl (by kernel_rfl) (by kernel_rfl) (by kernel_rfl) (fun _ _ _ h => h) (.inl ⟨by kernel_rfl, fun W hW => by obtain ⟨k0, k1, k2⟩ := HK.out W hW; go_simp⟩) hS2 ?_
          refine wpAnyH_take (i := 22) (v := .int .i64 (lo : Int)) rfl (by kernel_rfl) (by kernel_rfl) (by kernel_rfl) (fun _ _ _ h => h) (.inl ⟨by kernel_rfl, fun W hW => by go_simp; try simp [*]⟩) hS2 ?_
          refine wpAnyH_ready (rs := [18]) (by kernel_rfl) (by simp) ?_
          refine AllReadyH.cons rfl (fun K hK => ?_) AllReadyH.nil
          rw [if_pos (by kernel_rfl)]
          go_simp
          refine (HO.out _ hS2).mono ?_
          rintro e w3 ⟨rfl, hS3⟩
          try simp only []
          refine hK.out _ _ hS3 (fun _ => ?_)
          clear hK K
          refine wpAnyH_take (i := 19) (v := .int .i64 (2 * (n2 : Int))) rfl (by kernel_rfl) (by kernel_rfl) (by kernel_rfl) (fun _ _ _ h => h) (.inl ⟨by kernel_rfl, fun W hW => by go_simp; try simp [*]⟩) hS3 ?_
          refine wpAnyH_take (i := 23) (v := .bool false) rfl (by kernel_rfl) (by kernel_rfl) (by kernel_rfl) (fun _ _ _ h => h) (.inl ⟨by kernel_rfl, fun W hW => by go_simp; try simp [*]⟩) hS3 ?_
          refine wpAnyH_take (i := 24) (v := .bool false) rfl (by kernel_rfl) (by kernel_rfl) (by kernel_rfl) (fun _ _ _ h => h) (.inl ⟨by kernel_rfl, fun W hW => by kernel_rfl⟩) hS3 ?_
          refine wpAnyH_take (i := 25) (v := .bool false) rfl (by kernel_rfl) (by kernel_rfl) (by kernel_rfl) (fun _ _ _ h => h) (.inl ⟨by kernel_rfl, fun W hW => by kernel_rfl⟩) hS3 ?_
          refine wpAnyH_take (i := 26) (v := .bool false) rfl (by kernel_rfl) (by kernel_rfl) (by kernel_rfl) (fun _ _ _ h => h) (.inl ⟨by kernel_rfl, fun W hW => by kernel_rfl⟩) hS3 ?_
          refine wpAnyH_done (by kernel_rfl) ?_ _
          go_simp
          go_wp2_with fail
          go_ret
          exact ⟨rfl, HB.out _ hS3⟩
      · have h0i : ¬ (0 : Int) < (lo : Int) := by omega
        obtain rfl : false = R := by rw [← HR.out]; simp; omega
        clear HR
        have hS1d : Below (w.heap.size + 1) (w.alloc (.cells #[.slice ax lv cx, .slice ay lo cy, .slice az ll cz] 24)) w1.drew := below_drewN hS1 1
        refine wp_region_held_drew (S := fun W => Below (w.heap.size + 1) (w.alloc (.cells #[.slice ax lv cx, .slice ay lo cy, .slice az ll cz] 24)) W) (by kernel_rfl) hS1d (fun _ => ?_)
        refine wpAnyH_take (i := 0) (v := .pointer (some ⟨w.heap.size, 0, none⟩)) rfl (by kernel_rfl) (by kernel_rfl) (by kernel_rfl) (fun _ _ _ h => h) (.inl ⟨by kernel_rfl, fun W hW => by kernel_rfl⟩) hS1d ?_
        refine wpAnyH_take (i := 1) (v := .slice ax lv cx) rfl (by kernel_rfl) (by kernel_rfl) (by kernel_rfl) (fun _ _ _ h => h) (.inl ⟨by kernel_rfl, fun W hW => by obtain ⟨k0, k1, k2⟩ := HK.out W hW; go_simp⟩) hS1d ?_
        refine wpAnyH_take (i := 2) (v := .slice al lr cl) rfl (by kernel_rfl) (by kernel_rfl) (by kernel_rfl) (fun _ _ _ h => h) (.inl ⟨by kernel_rfl, fun W hW => by kernel_rfl⟩) hS1d ?_
        refine wpAnyH_take (i := 5) (v := .pointer (some ⟨w.heap.size, 0, none⟩)) rfl (by kernel_rfl) (by kernel_rfl) (by kernel_rfl) (fun _ _ _ h => h) (.inl ⟨by kernel_rfl, fun W hW => by kernel_rfl⟩) hS1d ?_
        refine wpAnyH_take (i := 6) (v := .slice ax lv cx) rfl (by kernel_rfl) (by kernel_rfl) (by kernel_rfl) (fun _ _ _ h => h) (.inl ⟨by kernel_rfl, fun W hW => by obtain ⟨k0, k1, k2⟩ := HK.out W hW; go_simp⟩) hS1d ?_
        refine wpAnyH_take (i := 7) (v := .int .i64 (lv : Int)) rfl (by kernel_rfl) (by kernel_rfl) (by kernel_rfl) (fun _ _ _ h => h) (.inl ⟨by kernel_rfl, fun W hW => by go_simp; try simp [*]⟩) hS1d ?_
        refine wpAnyH_ready (rs := [3]) (by kernel_rfl) (by simp) ?_
        refine AllReadyH.cons rfl (fun K hK => ?_) AllReadyH.nil
        rw [if_pos (by kernel_rfl)]
        go_simp
        refine (HQ.out _ hS1d).mono ?_
        rintro e w2 ⟨rfl, hS2⟩
        try simp only []
        refine hK.out _ _ hS2 (fun _ => ?_)
        clear hK K
        refine wpAnyH_take (i := 4) (v := .int .i64 (2 * (n1 : Int))) rfl (by kernel_rfl) (by kernel_rfl) (by kernel_rfl) (fun _ _ _ h => h) (.inl ⟨by kernel_rfl, fun W hW => by go_simp; try simp [*]⟩) hS2 ?_
        refine wpAnyH_take (i := 8) (v := .bool false) rfl (by kernel_rfl) (by kernel_rfl) (by kernel_rfl) (fun _ _ _ h => h) (.inl ⟨by kernel_rfl, fun W hW => by go_simp; try simp [*]⟩) hS2 ?_
        refine wpAnyH_take (i := 9) (v := .bool false) rfl (by kernel_rfl) (by kernel_rfl) (by kernel_rfl) (fun _ _ _ h => h) (.inl ⟨by kernel_rfl, fun W hW => by kernel_rfl⟩) hS2 ?_
        refine wpAnyH_take (i := 10) (v := .pointer (some ⟨w.heap.size, 1, none⟩)) rfl (by kernel_rfl) (by kernel_rfl) (by kernel_rfl) (fun _ _ _ h => h) (.inl ⟨by kernel_rfl, fun W hW => by kernel_rfl⟩) hS2 ?_
        refine wpAnyH_take (i := 11) (v := .slice ay lo cy) rfl (by kernel_rfl) (by kernel_rfl) (by kernel_rfl) (fun _ _ _ h => h) (.inl ⟨by kernel_rfl, fun W hW => by obtain ⟨k0, k1, k2⟩ := HK.out W hW; go_simp⟩) hS2 ?_
        refine wpAnyH_take (i := 12) (v := .int .i64 (lo : Int)) rfl (by kernel_rfl) (by kernel_rfl) (by kernel_rfl) (fun _ _ _ h => h) (.inl ⟨by kernel_rfl, fun W hW => by go_simp; try simp [*]⟩) hS2 ?_
        refine wpAnyH_take (i := 13) (v := .bool false) rfl (by kernel_rfl) (by kernel_rfl) (by kernel_rfl) (fun _ _ _ h => h) (.inl ⟨by kernel_rfl, fun W hW => by go_simp; try simp [*]⟩) hS2 ?_
        refine wpAnyH_take (i := 14) (v := .bool false) rfl (by kernel_rfl) (by kernel_rfl) (by kernel_rfl) (fun _ _ _ h => h) (.inl ⟨by kernel_rfl, fun W hW => by kernel_rfl⟩) hS2 ?_
        refine wpAnyH_take (i := 15) (v := undef) rfl (by kernel_rfl) (by kernel_rfl) (by kernel_rfl) (fun _ _ _ h => h) (.inr ⟨by kernel_rfl, rfl⟩) hS2 ?_
        refine wpAnyH_take (i := 16) (v := undef) rfl (by kernel_rfl) (by kernel_rfl) (by kernel_rfl) (fun _ _ _ h => h) (.inr ⟨by kernel_rfl, rfl⟩) hS2 ?_
        refine wpAnyH_take (i := 17) (v := undef) rfl (by kernel_rfl) (by kernel_rfl) (by kernel_rfl) (fun _ _ _ h => h) (.inr ⟨by kernel_rfl, rfl⟩) hS2 ?_
        refine wpAnyH_take (i := 18) (v := undef) rfl (by kernel_rfl) (by kernel_rfl) (by kernel_rfl) (fun _ _ _ h => h) (.inr ⟨by kernel_rfl, rfl⟩) hS2 ?_
        refine wpAnyH_take (i := 19) (v := undef) rfl (by kernel_rfl) (by kernel_rfl) (by kernel_rfl) (fun _ _ _ h => h) (.inr ⟨by kernel_rfl, rfl⟩) hS2 ?_
        refine wpAnyH_take (i := 20) (v := undef) rfl (by kernel_rfl) (by kernel_rfl) (by kernel_rfl) (fun _ _ _ h => h) (.inr ⟨by kernel_rfl, rfl⟩) hS2 ?_
        refine wpAnyH_take (i := 21) (v := undef) rfl (by kernel_rfl) (by kernel_rfl) (by kernel_rfl) (fun _ _ _ h => h) (.inr ⟨by kernel_rfl, rfl⟩) hS2 ?_
        refine wpAnyH_take (i := 22) (v := undef) rfl (by kernel_rfl) (by kernel_rfl) (by kernel_rfl) (fun _ _ _ h => h) (.inr ⟨by kernel_rfl, rfl⟩) hS2 ?_
        refine wpAnyH_take (i := 23) (v := undef) rfl (by kernel_rfl) (by kernel_rfl) (by kernel_rfl) (fun _ _ _ h => h) (.inr ⟨by kernel_rfl, rfl⟩) hS2 ?_
        refine wpAnyH_take (i := 24) (v := .bool false) rfl (by kernel_rfl) (by kernel_rfl) (by kernel_rfl) (fun _ _ _ h => h) (.inl ⟨by kernel_rfl, fun W hW => by kernel_rfl⟩) hS2 ?_
        refine wpAnyH_take (i := 25) (v := .bool false) rfl (by kernel_rfl) (by kernel_rfl) (by kernel_rfl) (fun _ _ _ h => h) (.inl ⟨by kernel_rfl, fun W hW => by kernel_rfl⟩) hS2 ?_
        refine wpAnyH_take (i := 26) (v := .bool false) rfl (by kernel_rfl) (by kernel_rfl) (by kernel_rfl) (fun _ _ _ h => h) (.inl ⟨by kernel_rfl, fun W hW => by kernel_rfl⟩) hS2 ?_
        refine wpAnyH_done (by kernel_rfl) ?_ _
        go_simp
        go_wp2_with fail
        go_ret
        exact ⟨rfl, HB.out _ hS2⟩
end Go.Proofs.Ytedpfmalhapmeaa

/- The document's Index. -/
namespace Go.Proofs.Ytedpfmalhapmeaa
open Go.RowKit Go.Maps
set_option linter.unusedVariables false
set_option maxRecDepth 100000

theorem getD_at (l : List UInt64) (i : Nat) (h : i < l.length) : l.getD i 0 = l[i] := by
  rw [List.getD_eq_getElem?_getD, List.getElem?_eq_getElem h]; rfl

set_option maxHeartbeats 8000000 in
theorem rindex_any {x y z v v' : Value} {c : Cn} {ps qs : List UInt64} {w : World} (hr : Rc w x y z c) (hp : Ru w v ps) (hq : Ru w v' qs) (hlc : c.1.length + c.2.1.length + c.2.2.length ≤ 1099511627776) (hl : ps.length ≤ 1099511627776) :
    Calls Try.prog 30 #[.agg #[x, y, z], v, v'] w fun e w' => e = .returned (.int .u64 ((ixF c ps qs).toNat : Int)) ∧ Below w.heap.size w w' := by
  have hB := u_al w (.cells #[x, y, z] 24)
  have HB : Hid (∀ W, Below (w.heap.size + 1) (w.alloc (.cells #[x, y, z] 24)) W → Below w.heap.size w W) := fun W hW => hB.trans (hW.mono (by omega))
  have HZ : Hid (∀ W, Below (w.heap.size + 1) (w.alloc (.cells #[x, y, z] 24)) W → w.heap.size + 1 ≤ W.heap.size) := fun W hW => by
    have := hW.size; simp only [World.size_alloc] at this; omega
  have hS0 : Below (w.heap.size + 1) (w.alloc (.cells #[x, y, z] 24)) (w.alloc (.cells #[x, y, z] 24)) := Below.refl _ _
  have hck := rcheck_any (hr.below hB (Nat.le_refl _)) hlc
  have HK : Hid (∀ W, Below (w.heap.size + 1) (w.alloc (.cells #[x, y, z] 24)) W → W.cell? ⟨w.heap.size, 0, none⟩ = some x ∧ W.cell? ⟨w.heap.size, 1, none⟩ = some y ∧ W.cell? ⟨w.heap.size, 2, none⟩ = some z) := fun W hW => box3 hW rfl
  have HQU : Hid (∀ W v l, Below (w.heap.size + 1) (w.alloc (.cells #[x, y, z] 24)) W → Ru W v l → Calls Try.prog 26 #[.agg #[x, y, z], v] W fun e w' => e = .returned (.bool (qu c l)) ∧ Below (w.heap.size + 1) (w.alloc (.cells #[x, y, z] 24)) w') := fun W v l hW hv => (rquorum_any (hr.below (HB.out W hW) (Nat.le_refl _)) hv hlc).mono (by rintro e w' ⟨rfl, h⟩; exact ⟨rfl, hW.trans (h.mono (HZ.out W hW))⟩)
  have HRP : Hid (∀ W, Below (w.heap.size + 1) (w.alloc (.cells #[x, y, z] 24)) W → Ru W v ps) := fun W hW => hp.below (HB.out W hW) (Nat.le_refl _)
  have HRQ : Hid (∀ W, Below (w.heap.size + 1) (w.alloc (.cells #[x, y, z] 24)) W → Ru W v' qs) := fun W hW => hq.below (HB.out W hW) (Nat.le_refl _)
  obtain ⟨ax, cx, rfl⟩ := hr.1.shape
  obtain ⟨ay, cy, rfl⟩ := hr.2.1.shape
  obtain ⟨az, cz, rfl⟩ := hr.2.2.shape
  have hpl := hp.len
  have hql := hq.len
  unfold maxLen at hpl hql
  obtain ⟨ap, cp, rfl⟩ := hp.shape
  obtain ⟨aq, cq, rfl⟩ := hq.shape
  clear hr hp hq
  cases hc : chk c with
  | false =>
    rw [hc] at hck
    have e0 : ixF c ps qs = 0 := if_neg (fun h => by rw [hc] at h; cases h.1)
    rw [e0]
    clear hc e0
    go_enter Try.func30, Try.ntmps30
    go_wp2_with fail
    refine hck.mono ?_
    rintro e w1 ⟨rfl, hb1⟩
    simp only [Bool.false_eq_true, if_false]
    go_wp2_with fail
    go_ret
    exact ⟨rfl, hB.trans (hb1.mono hB.size)⟩
  | true =>
  rw [hc] at hck
  by_cases hlen : ps.length = qs.length
  · have HLQ : Hid (ps.length = qs.length) := hlen
    have hneq : ((ps.length : Int) == (qs.length : Int)) = true := by simp [hlen]
    have hne2 : ((ps.length : Int) != (qs.length : Int)) = false := by simp [hlen]
    have HIX : Hid ((qs.take qs.length).foldl (bstv (hasF ps qs) c) 0 = ixF c ps qs) := by show _ = _; rw [List.take_length]; exact ix_eq hc hlen
    have HSN : Hid (∀ k, (h : k < qs.length) → (qs.take (k + 1)).foldl (bstv (hasF ps qs) c) 0 = bstv (hasF ps qs) c ((qs.take k).foldl (bstv (hasF ps qs) c) 0) qs[k]) := fun k h => foldv_snoc _ c qs k h
    have HLA : Hid (∀ j, (hj : j < ps.length) → (hj' : j < qs.length) → (∀ i, (h : i < ps.length) → j < i → ps[i] ≠ ps[j]) → hasF ps qs ps[j] = qs[j]) := fun j hj hj' hne => hasF_last hlen j hj hne
    have HQG : Hid (∀ v : UInt64, 0 < v.toNat → qu c (ps.filter (geF (hasF ps qs) v)) = agr (rch (hasF ps qs) v) c) := fun v hv => qu_ge hc hv
    have HFT : Hid (∀ v k, (h : k < ps.length) → (ps.take (k + 1)).filter (geF (hasF ps qs) v) = (ps.take k).filter (geF (hasF ps qs) v) ++ (if v.toNat ≤ (hasF ps qs ps[k]).toNat then [ps[k]] else [])) := fun v k h => by
      rw [filt_take _ ps k h, geF]; simp
    generalize ixF c ps qs = R at *
    generalize hasF ps qs = H at *
    clear hc hlen
    go_enter Try.func30, Try.ntmps30
    go_wp2_with fail
    refine hck.mono ?_
    rintro e w1 ⟨rfl, hb1⟩
    have hS1 : Below (w.heap.size + 1) (w.alloc (.cells #[.slice ax c.1.length cx, .slice ay c.2.1.length cy, .slice az c.2.2.length cz] 24)) w1 := hb1.mono (by simp)
    simp only [if_true]
    go_wp2_with fail
    clear hck hb1 hS0 hneq hne2
    generalize (w.alloc (.cells #[.slice ax c.1.length cx, .slice ay c.2.1.length cy, .slice az c.2.2.length cz] 24)) = W0 at *
    go_loopw [7, 8, 9, 10, 11, 12] (fun b i _ _ _ _ wr => ∃ (k : Nat) (bv : UInt64), k ≤ qs.length ∧ i = .int .i64 k ∧ b = .int .u64 (bv.toNat : Int) ∧ Hid ((qs.take k).foldl (bstv H c) 0 = bv) ∧ Below (w.heap.size + 1) W0 wr) (fun _ i _ _ _ _ _ => qs.length - (intOf i).toNat)
    case atStart => exact ⟨0, 0, Nat.zero_le _, rfl, rfl, rfl, hS1⟩
    case round =>
      obtain ⟨k, bv, hk, rfl, rfl, HV, hb⟩ := hrel
      by_cases hlt : k < qs.length
      · obtain ⟨a', aqe⟩ : ∃ a', aq = some a' := by
          obtain ⟨ao, cc, e, _, _, _, h4⟩ := HRQ.out wr hb
          simp only [Value.slice.injEq, true_and] at e
          obtain ⟨rfl, rfl⟩ := e
          obtain ⟨a, e, _⟩ := h4 k hlt
          exact ⟨a, e⟩
        subst aqe
        have HCQ : Hid (∀ W i, Below (w.heap.size + 1) W0 W → (h : i < qs.length) → W.cell? (a'.add i) = some (.int .u64 (qs[i].toNat : Int))) := fun W i hW h => by
          obtain ⟨ao, cc, e, _, _, _, h4⟩ := HRQ.out W hW
          simp only [Value.slice.injEq, true_and] at e
          obtain ⟨rfl, rfl⟩ := e
          obtain ⟨a, e, hc⟩ := h4 i h
          obtain rfl := Option.some.inj e
          exact hc
        obtain ⟨a, ape⟩ : ∃ a, ap = some a := by
          obtain ⟨ao, cc, e, _, _, _, h4⟩ := HRP.out wr hb
          simp only [Value.slice.injEq, true_and] at e
          obtain ⟨rfl, rfl⟩ := e
          obtain ⟨a, e, _⟩ := h4 0 (by have := HLQ.out; omega)
          exact ⟨a, e⟩
        subst ape
        have HCP : Hid (∀ W i, Below (w.heap.size + 1) W0 W → (h : i < ps.length) → W.cell? (a.add i) = some (.int .u64 (ps[i].toNat : Int))) := fun W i hW h => by
          obtain ⟨ao, cc, e, _, _, _, h4⟩ := HRP.out W hW
          simp only [Value.slice.injEq, true_and] at e
          obtain ⟨rfl, rfl⟩ := e
          obtain ⟨a, e, hc⟩ := h4 i h
          obtain rfl := Option.some.inj e
          exact hc
        have HSK : Hid _ := HSN.out k hlt
        have HQI : Hid (∀ W, Below (w.heap.size + 1) W0 W → W.cell? (a'.add k) = some (.int .u64 (qs[k].toNat : Int))) := fun W hW => HCQ.out W k hW hlt
        have hki : (k : Int) < (qs.length : Int) := by omega
        clear HRP HRQ HSN hS1
        generalize qs[k] = q at *
        go_wp2_with fail
        generalize hwr : wr = W1 at *
        clear hwr wr
        go_loopw [9, 10, 11, 12] (fun o i _ _ wr => ∃ n : Nat, n ≤ ps.length ∧ i = .int .i64 n ∧ Ou (w.heap.size + 1) wr o ((ps.take n).filter (geF H q)) ∧ Below (w.heap.size + 1) W0 wr) (fun _ i _ _ _ => ps.length - (intOf i).toNat)
        case atStart => exact ⟨0, Nat.zero_le _, rfl, by rw [List.take_zero]; exact Ou.nil _ _, hb⟩
        case round =>
          clear hb
          obtain ⟨n, hn, rfl, ho, hb⟩ := hrel
          by_cases hltn : n < ps.length
          · have HFN : Hid _ := HFT.out q n hltn
            have HPI : Hid (∀ W, Below (w.heap.size + 1) W0 W → W.cell? (a.add n) = some (.int .u64 (ps[n].toNat : Int))) := fun W hW => HCP.out W n hW hltn
            have hni : (n : Int) < (ps.length : Int) := by omega
            have HGD : Hid (ps.getD n 0 = ps[n]) := getD_at ps n hltn
            generalize ps[n] = p at *
            have hfl := filt_len (geF H q) ps n
            go_wp2_with fail
            generalize hwr : wr = W2 at *
            clear hwr wr
            have HOL : Hid (∀ W, Below W2.heap.size W2 W → Ou (w.heap.size + 1) W u9 ((ps.take n).filter (geF H q))) := fun W hW => ho.below hW (Nat.le_refl _)
            have HU2 : Hid (∀ W, Below W2.heap.size W2 W → Below (w.heap.size + 1) W0 W) := fun W hW => hb.trans (hW.mono (HZ.out W2 hb))
            go_loopw [11, 12] (fun l j wr => ∃ (la jn : Nat), la < jn ∧ jn ≤ ps.length ∧ j = .int .i64 jn ∧ l = .int .i64 la ∧ n < jn ∧ Hid (ps.getD la 0 = p) ∧ Hid (∀ i, la < i → i < jn → ps.getD i 0 ≠ p) ∧ Below W2.heap.size W2 wr) (fun _ j _ => ps.length - (intOf j).toNat)
            case atStart => exact ⟨n, n + 1, by omega, by omega, by go_num, rfl, by omega, HGD, (fun i h1 h2 => by omega), Below.refl _ _⟩
            case round =>
              obtain ⟨la, jn, hlj, hjn, rfl, rfl, hnj, HL1, HL2, hbr⟩ := hrel
              have hbr0 := HU2.out wr hbr
              have hcn := HPI.out wr hbr0
              by_cases hltj : jn < ps.length
              · have hcj := HCP.out wr jn hbr0 hltj
                have hji : (jn : Int) < (ps.length : Int) := by omega
                have HGJ : Hid (ps.getD jn 0 = ps[jn]) := getD_at ps jn hltj
                generalize ps[jn] = pj at *
                by_cases hpe : pj = p
                · have hqe : ((pj.toNat : Int) == (p.toNat : Int)) = true := by simp [hpe]
                  have HL1b : Hid (ps.getD jn 0 = p) := by show _ = _; rw [HGJ.out, hpe]
                  clear hpe HGJ
                  go_wp2_with fail
                  go_quiet (fail)
                  go_wp2_with fail
                  exact ⟨⟨jn, jn + 1, by omega, by omega, by go_num, rfl, by omega, HL1b, (fun i h1 h2 => by omega), below_drewN hbr _⟩, by simp [intOf]; omega⟩
                · have hqe : ((pj.toNat : Int) == (p.toNat : Int)) = false := by
                    simp only [beq_eq_false_iff_ne, ne_eq]
                    exact fun e => hpe (u_inj e)
                  have HL2b : Hid (∀ i, la < i → i < jn + 1 → ps.getD i 0 ≠ p) := fun i h1 h2 => by
                    rcases Nat.lt_or_eq_of_le (Nat.lt_succ_iff.1 h2) with h | h
                    · exact HL2.out i h1 h
                    · subst h; rw [HGJ.out]; exact hpe
                  clear hpe HGJ
                  go_wp2_with fail
                  go_quiet (fail)
                  go_wp2_with fail
                  exact ⟨⟨la, jn + 1, by omega, by omega, by go_num, rfl, by omega, HL1, HL2b, below_drewN hbr _⟩, by simp [intOf]; omega⟩
              · obtain rfl : jn = ps.length := by omega
                have hlaq : la < qs.length := by have := HLQ.out; omega
                have hli : (la : Int) < (qs.length : Int) := by omega
                have HHP : Hid (H p = qs[la]) := by
                  show _ = _
                  have h := HLA.out la hlj hlaq (fun i h h1 e => HL2.out i h1 h (by rw [getD_at ps i h, e, ← getD_at ps la hlj]; exact HL1.out))
                  rw [← getD_at ps la hlj, HL1.out] at h
                  exact h
                have hcl := HCQ.out wr la hbr0 hlaq
                have hcq := HQI.out wr hbr0
                have hor := HOL.out wr hbr
                generalize qs[la] = t at *
                by_cases hge : q.toNat ≤ t.toNat
                · have hgi : decide ((q.toNat : Int) ≤ (t.toNat : Int)) = true := by simp; omega
                  have HF2 : Hid ((ps.take (n + 1)).filter (geF H q) = (ps.take n).filter (geF H q) ++ [p]) := by show _ = _; rw [HFN.out, HHP.out, if_pos hge]
                  clear HFN HHP HL1 HL2
                  go_wp2_with fail
                  go_quiet (fail)
                  have hbd : Below (w.heap.size + 1) W0 (wr.drewN nq) := below_drewN hbr0 nq
                  have hcp2 := HPI.out _ hbd
                  have hor2 : Ou (w.heap.size + 1) (wr.drewN nq) u9 ((ps.take n).filter (geF H q)) := hor.below (below_drewN (Below.refl _ _) nq) (Nat.le_refl _)
                  have hzd := HZ.out _ hbd
                  generalize (wr.drewN nq) = W3 at *
                  go_wp2_with (first | (at_builtin; refine wpList_appU rfl _ _ rfl (w.heap.size + 1) _ _ rfl (hor2.alloc _) _ [p] rfl (ru_one _ _ _ ?e1 _ _ rfl) ?e2 ?e3 ?_; rotate_right; intro v4 w5 ho4 hg4 hw4) | fail)
                  case e1 => rfl
                  case e2 => (try simp) <;> omega
                  case e3 => (try simp) <;> omega
                  have hb5 : Below (w.heap.size + 1) W0 w5 := hbd.trans (((Below.refl (w.heap.size + 1) _).alloc hzd _).trans ((Below.refl (w.heap.size + 1) _).grown hg4 (by simp; omega) (fun j e => (hor2.lt j e).1)))
                  rw [← HF2.out] at ho4
                  go_roundw
                  case rel => exact ⟨n + 1, by omega, by go_num, ho4, hb5⟩
                  case measure => simp [intOf]; omega
                · have hgi : decide ((q.toNat : Int) ≤ (t.toNat : Int)) = false := by simp; omega
                  have HF2 : Hid ((ps.take (n + 1)).filter (geF H q) = (ps.take n).filter (geF H q)) := by show _ = _; rw [HFN.out, HHP.out, if_neg hge, List.append_nil]
                  clear HFN HHP HL1 HL2
                  go_wp2_with fail
                  go_quiet (fail)
                  have hor2 : Ou (w.heap.size + 1) (wr.drewN nq) u9 ((ps.take n).filter (geF H q)) := hor.below (below_drewN (Below.refl _ _) nq) (Nat.le_refl _)
                  rw [← HF2.out] at hor2
                  go_wp2_with fail
                  exact ⟨⟨n + 1, by omega, by go_num, hor2, below_drewN hbr0 nq⟩, by simp [intOf]; omega⟩
          · obtain rfl : n = ps.length := by omega
            rw [List.take_length] at ho
            have hcq := HQI.out wr hb
            obtain ⟨k0, k1, k2⟩ := HK.out wr hb
            have HBV : Hid (bstv H c bv q = if bv.toNat < q.toNat ∧ agr (rch H q) c = true then q else bv) := rfl
            have hqu := HQU.out wr _ _ hb ho.ru
            obtain ⟨a9, c9, rfl⟩ := ho.shape
            by_cases hgt : bv.toNat < q.toNat
            · have hgi : (bv.toNat : Int) < (q.toNat : Int) := by omega
              rw [HQG.out q (by omega)] at hqu
              cases hag : agr (rch H q) c with
              | true =>
                rw [hag] at hqu
                have HV2 : Hid ((qs.take (k + 1)).foldl (bstv H c) 0 = q) := by show _ = _; rw [HSK.out, HV.out, HBV.out, if_pos ⟨hgt, hag⟩]
                clear HSK HV HBV hag HFT
                go_wp2_with fail
                refine hqu.mono ?_
                rintro e w6 ⟨rfl, hb6⟩
                have hcq6 := HQI.out w6 hb6
                go_wp2_with fail
                go_roundw
                case rel => exact ⟨k + 1, q, by omega, by go_num, rfl, HV2, hb6⟩
                case measure => simp [intOf]; omega
              | false =>
                rw [hag] at hqu
                have HV2 : Hid ((qs.take (k + 1)).foldl (bstv H c) 0 = bv) := by show _ = _; rw [HSK.out, HV.out, HBV.out, if_neg (fun h => by rw [hag] at h; cases h.2)]
                clear HSK HV HBV hag HFT
                go_wp2_with fail
                refine hqu.mono ?_
                rintro e w6 ⟨rfl, hb6⟩
                go_wp2_with fail
                go_roundw
                case rel => exact ⟨k + 1, bv, by omega, by go_num, rfl, HV2, hb6⟩
                case measure => simp [intOf]; omega
            · have hgi : ¬ (bv.toNat : Int) < (q.toNat : Int) := by omega
              have HV2 : Hid ((qs.take (k + 1)).foldl (bstv H c) 0 = bv) := by show _ = _; rw [HSK.out, HV.out, HBV.out, if_neg (fun h => hgt h.1)]
              clear HSK HV HBV HFT hqu
              go_wp2_with fail
              exact ⟨⟨k + 1, bv, by omega, by go_num, rfl, HV2, hb⟩, by simp [intOf]; omega⟩
      · obtain rfl : k = qs.length := by omega
        obtain rfl : bv = R := by rw [← HV.out, HIX.out]
        clear HV HIX HSN HFT HRP HRQ
        go_wp2_with fail
        go_ret
        exact ⟨rfl, HB.out _ hb⟩
  · have e0 : ixF c ps qs = 0 := if_neg (fun h => hlen h.2)
    rw [e0]
    have hneq : ((ps.length : Int) == (qs.length : Int)) = false := by
      simp only [beq_eq_false_iff_ne, ne_eq]; omega
    clear hc e0
    go_enter Try.func30, Try.ntmps30
    go_wp2_with fail
    refine hck.mono ?_
    rintro e w1 ⟨rfl, hb1⟩
    simp only [if_true]
    go_wp2_with fail
    go_ret
    exact ⟨rfl, hB.trans (hb1.mono hB.size)⟩
end Go.Proofs.Ytedpfmalhapmeaa
