/- grouped and Check. -/
import Derived.Test.YtedfjacmaidhkaaGreatG6
import Derived.Deep.RegionHeld3
import Derived.Deep.CutRange
namespace Go.Proofs.YtedfjacmaidhkaaGreat
open Go.RowKit
set_option linter.unusedVariables false
set_option maxRecDepth 100000

/-- Are the stores from the k-th peer on above 0 and not those of the ones ahead? -/
def stF (ps : List Pe) : Nat → Bool
  | 0 => true
  | k + 1 => stF ps k && (match ps[k]? with | some p => !(onF (ps.take k) p.2.1).isSome && decide (1 ≤ p.2.1) | none => true)
/-- How many vote. -/
def vtF (ps : List Pe) : Nat := (ps.filter (fun p => !p.2.2)).length
/-- Can these be a region's peers? -/
def grpF (ps : List Pe) : Bool := decide (ps.length ≤ 9) && risF 0 (ps.map (·.1)) && stF ps ps.length && decide (0 < vtF ps)
theorem vtF_snoc (l : List Pe) (p : Pe) : vtF (l ++ [p]) = vtF l + (if p.2.2 = true then 0 else 1) := by
  unfold vtF
  rw [List.filter_append, List.length_append]
  obtain ⟨a, b, c⟩ := p
  cases c <;> rfl
theorem stF_false (ps : List Pe) (k : Nat) (h : stF ps k = false) : ∀ n, stF ps (k + n) = false
  | 0 => h
  | n + 1 => by
    show (stF ps (k + n) && _) = false
    rw [stF_false ps k h n]; rfl
theorem stF_len {ps : List Pe} {k : Nat} (hk : k ≤ ps.length) (h : stF ps k = false) : stF ps ps.length = false := by
  have := stF_false ps k h (ps.length - k)
  rwa [Nat.add_sub_of_le hk] at this

set_option maxHeartbeats 2000000 in
theorem grouped_any {v : Value} {ps : List Pe} {w : World} (hr : RdPe w v ps) :
    Calls Tryz.prog 23 #[v] w fun x w' => x = .returned (.bool (grpF ps)) ∧ Below w.heap.size w w' := by
  have HR : Hid (RdPe w v ps) := hr
  obtain ⟨ao, c, rfl, h1, h2, h3, h4⟩ := hr
  unfold maxLen at h2
  clear h4
  have hgr : grpF ps = (decide (ps.length ≤ 9) && risF 0 (ps.map (·.1)) && stF ps ps.length && decide (0 < vtF ps)) := rfl
  generalize grpF ps = res at *
  have HG : Hid _ := hgr
  clear hgr
  by_cases h9 : 9 < ps.length
  · have g9 : (9 : Int) < (ps.length : Int) := by omega
    go_enter Tryz.func23, Tryz.ntmps23
    go_wp2_with fail
    go_ret
    refine ⟨?_, Below.refl _ _⟩
    rw [HG.out, decide_eq_false (show ¬ ps.length ≤ 9 by omega)]; rfl
  have g9 : ¬ (9 : Int) < (ps.length : Int) := by omega
  have hnum := numbers_any HR.out (by omega)
  go_enter Tryz.func23, Tryz.ntmps23
  go_wp2_with fail
  refine hnum.mono ?_
  rintro x w1 ⟨v1, rfl, ho1, hb1⟩
  have hri := rises_any ho1.ru
  clear hnum
  by_cases hR : risF 0 (ps.map (·.1)) = true
  · rw [hR] at hri
    have HRI : Hid _ := hR
    clear hR
    go_wp2_with fail
    refine hri.mono ?_
    rintro x w2 ⟨rfl, rfl⟩
    clear hri
    go_wp2_with fail
    go_loopw [3, 4, 5, 6, 7, 19] (fun u _ _ _ _ i wr => ∃ k : Nat, k ≤ ps.length ∧ i = .int .i64 k ∧ u = .int .i64 (vtF (ps.take k) : Int) ∧ Hid (stF ps k = true) ∧ Below w.heap.size w wr) (fun _ _ _ _ _ i _ => ps.length - (intOf i).toNat)
    case atStart => exact ⟨0, Nat.zero_le _, rfl, rfl, rfl, hb1⟩
    case round =>
      obtain ⟨k, hk, rfl, rfl, HS, hb⟩ := hrel
      by_cases hlt : k < ps.length
      · obtain ⟨p, hp⟩ : ∃ p, ps[k]? = some p := ⟨_, List.getElem?_eq_getElem hlt⟩
        obtain ⟨ao', c', e, _, _, _, h4⟩ := HR.out.below hb (Nat.le_refl _)
        simp only [Value.slice.injEq, true_and] at e
        obtain ⟨rfl, rfl⟩ := e
        obtain ⟨a, rfl, c0, c1, c2⟩ := h4 k p hp
        have hst : stF ps (k + 1) = (!(onF (ps.take k) p.2.1).isSome && decide (1 ≤ p.2.1)) := by
          show (stF ps k && _) = _
          rw [HS.out, Bool.true_and, hp]
        have hvt : vtF (ps.take (k + 1)) = vtF (ps.take k) + (if p.2.2 = true then 0 else 1) := by
          have e1 : ps.take (k + 1) = ps.take k ++ [p] := by rw [List.take_add_one, hp]; rfl
          rw [e1, vtF_snoc]
        have hvb : vtF (ps.take k) ≤ 9 := by
          have := List.length_filter_le (fun p : Pe => !p.2.2) (ps.take k)
          have e2 : (ps.take k).length ≤ k := by rw [List.length_take]; omega
          unfold vtF; omega
        have hon : ∀ W, Below w.heap.size w W → Calls Tryz.prog 24 #[.slice (some a) k c, .int .i64 p.2.1] W fun x w' => ∃ q0 q1 q2, x = .returned (.tuple #[.agg #[.int .u64 q0, .int .i64 q1, .bool q2], .bool (onF (ps.take k) p.2.1).isSome]) ∧ Below W.heap.size W w' := fun W hW =>
          (on_any (RdPe.pre (HR.out.below hW (Nat.le_refl _)) k (by omega))).mono (by
            rintro x w' ⟨rfl, hb'⟩
            exact ⟨_, _, _, rfl, hb'⟩)
        have HV : Hid _ := And.intro hst hvt
        clear hst hvt h4 hp
        generalize (onF (ps.take k) p.2.1).isSome = bt at *
        generalize vtF (ps.take k) = vk at *
        obtain ⟨p0, p1, p2⟩ := p
        simp only [] at c0 c1 c2 hon
        have hW1 : Below w.heap.size w (wr.alloc (.cells #[.int .u64 (p0.toNat : Int), .int .i64 p1, .bool p2] 44)) := hb.alloc hb.size _
        have hK1 : (wr.alloc (.cells #[.int .u64 (p0.toNat : Int), .int .i64 p1, .bool p2] 44)).heap[wr.heap.size]? = some (.cells #[.int .u64 (p0.toNat : Int), .int .i64 p1, .bool p2] 44 (0, 0)) := heap_alloc_new wr _
        have hZ1 : (wr.alloc (.cells #[.int .u64 (p0.toNat : Int), .int .i64 p1, .bool p2] 44)).heap.size > wr.heap.size := by simp
        go_upto_region 7 with fail
        generalize (wr.alloc (.cells #[.int .u64 (p0.toNat : Int), .int .i64 p1, .bool p2] 44)) = W1 at *
        obtain ⟨d0, d1, d2, _⟩ := cells3 hK1
        have hD0 : Below W1.heap.size W1 W1.drew := Below.dN W1 1
        have hDw : Below w.heap.size w W1.drew := hW1.trans (hD0.mono hW1.size)
        have hA0 : Below W1.heap.size W1 (W1.drew.alloc (.cells #[.int .u64 0, .int .i64 0, .bool false] 44)) := hD0.alloc hD0.size _
        have hAw : Below w.heap.size w (W1.drew.alloc (.cells #[.int .u64 0, .int .i64 0, .bool false] 44)) := hW1.trans (hA0.mono hW1.size)
        have HAK : Hid ((W1.drew.alloc (.cells #[.int .u64 0, .int .i64 0, .bool false] 44)).heap[W1.heap.size]? = some (.cells #[.int .u64 0, .int .i64 0, .bool false] 44 (0, 0))) := heap_alloc_new W1.drew _
        have hAz : (W1.drew.alloc (.cells #[.int .u64 0, .int .i64 0, .bool false] 44)).heap.size > W1.heap.size := by rw [World.size_alloc]; exact Nat.lt_succ_self _
        have HKK : Hid (∀ W, Below W1.heap.size W1 W → W.heap[wr.heap.size]? = some (.cells #[.int .u64 (p0.toNat : Int), .int .i64 p1, .bool p2] 44 (0, 0))) := fun W hW => by rw [hW.block _ (by omega)]; exact hK1
        have hgc : (k : Int) ≤ (c : Int) := by omega
        have hne1 : ¬ wr.heap.size = W1.heap.size := by omega
        have hne2 : ¬ W1.heap.size = wr.heap.size := by omega
        go_cut [6, 7] from 20 to 44 (fun _ s wx => s = .bool bt ∧ Below W1.heap.size W1 wx)
        case first =>
          go_region_held3 (fun w' => w'.cell? ⟨wr.heap.size, 1, none⟩ = some (.int .i64 p1)) (go_keep) (first
            | (go_at_call 24; refine (hon _ hDw).mono ?_; rintro x w3 ⟨q0, q1, q2, rfl, hb3⟩; have hb3w : Below W1.heap.size W1 w3 := hD0.trans hb3; obtain ⟨_, s1, _, _⟩ := cells3 (HKK.out _ hb3w))
            | (go_at_call 24; refine (hon _ hAw).mono ?_; rintro x w3 ⟨q0, q1, q2, rfl, hb3⟩; have hb3w : Below W1.heap.size W1 w3 := hA0.trans (hb3.mono hA0.size); obtain ⟨_, s1, _, _⟩ := cells3 (HKK.out _ hb3w); have hg3 := (hb3.block W1.heap.size (by omega)).trans HAK.out; obtain ⟨t0, t1, t2, tz⟩ := cells3 hg3; have tz0 := tz 0; have tz1 := tz 1; have tz2 := tz 2; clear tz)
            | fail)
          · go_wp2_with fail
            go_meet
            exact ⟨rfl, hb3w.alloc hb3w.size _⟩
          · have hch := set3_chg w3 W1.heap.size (.int .u64 q0) (.int .i64 q1) (.bool q2)
            have hbe := hb3w.trans (hch.below (fun b q => by omega) hb3w.size)
            clear hch
            go_wp2_with fail
            go_meet
            exact ⟨rfl, hbe⟩
        case rest =>
          obtain ⟨rfl, hbx⟩ := hcut
          obtain ⟨e0, e1, e2, _⟩ := cells3 (HKK.out _ hbx)
          have hBx : Below w.heap.size w wc := hW1.trans (hbx.mono hW1.size)
          have HNO : Hid (stF ps (k + 1) = false → Ending.returned (.bool false) = Ending.returned (.bool res)) := fun h => by
            rw [HG.out, stF_len (show k + 1 ≤ ps.length by omega) h, Bool.and_false]; rfl
          obtain ⟨hst, hvt⟩ := HV.out
          simp only [] at hst hvt
          clear hon d0 d1 d2 hD0 hDw hA0 hAw hAz
          cases hbt : bt with
          | true =>
            have HST : Hid (stF ps (k + 1) = false) := by rw [hbt] at hst; exact hst
            clear hst hvt hbt
            go_wp2_with fail
            go_ret
            exact ⟨HNO.out HST.out, hBx⟩
          | false =>
            rw [hbt] at hst
            by_cases hp1 : p1 < 1
            · have HST : Hid (stF ps (k + 1) = false) := by show _ = _; rw [hst, decide_eq_false (show ¬ 1 ≤ p1 by omega)]; rfl
              clear hst hvt hbt
              go_wp2_with fail
              go_ret
              exact ⟨HNO.out HST.out, hBx⟩
            · have HST : Hid (stF ps (k + 1) = true) := by show _ = _; rw [hst, decide_eq_true (show 1 ≤ p1 by omega)]; rfl
              clear hst hbt
              cases hp2 : p2 with
              | true =>
                have HVT : Hid (vtF (ps.take (k + 1)) = vk) := by rw [hp2] at hvt; exact hvt
                subst hp2
                clear hvt
                go_wp2_with fail
                exact ⟨⟨k + 1, by omega, by go_num, by rw [HVT.out], HST, hBx⟩, by simp [intOf]; omega⟩
              | false =>
                have HVT : Hid (vtF (ps.take (k + 1)) = vk + 1) := by rw [hp2] at hvt; exact hvt
                subst hp2
                clear hvt
                go_wp2_with fail
                exact ⟨⟨k + 1, by omega, by go_num, by rw [HVT.out]; rfl, HST, hBx⟩, by simp [intOf]; omega⟩
      · obtain rfl : k = ps.length := by omega
        rw [List.take_length]
        go_wp2_with fail
        go_ret
        refine ⟨?_, hb⟩
        have hv : decide ((0 : Int) < (vtF ps : Int)) = decide (0 < vtF ps) := by
          by_cases q : 0 < vtF ps
          · rw [decide_eq_true q, decide_eq_true (by omega)]
          · rw [decide_eq_false q, decide_eq_false (by omega)]
        rw [HG.out, HRI.out, HS.out, decide_eq_true (show ps.length ≤ 9 by omega)]
        simp
  · have hR2 : risF 0 (ps.map (·.1)) = false := by simpa using hR
    rw [hR2] at hri
    have HRI : Hid _ := hR2
    clear hR hR2
    go_wp2_with fail
    refine hri.mono ?_
    rintro x w2 ⟨rfl, rfl⟩
    go_wp2_with fail
    go_ret
    refine ⟨?_, hb1⟩
    rw [HG.out, HRI.out, Bool.and_false]; rfl
end Go.Proofs.YtedfjacmaidhkaaGreat

/- Check. -/
namespace Go.Proofs.YtedfjacmaidhkaaGreat
open Go.RowKit
set_option linter.unusedVariables false
set_option maxRecDepth 100000

/-- What Check answers. -/
def chkE (id : UInt64) (s e : List UInt8) (ps : List Pe) : Int := if id = 0 ∨ 64 < s.length ∨ 64 < e.length then 1 else if cov s e s = false then 101 else if grpF ps = false then 1 else 0
set_option maxHeartbeats 1000000 in
theorem check_any {id : UInt64} {cf vr : Int} {sv ev pv : Value} {s e : List UInt8} {ps : List Pe} {w : World} (hs : Rd w sv s) (he : Rd w ev e) (hp : RdPe w pv ps) :
    Calls Tryz.prog 11 #[.agg #[.int .u64 (id.toNat : Int), sv, ev, .int .u64 cf, .int .u64 vr, pv]] w fun x w' => x = .returned (.int .i64 (chkE id s e ps)) ∧ Below w.heap.size w w' := by
  have HRS : Hid (Rd w sv s ∧ Rd w ev e ∧ RdPe w pv ps) := ⟨hs, he, hp⟩
  obtain ⟨sa, sc, rfl⟩ := hs.shp
  obtain ⟨ea, ec, rfl⟩ := he.shp
  obtain ⟨pa, pk, rfl, _⟩ := hp.shape
  have hsl := hs.len
  have hel := he.len
  unfold maxLen at hsl hel
  have hck : chkE id s e ps = if id = 0 ∨ 64 < s.length ∨ 64 < e.length then 1 else if cov s e s = false then 101 else if grpF ps = false then 1 else 0 := rfl
  generalize chkE id s e ps = res at *
  have HC : Hid _ := hck
  clear hck hs he hp
  have hbx : Below w.heap.size w (w.alloc (.cells #[.int .u64 (id.toNat : Int), .slice sa s.length sc, .slice ea e.length ec, .int .u64 cf, .int .u64 vr, .slice pa ps.length pk] 40)) := g_al w _
  by_cases hid : id = 0
  · subst hid
    go_enter Tryz.func11, Tryz.ntmps11
    go_wp2_with fail
    go_ret
    exact ⟨by rw [HC.out]; first | rfl | simp, g_al _ _⟩
  have hid2 : ¬ id.toNat = 0 := fun q => hid (UInt64.toNat_inj.1 q)
  have hid3 : ¬ ((id.toNat : Int) = 0) := by omega
  have hid4 : ((id.toNat : Int) == 0) = false := by simp; omega
  by_cases h1 : 64 < s.length
  · have g1 : (64 : Int) < (s.length : Int) := by omega
    go_enter Tryz.func11, Tryz.ntmps11
    go_wp2_with fail
    go_ret
    exact ⟨by rw [HC.out, if_pos (.inr (.inl h1))]; rfl, hbx⟩
  have g1 : ¬ (64 : Int) < (s.length : Int) := by omega
  by_cases h2 : 64 < e.length
  · have g2 : (64 : Int) < (e.length : Int) := by omega
    go_enter Tryz.func11, Tryz.ntmps11
    go_wp2_with fail
    go_ret
    exact ⟨by rw [HC.out, if_pos (.inr (.inr h2))]; rfl, hbx⟩
  have g2 : ¬ (64 : Int) < (e.length : Int) := by omega
  have HN : Hid (res = if cov s e s = false then 101 else if grpF ps = false then 1 else 0) := by
    show _ = _
    rw [HC.out, if_neg (by rintro (q | q | q); exact hid q; exact h1 q; exact h2 q)]
  clear HC
  have hcv : ∀ W, Below w.heap.size w W → Calls Tryz.prog 22 #[.agg #[.int .u64 (id.toNat : Int), .slice sa s.length sc, .slice ea e.length ec, .int .u64 cf, .int .u64 vr, .slice pa ps.length pk], .slice sa s.length sc] W fun x w' => x = .returned (.bool (cov s e s)) ∧ Below W.heap.size W w' := fun W hW => covers_any (HRS.out.1.below hW (Nat.le_refl _)) (HRS.out.2.1.below hW (Nat.le_refl _)) (HRS.out.1.below hW (Nat.le_refl _))
  have hgp : ∀ W, Below w.heap.size w W → Calls Tryz.prog 23 #[.slice pa ps.length pk] W fun x w' => x = .returned (.bool (grpF ps)) ∧ Below W.heap.size W w' := fun W hW => grouped_any (HRS.out.2.2.below hW (Nat.le_refl _))
  have hK : ∀ W, Below (w.heap.size + 1) (w.alloc (.cells #[.int .u64 (id.toNat : Int), .slice sa s.length sc, .slice ea e.length ec, .int .u64 cf, .int .u64 vr, .slice pa ps.length pk] 40)) W → W.cell? ⟨w.heap.size, 5, none⟩ = some (.slice pa ps.length pk) := fun W hW => by
    rw [hW.cell (by simp), World.cell?_alloc_at _ _ _ _ rfl]; rfl
  have hz : (w.alloc (.cells #[.int .u64 (id.toNat : Int), .slice sa s.length sc, .slice ea e.length ec, .int .u64 cf, .int .u64 vr, .slice pa ps.length pk] 40)).heap.size = w.heap.size + 1 := by simp
  generalize cov s e s = cv at *
  generalize grpF ps = gp at *
  have HZ : Hid _ := And.intro hK hz
  clear hK hz
  go_enter Tryz.func11, Tryz.ntmps11
  go_wp2_with fail
  refine (hcv _ hbx).mono ?_
  rintro x w1 ⟨rfl, hb1⟩
  have k5 := HZ.out.1 w1 (by rw [← HZ.out.2]; exact hb1)
  have hB1 : Below w.heap.size w w1 := hbx.trans (hb1.mono hbx.size)
  cases hcq : cv with
  | false =>
    subst hcq
    go_wp2_with fail
    go_ret
    exact ⟨by rw [HN.out]; first | rfl | simp, hB1⟩
  | true =>
    subst hcq
    go_wp2_with fail
    refine (hgp _ hB1).mono ?_
    rintro x w2 ⟨rfl, hb2⟩
    have hB2 : Below w.heap.size w w2 := hB1.trans (hb2.mono hB1.size)
    cases hgq : gp with
    | false =>
      subst hgq
      go_wp2_with fail
      go_ret
      exact ⟨by rw [HN.out]; first | rfl | simp, hB2⟩
    | true =>
      subst hgq
      go_wp2_with fail
      go_ret
      exact ⟨by rw [HN.out]; first | rfl | simp, hB2⟩
end Go.Proofs.YtedfjacmaidhkaaGreat
