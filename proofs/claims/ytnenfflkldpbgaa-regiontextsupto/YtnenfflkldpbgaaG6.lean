/- grouped and Check. -/
import Derived.Test.YtnenfflkldpbgaaG3
import Derived.Deep.RegionHeld3
import Derived.Deep.CutRange
import Derived.Test.YtnenfflkldpbgaaG2
import Derived.Lib.SliceRun
import Derived.Test.YtnenfflkldpbgaaG5
import Derived.Laws.OwnMore
namespace Go.Proofs.Ytnenfflkldpbgaa
open Go.RowKit
set_option linter.unusedVariables false
set_option maxRecDepth 100000

/-- Are the stores from the k-th peer on above 0 and not those of the ones ahead? -/
def stF (ps : List Pe) : Nat → Bool
  | 0 => true
  | k + 1 => stF ps k && (match ps[k]? with | some p => !(onF (ps.take k) p.2.1).isSome && decide (1 ≤ p.2.1) | none => true)
/-- How many vote. -/
def vtF (ps : List Pe) : Nat := (ps.filter (fun p => !p.2.2)).length
/-- Can these be a region's peers? -/
def grpF (ps : List Pe) : Bool := decide (ps.length ≤ 9) && risF 0 (ps.map (·.1)) && stF ps ps.length && decide (0 < vtF ps)
theorem vtF_snoc (l : List Pe) (p : Pe) : vtF (l ++ [p]) = vtF l + (if p.2.2 = true then 0 else 1) := by
  unfold vtF
  rw [List.filter_append, List.length_append]
  obtain ⟨a, b, c⟩ := p
  cases c <;> rfl
theorem stF_false (ps : List Pe) (k : Nat) (h : stF ps k = false) : ∀ n, stF ps (k + n) = false
  | 0 => h
  | n + 1 => by
    show (stF ps (k + n) && _) = false
    rw [stF_false ps k h n]; rfl
theorem stF_len {ps : List Pe} {k : Nat} (hk : k ≤ ps.length) (h : stF ps k = false) : stF ps ps.length = false := by
  have := stF_false ps k h (ps.length - k)
  rwa [Nat.add_sub_of_le hk] at this

set_option maxHeartbeats 2000000 in
theorem grouped_any {v : Value} {ps : List Pe} {w : World} (hr : RdPe w v ps) :
    Calls Try.prog 46 #[v] w fun x w' => x = .returned (.bool (grpF ps)) ∧ Below w.heap.size w w' := by
  have HR : Hid (RdPe w v ps) := hr
  obtain ⟨ao, c, rfl, h1, h2, h3, h4⟩ := hr
  unfold maxLen at h2
  clear h4
  have hgr : grpF ps = (decide (ps.length ≤ 9) && risF 0 (ps.map (·.1)) && stF ps ps.length && decide (0 < vtF ps)) := rfl
  generalize grpF ps = res at *
  have HG : Hid _ := hgr
  clear hgr
  by_cases h9 : 9 < ps.length
  · have g9 : (9 : Int) < (ps.length : Int) := by omega
    go_enter Try.func46, Try.ntmps46
    go_wp2_with fail
    go_ret
    refine ⟨?_, Below.refl _ _⟩
    rw [HG.out, decide_eq_false (show ¬ ps.length ≤ 9 by omega)]; rfl
  have g9 : ¬ (9 : Int) < (ps.length : Int) := by omega
  have hnum := numbers_any HR.out (by omega)
  go_enter Try.func46, Try.ntmps46
  go_wp2_with fail
  refine hnum.mono ?_
  rintro x w1 ⟨v1, rfl, ho1, hb1⟩
  have hri := rises_any ho1.ru
  clear hnum
  by_cases hR : risF 0 (ps.map (·.1)) = true
  · rw [hR] at hri
    have HRI : Hid _ := hR
    clear hR
    go_wp2_with fail
    refine hri.mono ?_
    rintro x w2 ⟨rfl, rfl⟩
    clear hri
    go_wp2_with fail
    go_loopw [3, 4, 5, 6, 7, 19] (fun u _ _ _ _ i wr => ∃ k : Nat, k ≤ ps.length ∧ i = .int .i64 k ∧ u = .int .i64 (vtF (ps.take k) : Int) ∧ Hid (stF ps k = true) ∧ Below w.heap.size w wr) (fun _ _ _ _ _ i _ => ps.length - (intOf i).toNat)
    case atStart => exact ⟨0, Nat.zero_le _, rfl, rfl, rfl, hb1⟩
    case round =>
      obtain ⟨k, hk, rfl, rfl, HS, hb⟩ := hrel
      by_cases hlt : k < ps.length
      · obtain ⟨p, hp⟩ : ∃ p, ps[k]? = some p := ⟨_, List.getElem?_eq_getElem hlt⟩
        obtain ⟨ao', c', e, _, _, _, h4⟩ := HR.out.below hb (Nat.le_refl _)
        simp only [Value.slice.injEq, true_and] at e
        obtain ⟨rfl, rfl⟩ := e
        obtain ⟨a, rfl, c0, c1, c2⟩ := h4 k p hp
        have hst : stF ps (k + 1) = (!(onF (ps.take k) p.2.1).isSome && decide (1 ≤ p.2.1)) := by
          show (stF ps k && _) = _
          rw [HS.out, Bool.true_and, hp]
        have hvt : vtF (ps.take (k + 1)) = vtF (ps.take k) + (if p.2.2 = true then 0 else 1) := by
          have e1 : ps.take (k + 1) = ps.take k ++ [p] := by rw [List.take_add_one, hp]; rfl
          rw [e1, vtF_snoc]
        have hvb : vtF (ps.take k) ≤ 9 := by
          have := List.length_filter_le (fun p : Pe => !p.2.2) (ps.take k)
          have e2 : (ps.take k).length ≤ k := by rw [List.length_take]; omega
          unfold vtF; omega
        have hon : ∀ W, Below w.heap.size w W → Calls Try.prog 45 #[.slice (some a) k c, .int .i64 p.2.1] W fun x w' => ∃ q0 q1 q2, x = .returned (.tuple #[.agg #[.int .u64 q0, .int .i64 q1, .bool q2], .bool (onF (ps.take k) p.2.1).isSome]) ∧ Below W.heap.size W w' := fun W hW =>
          (on_any (RdPe.pre (HR.out.below hW (Nat.le_refl _)) k (by omega))).mono (by
            rintro x w' ⟨rfl, hb'⟩
            exact ⟨_, _, _, rfl, hb'⟩)
        have HV : Hid _ := And.intro hst hvt
        clear hst hvt h4 hp
        generalize (onF (ps.take k) p.2.1).isSome = bt at *
        generalize vtF (ps.take k) = vk at *
        obtain ⟨p0, p1, p2⟩ := p
        simp only [] at c0 c1 c2 hon
        have hW1 : Below w.heap.size w (wr.alloc (.cells #[.int .u64 (p0.toNat : Int), .int .i64 p1, .bool p2] 31)) := hb.alloc hb.size _
        have hK1 : (wr.alloc (.cells #[.int .u64 (p0.toNat : Int), .int .i64 p1, .bool p2] 31)).heap[wr.heap.size]? = some (.cells #[.int .u64 (p0.toNat : Int), .int .i64 p1, .bool p2] 31 (0, 0)) := heap_alloc_new wr _
        have hZ1 : (wr.alloc (.cells #[.int .u64 (p0.toNat : Int), .int .i64 p1, .bool p2] 31)).heap.size > wr.heap.size := by simp
        go_upto_region 7 with fail
        generalize (wr.alloc (.cells #[.int .u64 (p0.toNat : Int), .int .i64 p1, .bool p2] 31)) = W1 at *
        obtain ⟨d0, d1, d2, _⟩ := cells3 hK1
        have hD0 : Below W1.heap.size W1 W1.drew := Below.dN W1 1
        have hDw : Below w.heap.size w W1.drew := hW1.trans (hD0.mono hW1.size)
        have hA0 : Below W1.heap.size W1 (W1.drew.alloc (.cells #[.int .u64 0, .int .i64 0, .bool false] 31)) := hD0.alloc hD0.size _
        have hAw : Below w.heap.size w (W1.drew.alloc (.cells #[.int .u64 0, .int .i64 0, .bool false] 31)) := hW1.trans (hA0.mono hW1.size)
        have HAK : Hid ((W1.drew.alloc (.cells #[.int .u64 0, .int .i64 0, .bool false] 31)).heap[W1.heap.size]? = some (.cells #[.int .u64 0, .int .i64 0, .bool false] 31 (0, 0))) := heap_alloc_new W1.drew _
        have hAz : (W1.drew.alloc (.cells #[.int .u64 0, .int .i64 0, .bool false] 31)).heap.size > W1.heap.size := by rw [World.size_alloc]; exact Nat.lt_succ_self _
        have HKK : Hid (∀ W, Below W1.heap.size W1 W → W.heap[wr.heap.size]? = some (.cells #[.int .u64 (p0.toNat : Int), .int .i64 p1, .bool p2] 31 (0, 0))) := fun W hW => by rw [hW.block _ (by omega)]; exact hK1
        have hgc : (k : Int) ≤ (c : Int) := by omega
        have hne1 : ¬ wr.heap.size = W1.heap.size := by omega
        have hne2 : ¬ W1.heap.size = wr.heap.size := by omega
        go_cut [6, 7] from 20 to 44 (fun _ s wx => s = .bool bt ∧ Below W1.heap.size W1 wx)
        case first =>
          go_region_held3 (fun w' => w'.cell? ⟨wr.heap.size, 1, none⟩ = some (.int .i64 p1)) (go_keep) (first
            | (go_at_call 45; refine (hon _ hDw).mono ?_; rintro x w3 ⟨q0, q1, q2, rfl, hb3⟩; have hb3w : Below W1.heap.size W1 w3 := hD0.trans hb3; obtain ⟨_, s1, _, _⟩ := cells3 (HKK.out _ hb3w))
            | (go_at_call 45; refine (hon _ hAw).mono ?_; rintro x w3 ⟨q0, q1, q2, rfl, hb3⟩; have hb3w : Below W1.heap.size W1 w3 := hA0.trans (hb3.mono hA0.size); obtain ⟨_, s1, _, _⟩ := cells3 (HKK.out _ hb3w); have hg3 := (hb3.block W1.heap.size (by omega)).trans HAK.out; obtain ⟨t0, t1, t2, tz⟩ := cells3 hg3; have tz0 := tz 0; have tz1 := tz 1; have tz2 := tz 2; clear tz)
            | fail)
          · go_wp2_with fail
            go_meet
            exact ⟨rfl, hb3w.alloc hb3w.size _⟩
          · have hch := set3_chg w3 W1.heap.size (.int .u64 q0) (.int .i64 q1) (.bool q2)
            have hbe := hb3w.trans (hch.below (fun b q => by omega) hb3w.size)
            clear hch
            go_wp2_with fail
            go_meet
            exact ⟨rfl, hbe⟩
        case rest =>
          obtain ⟨rfl, hbx⟩ := hcut
          obtain ⟨e0, e1, e2, _⟩ := cells3 (HKK.out _ hbx)
          have hBx : Below w.heap.size w wc := hW1.trans (hbx.mono hW1.size)
          have HNO : Hid (stF ps (k + 1) = false → Ending.returned (.bool false) = Ending.returned (.bool res)) := fun h => by
            rw [HG.out, stF_len (show k + 1 ≤ ps.length by omega) h, Bool.and_false]; rfl
          obtain ⟨hst, hvt⟩ := HV.out
          simp only [] at hst hvt
          clear hon d0 d1 d2 hD0 hDw hA0 hAw hAz
          cases hbt : bt with
          | true =>
            have HST : Hid (stF ps (k + 1) = false) := by rw [hbt] at hst; exact hst
            clear hst hvt hbt
            go_wp2_with fail
            go_ret
            exact ⟨HNO.out HST.out, hBx⟩
          | false =>
            rw [hbt] at hst
            by_cases hp1 : p1 < 1
            · have HST : Hid (stF ps (k + 1) = false) := by show _ = _; rw [hst, decide_eq_false (show ¬ 1 ≤ p1 by omega)]; rfl
              clear hst hvt hbt
              go_wp2_with fail
              go_ret
              exact ⟨HNO.out HST.out, hBx⟩
            · have HST : Hid (stF ps (k + 1) = true) := by show _ = _; rw [hst, decide_eq_true (show 1 ≤ p1 by omega)]; rfl
              clear hst hbt
              cases hp2 : p2 with
              | true =>
                have HVT : Hid (vtF (ps.take (k + 1)) = vk) := by rw [hp2] at hvt; exact hvt
                subst hp2
                clear hvt
                go_wp2_with fail
                exact ⟨⟨k + 1, by omega, by go_num, by rw [HVT.out], HST, hBx⟩, by simp [intOf]; omega⟩
              | false =>
                have HVT : Hid (vtF (ps.take (k + 1)) = vk + 1) := by rw [hp2] at hvt; exact hvt
                subst hp2
                clear hvt
                go_wp2_with fail
                exact ⟨⟨k + 1, by omega, by go_num, by rw [HVT.out]; rfl, HST, hBx⟩, by simp [intOf]; omega⟩
      · obtain rfl : k = ps.length := by omega
        rw [List.take_length]
        go_wp2_with fail
        go_ret
        refine ⟨?_, hb⟩
        have hv : decide ((0 : Int) < (vtF ps : Int)) = decide (0 < vtF ps) := by
          by_cases q : 0 < vtF ps
          · rw [decide_eq_true q, decide_eq_true (by omega)]
          · rw [decide_eq_false q, decide_eq_false (by omega)]
        rw [HG.out, HRI.out, HS.out, decide_eq_true (show ps.length ≤ 9 by omega)]
        simp
  · have hR2 : risF 0 (ps.map (·.1)) = false := by simpa using hR
    rw [hR2] at hri
    have HRI : Hid _ := hR2
    clear hR hR2
    go_wp2_with fail
    refine hri.mono ?_
    rintro x w2 ⟨rfl, rfl⟩
    go_wp2_with fail
    go_ret
    refine ⟨?_, hb1⟩
    rw [HG.out, HRI.out, Bool.and_false]; rfl
end Go.Proofs.Ytnenfflkldpbgaa

/- Check. -/
namespace Go.Proofs.Ytnenfflkldpbgaa
open Go.RowKit
set_option linter.unusedVariables false
set_option maxRecDepth 100000

/-- What Check answers. -/
def chkE (id : UInt64) (s e : List UInt8) (ps : List Pe) : Int := if id = 0 ∨ 64 < s.length ∨ 64 < e.length then 1 else if cov s e s = false then 101 else if grpF ps = false then 1 else 0
set_option maxHeartbeats 1000000 in
theorem check_any {id : UInt64} {cf vr : Int} {sv ev pv : Value} {s e : List UInt8} {ps : List Pe} {w : World} (hs : Rd w sv s) (he : Rd w ev e) (hp : RdPe w pv ps) :
    Calls Try.prog 19 #[.agg #[.int .u64 (id.toNat : Int), sv, ev, .int .u64 cf, .int .u64 vr, pv]] w fun x w' => x = .returned (.int .i64 (chkE id s e ps)) ∧ Below w.heap.size w w' := by
  have HRS : Hid (Rd w sv s ∧ Rd w ev e ∧ RdPe w pv ps) := ⟨hs, he, hp⟩
  obtain ⟨sa, sc, rfl⟩ := hs.shp
  obtain ⟨ea, ec, rfl⟩ := he.shp
  obtain ⟨pa, pk, rfl, _⟩ := hp.shape
  have hsl := hs.len
  have hel := he.len
  unfold maxLen at hsl hel
  have hck : chkE id s e ps = if id = 0 ∨ 64 < s.length ∨ 64 < e.length then 1 else if cov s e s = false then 101 else if grpF ps = false then 1 else 0 := rfl
  generalize chkE id s e ps = res at *
  have HC : Hid _ := hck
  clear hck hs he hp
  have hbx : Below w.heap.size w (w.alloc (.cells #[.int .u64 (id.toNat : Int), .slice sa s.length sc, .slice ea e.length ec, .int .u64 cf, .int .u64 vr, .slice pa ps.length pk] 28)) := g_al w _
  by_cases hid : id = 0
  · subst hid
    go_enter Try.func19, Try.ntmps19
    go_wp2_with fail
    go_ret
    exact ⟨by rw [HC.out]; first | rfl | simp, g_al _ _⟩
  have hid2 : ¬ id.toNat = 0 := fun q => hid (UInt64.toNat_inj.1 q)
  have hid3 : ¬ ((id.toNat : Int) = 0) := by omega
  have hid4 : ((id.toNat : Int) == 0) = false := by simp; omega
  by_cases h1 : 64 < s.length
  · have g1 : (64 : Int) < (s.length : Int) := by omega
    go_enter Try.func19, Try.ntmps19
    go_wp2_with fail
    go_ret
    exact ⟨by rw [HC.out, if_pos (.inr (.inl h1))]; rfl, hbx⟩
  have g1 : ¬ (64 : Int) < (s.length : Int) := by omega
  by_cases h2 : 64 < e.length
  · have g2 : (64 : Int) < (e.length : Int) := by omega
    go_enter Try.func19, Try.ntmps19
    go_wp2_with fail
    go_ret
    exact ⟨by rw [HC.out, if_pos (.inr (.inr h2))]; rfl, hbx⟩
  have g2 : ¬ (64 : Int) < (e.length : Int) := by omega
  have HN : Hid (res = if cov s e s = false then 101 else if grpF ps = false then 1 else 0) := by
    show _ = _
    rw [HC.out, if_neg (by rintro (q | q | q); exact hid q; exact h1 q; exact h2 q)]
  clear HC
  have hcv : ∀ W, Below w.heap.size w W → Calls Try.prog 21 #[.agg #[.int .u64 (id.toNat : Int), .slice sa s.length sc, .slice ea e.length ec, .int .u64 cf, .int .u64 vr, .slice pa ps.length pk], .slice sa s.length sc] W fun x w' => x = .returned (.bool (cov s e s)) ∧ Below W.heap.size W w' := fun W hW => covers_any (HRS.out.1.below hW (Nat.le_refl _)) (HRS.out.2.1.below hW (Nat.le_refl _)) (HRS.out.1.below hW (Nat.le_refl _))
  have hgp : ∀ W, Below w.heap.size w W → Calls Try.prog 46 #[.slice pa ps.length pk] W fun x w' => x = .returned (.bool (grpF ps)) ∧ Below W.heap.size W w' := fun W hW => grouped_any (HRS.out.2.2.below hW (Nat.le_refl _))
  have hK : ∀ W, Below (w.heap.size + 1) (w.alloc (.cells #[.int .u64 (id.toNat : Int), .slice sa s.length sc, .slice ea e.length ec, .int .u64 cf, .int .u64 vr, .slice pa ps.length pk] 28)) W → W.cell? ⟨w.heap.size, 5, none⟩ = some (.slice pa ps.length pk) := fun W hW => by
    rw [hW.cell (by simp), World.cell?_alloc_at _ _ _ _ rfl]; rfl
  have hz : (w.alloc (.cells #[.int .u64 (id.toNat : Int), .slice sa s.length sc, .slice ea e.length ec, .int .u64 cf, .int .u64 vr, .slice pa ps.length pk] 28)).heap.size = w.heap.size + 1 := by simp
  generalize cov s e s = cv at *
  generalize grpF ps = gp at *
  have HZ : Hid _ := And.intro hK hz
  clear hK hz
  go_enter Try.func19, Try.ntmps19
  go_wp2_with fail
  refine (hcv _ hbx).mono ?_
  rintro x w1 ⟨rfl, hb1⟩
  have k5 := HZ.out.1 w1 (by rw [← HZ.out.2]; exact hb1)
  have hB1 : Below w.heap.size w w1 := hbx.trans (hb1.mono hbx.size)
  cases hcq : cv with
  | false =>
    subst hcq
    go_wp2_with fail
    go_ret
    exact ⟨by rw [HN.out]; first | rfl | simp, hB1⟩
  | true =>
    subst hcq
    go_wp2_with fail
    refine (hgp _ hB1).mono ?_
    rintro x w2 ⟨rfl, hb2⟩
    have hB2 : Below w.heap.size w w2 := hB1.trans (hb2.mono hB1.size)
    cases hgq : gp with
    | false =>
      subst hgq
      go_wp2_with fail
      go_ret
      exact ⟨by rw [HN.out]; first | rfl | simp, hB2⟩
    | true =>
      subst hgq
      go_wp2_with fail
      go_ret
      exact ⟨by rw [HN.out]; first | rfl | simp, hB2⟩
end Go.Proofs.Ytnenfflkldpbgaa

/- checkSplit. -/
namespace Go.Proofs.Ytnenfflkldpbgaa
open Go.RowKit
set_option linter.unusedVariables false
set_option maxRecDepth 100000

/-- What bars a split of a region that is one, at a key that it covers. -/
abbrev cspB (id nid vr : UInt64) (k : List UInt8) (ps : List Pe) (L : List UInt64) : Prop := 64 < k.length ∨ nid = 0 ∨ nid = id ∨ L.length ≠ ps.length ∨ risF 0 L = false ∨ vr.toNat = 18446744073709551615
/-- What checkSplit answers. -/
def cspE (id nid vr : UInt64) (s e k : List UInt8) (ps : List Pe) (L : List UInt64) : Int := if chkE id s e ps ≠ 0 then chkE id s e ps else if cov s e k = false then 101 else if k = s then 101 else if cspB id nid vr k ps L then 1 else 0

theorem box6 {w W : World} {u0 u1 u2 u3 u4 u5 : Value} {t : TypeId} (hb : Below (w.alloc (.cells #[u0, u1, u2, u3, u4, u5] t)).heap.size (w.alloc (.cells #[u0, u1, u2, u3, u4, u5] t)) W) : W.heap[w.heap.size]? = some (.cells #[u0, u1, u2, u3, u4, u5] t (0, 0)) := by
  rw [hb.block _ (by simp)]; exact heap_alloc_new w _

set_option maxHeartbeats 2000000 in
theorem checkSplit_any {id nid vr : UInt64} {cf : Int} {sv ev pv kv lv : Value} {s e k : List UInt8} {ps : List Pe} {L : List UInt64} {w : World} (hs : Rd w sv s) (he : Rd w ev e) (hp : RdPe w pv ps) (hk : Rd w kv k) (hL : Ru w lv L) :
    Calls Try.prog 60 #[.agg #[.int .u64 (id.toNat : Int), sv, ev, .int .u64 cf, .int .u64 (vr.toNat : Int), pv], kv, .int .u64 (nid.toNat : Int), lv] w fun x w' => x = .returned (.int .i64 (cspE id nid vr s e k ps L)) ∧ Below w.heap.size w w' := by
  have HRS : Hid (Rd w sv s ∧ Rd w ev e ∧ RdPe w pv ps ∧ Rd w kv k ∧ Ru w lv L) := ⟨hs, he, hp, hk, hL⟩
  obtain ⟨sa, sc, rfl⟩ := hs.shp
  obtain ⟨ea, ec, rfl⟩ := he.shp
  obtain ⟨ka, kc, rfl⟩ := hk.shp
  obtain ⟨pa, pk, rfl, _⟩ := hp.shape
  obtain ⟨la, lc, rfl⟩ := hL.shape
  have hkl := hk.len
  have hll := hL.len
  have hpl : ps.length ≤ 9223372036854775807 := by obtain ⟨_, _, _, q1, q2⟩ := hp.shape; omega
  unfold maxLen at hkl hll
  have hck : cspE id nid vr s e k ps L = if chkE id s e ps ≠ 0 then chkE id s e ps else if cov s e k = false then 101 else if k = s then 101 else if cspB id nid vr k ps L then 1 else 0 := rfl
  generalize cspE id nid vr s e k ps L = res at *
  have HC : Hid _ := hck
  clear hck hs he hp hk hL
  have hbx : Below w.heap.size w (w.alloc (.cells #[.int .u64 (id.toNat : Int), .slice sa s.length sc, .slice ea e.length ec, .int .u64 cf, .int .u64 (vr.toNat : Int), .slice pa ps.length pk] 28)) := g_al w _
  have HK : Hid (∀ W, Below (w.alloc (.cells #[.int .u64 (id.toNat : Int), .slice sa s.length sc, .slice ea e.length ec, .int .u64 cf, .int .u64 (vr.toNat : Int), .slice pa ps.length pk] 28)).heap.size (w.alloc (.cells #[.int .u64 (id.toNat : Int), .slice sa s.length sc, .slice ea e.length ec, .int .u64 cf, .int .u64 (vr.toNat : Int), .slice pa ps.length pk] 28)) W → W.heap[w.heap.size]? = some (.cells #[.int .u64 (id.toNat : Int), .slice sa s.length sc, .slice ea e.length ec, .int .u64 cf, .int .u64 (vr.toNat : Int), .slice pa ps.length pk] 28 (0, 0))) := fun W hW => box6 hW
  have hchk : ∀ W, Below w.heap.size w W → Calls Try.prog 19 #[.agg #[.int .u64 (id.toNat : Int), .slice sa s.length sc, .slice ea e.length ec, .int .u64 cf, .int .u64 (vr.toNat : Int), .slice pa ps.length pk]] W fun x w' => x = .returned (.int .i64 (chkE id s e ps)) ∧ Below W.heap.size W w' := fun W hW => check_any (HRS.out.1.below hW (Nat.le_refl _)) (HRS.out.2.1.below hW (Nat.le_refl _)) (HRS.out.2.2.1.below hW (Nat.le_refl _))
  have hcv : ∀ W, Below w.heap.size w W → Calls Try.prog 21 #[.agg #[.int .u64 (id.toNat : Int), .slice sa s.length sc, .slice ea e.length ec, .int .u64 cf, .int .u64 (vr.toNat : Int), .slice pa ps.length pk], .slice ka k.length kc] W fun x w' => x = .returned (.bool (cov s e k)) ∧ Below W.heap.size W w' := fun W hW => covers_any (HRS.out.1.below hW (Nat.le_refl _)) (HRS.out.2.1.below hW (Nat.le_refl _)) (HRS.out.2.2.2.1.below hW (Nat.le_refl _))
  have heq : ∀ W, Below w.heap.size w W → Calls Try.prog 68 #[.slice ka k.length kc, .slice sa s.length sc] W fun x w' => x = .returned (.bool (decide (k = s))) ∧ w' = W := fun W hW => bequal_any (HRS.out.2.2.2.1.below hW (Nat.le_refl _)) (HRS.out.1.below hW (Nat.le_refl _))
  have hri : ∀ W, Below w.heap.size w W → Calls Try.prog 74 #[.slice la L.length lc] W fun x w' => x = .returned (.bool (risF 0 L)) ∧ w' = W := fun W hW => rises_any (HRS.out.2.2.2.2.below hW (Nat.le_refl _))
  have hgr : ∀ W, Calls Try.prog 80 #[.int .u64 (vr.toNat : Int)] W fun x w' => x = .returned (.bool (decide (vr.toNat = 18446744073709551615))) ∧ w' = W := fun W => greatest_any vr W
  generalize hcE : chkE id s e ps = ce at *
  generalize hcV : cov s e k = cv at *
  have H0 : Hid _ := And.intro hcE hcV
  clear hcE hcV
  go_enter Try.func60, Try.ntmps60
  go_wp2_with fail
  refine (hchk _ hbx).mono ?_
  rintro x w1 ⟨rfl, hb1⟩
  have hB1 : Below w.heap.size w w1 := hbx.trans (hb1.mono hbx.size)
  obtain ⟨c0, c1, c2, c3, c4, c5, _⟩ := cells6 (HK.out w1 hb1)
  by_cases hce : ce = 0
  · subst hce
    go_wp2_with fail
    refine (hcv _ hB1).mono ?_
    rintro x w2 ⟨rfl, hb2⟩
    have hb12 := hb1.trans (hb2.mono hb1.size)
    have hB2 : Below w.heap.size w w2 := hB1.trans (hb2.mono hB1.size)
    obtain ⟨d0, d1, d2, d3, d4, d5, _⟩ := cells6 (HK.out w2 hb12)
    clear c0 c1 c2 c3 c4 c5
    cases hcq : cv with
    | false =>
      subst hcq
      go_wp2_with fail
      go_ret
      exact ⟨by rw [HC.out]; first | rfl | simp, hB2⟩
    | true =>
      subst hcq
      have heq2 := heq _ hB2
      by_cases hks : k = s
      · rw [decide_eq_true hks] at heq2
        have HKS : Hid _ := hks
        clear hks
        go_wp2_with fail
        refine heq2.mono ?_
        rintro x w3 ⟨rfl, rfl⟩
        go_wp2_with fail
        go_ret
        exact ⟨by rw [HC.out, if_neg (by simp), if_neg (by simp), if_pos HKS.out]; rfl, hB2⟩
      · rw [decide_eq_false hks] at heq2
        have HN : Hid (res = if cspB id nid vr k ps L then 1 else 0) := by
          show _ = _
          rw [HC.out, if_neg (by simp), if_neg (by simp), if_neg hks]
        clear hks HC heq hcv hchk
        go_wp2_with fail
        refine heq2.mono ?_
        rintro x w3 ⟨rfl, rfl⟩
        clear heq2
        by_cases h1 : 64 < k.length
        · have g1 : (64 : Int) < (k.length : Int) := by omega
          have HB : Hid (cspB id nid vr k ps L) := .inl h1
          clear h1
          go_wp2_with fail
          go_ret
          exact ⟨by rw [HN.out, if_pos HB.out]; rfl, hB2⟩
        have g1 : ¬ (64 : Int) < (k.length : Int) := by omega
        by_cases h2 : nid = 0
        · have HB : Hid (cspB id nid vr k ps L) := .inr (.inl h2)
          have g2 : ((nid.toNat : Int) == 0) = true := by rw [h2]; rfl
          have g3 : (nid.toNat : Int) = 0 := by rw [h2]; rfl
          clear h2
          go_wp2_with fail
          go_ret
          exact ⟨by rw [HN.out, if_pos HB.out]; rfl, hB2⟩
        have hz2 : ¬ nid.toNat = 0 := fun q => h2 (UInt64.toNat_inj.1 q)
        have g2 : ((nid.toNat : Int) == 0) = false := by simp; omega
        have g2' : ¬ (nid.toNat : Int) = 0 := by omega
        by_cases h3 : nid = id
        · have HB : Hid (cspB id nid vr k ps L) := .inr (.inr (.inl h3))
          subst h3
          go_wp2_with fail
          go_ret
          exact ⟨by rw [HN.out, if_pos HB.out]; rfl, hB2⟩
        have hz3 : ¬ nid.toNat = id.toNat := fun q => h3 (UInt64.toNat_inj.1 q)
        have g3 : ((nid.toNat : Int) == (id.toNat : Int)) = false := by simp; omega
        have g3' : ¬ (nid.toNat : Int) = (id.toNat : Int) := by omega
        by_cases h4 : L.length = ps.length
        · have HLP : Hid _ := h4
          have g4 : ((L.length : Int) != (ps.length : Int)) = false := by simp; omega
          have hri2 := hri _ hB2
          clear hri
          by_cases h5 : risF 0 L = true
          · rw [h5] at hri2
            have HR5 : Hid _ := h5
            clear h5 h4
            go_wp2_with fail
            refine hri2.mono ?_
            rintro x w4 ⟨rfl, rfl⟩
            have hgr2 := hgr w4
            by_cases h6 : vr.toNat = 18446744073709551615
            · have HB : Hid (cspB id nid vr k ps L) := .inr (.inr (.inr (.inr (.inr h6))))
              rw [decide_eq_true h6] at hgr2
              clear h6
              go_wp2_with fail
              refine hgr2.mono ?_
              rintro x w5 ⟨rfl, rfl⟩
              go_wp2_with fail
              go_ret
              exact ⟨by rw [HN.out, if_pos HB.out]; rfl, hB2⟩
            · have HB : Hid (¬ cspB id nid vr k ps L) := by
                rintro (q | q | q | q | q | q)
                · omega
                · exact h2 q
                · exact h3 q
                · exact q HLP.out
                · rw [HR5.out] at q; cases q
                · exact h6 q
              rw [decide_eq_false h6] at hgr2
              clear h6
              go_wp2_with fail
              refine hgr2.mono ?_
              rintro x w5 ⟨rfl, rfl⟩
              go_wp2_with fail
              go_ret
              exact ⟨by rw [HN.out, if_neg HB.out]; rfl, hB2⟩
          · have h5' : risF 0 L = false := by simpa using h5
            have HB : Hid (cspB id nid vr k ps L) := .inr (.inr (.inr (.inr (.inl h5'))))
            rw [h5'] at hri2
            clear h5 h5' h4
            go_wp2_with fail
            refine hri2.mono ?_
            rintro x w4 ⟨rfl, rfl⟩
            go_wp2_with fail
            go_ret
            exact ⟨by rw [HN.out, if_pos HB.out]; rfl, hB2⟩
        · have HB : Hid (cspB id nid vr k ps L) := .inr (.inr (.inr (.inl h4)))
          have g4 : ((L.length : Int) != (ps.length : Int)) = true := by simp; omega
          have g4' : ¬ (L.length : Int) = (ps.length : Int) := by omega
          go_wp2_with fail
          go_ret
          exact ⟨by rw [HN.out, if_pos HB.out]; rfl, hB2⟩
  · have g0 : (ce != 0) = true := by simp [hce]
    have HN : Hid (res = ce) := by show _ = _; rw [HC.out, if_pos hce]
    go_wp2_with fail
    go_ret
    exact ⟨by rw [HN.out]; rfl, hB1⟩
end Go.Proofs.Ytnenfflkldpbgaa

/- clone: a region in new memory. -/
namespace Go.Proofs.Ytnenfflkldpbgaa
open Go.RowKit
set_option linter.unusedVariables false
set_option maxRecDepth 100000

theorem OwPe.lit0 (B : Nat) (w : World) (hB : B ≤ w.heap.size) : OwPe B (w.alloc (.cells #[] 31)) (.slice (some ⟨w.heap.size, 0, none⟩) 0 0) [] := World.ownsRow_made w #[] 0 hB (by simp) rfl
theorem OwPe.mono {B B' : Nat} {w : World} {v : Value} {ps : List Pe} (h : OwPe B w v ps) (hB : B' ≤ B) : OwPe B' w v ps := by
  obtain ⟨h1, h2⟩ := h
  refine ⟨h1, ?_⟩
  rcases h2 with h2 | ⟨g, cap, cur, hv, hg, r⟩
  · exact .inl h2
  · exact .inr ⟨g, cap, cur, hv, by omega, r⟩
theorem cloneP_any {v : Value} {ps : List Pe} {w : World} (hr : RdPe w v ps) (hl : ps.length ≤ 1099511627776) :
    Calls Try.prog 81 #[v] w fun e w' => ∃ v', e = .returned v' ∧ OwPe w.heap.size w' v' ps ∧ Below w.heap.size w w' := by
  have q : ∀ (w : World) (a : Option Addr) (n c n' c' : Nat), (binOp .eql 26 (.slice a n c) (.slice none n' c')).run Try.prog w = .ok (.bool a.isNone) w := fun w a n c n' c' => Lib.run_eql_slice_nil w _ _ a n c n' c' Try.underlying26
  have hr' := hr
  obtain ⟨ao, c, rfl, h1, h2, h3, h4⟩ := hr
  cases ao with
  | none =>
    have hc := h3 rfl
    have hl0 : ps = [] := List.length_eq_zero_iff.1 (by omega)
    subst hl0; subst hc
    go_enter Try.func81, Try.ntmps81
    go_wp2
    go_ret
    exact ⟨_, rfl, OwPe.nil _ _, Below.refl _ _⟩
  | some a =>
    clear h4 h3
    go_enter Try.func81, Try.ntmps81
    go_wp2_with (first | (at_builtin; refine wpList_appPe rfl _ _ rfl w.heap.size _ [] rfl (OwPe.lit0 _ _ (Nat.le_refl _)) _ ps rfl (hr'.below (g_al _ _) (Nat.le_refl _)) (by simp) (by simp; omega) ?_; intro v' w' ho' hg' hw') | fail)
    go_ret
    exact ⟨_, rfl, ho', (g_al w _).trans ((Below.refl _ _).grown hg' (by simp) (fun k hk => Nat.le_of_eq (Option.some.inj hk)))⟩
/-- A region's lists are in memory of their own, apart. -/
structure OwR (B : Nat) (w : World) (sv ev pv : Value) (s e : List UInt8) (ps : List Pe) : Prop where
  s : Ow B w sv s
  e : Ow B w ev e
  p : OwPe B w pv ps
  se : ∀ b, sv.ownBlock = some b → ev.ownBlock ≠ some b
  sp : ∀ b, sv.ownBlock = some b → pv.ownBlock ≠ some b
  ep : ∀ b, ev.ownBlock = some b → pv.ownBlock ≠ some b
theorem OwR.below {B C : Nat} {w w' : World} {sv ev pv : Value} {s e : List UInt8} {ps : List Pe} (h : OwR B w sv ev pv s e ps) (hb : Below C w w') (hC : w.heap.size ≤ C) : OwR B w' sv ev pv s e ps := ⟨h.s.below hb hC, h.e.below hb hC, h.p.below hb hC, h.se, h.sp, h.ep⟩
end Go.Proofs.Ytnenfflkldpbgaa

/- clone. -/
namespace Go.Proofs.Ytnenfflkldpbgaa
open Go.RowKit
set_option linter.unusedVariables false
set_option maxRecDepth 100000

theorem OwPe.keptC {S : Nat → Prop} {w w' : World} {B : Nat} {v : Value} {l : List Pe} (h : OwPe B w v l) (hg : Chg S w w') (hne : ∀ b, v.ownBlock = some b → ¬ S b) : OwPe B w' v l := ownsRow_keptC h hg hne
theorem OwPe.shape {B : Nat} {w : World} {v : Value} {l : List Pe} (h : OwPe B w v l) : ∃ a c, v = .slice a l.length c := by
  obtain ⟨a, c, e, _⟩ := h.rd; exact ⟨a, c, e⟩
theorem OwPe.lt {B : Nat} {w : World} {v : Value} {l : List Pe} (h : OwPe B w v l) : ∀ b, v.ownBlock = some b → B ≤ b ∧ b < w.heap.size := fun b e => World.ownsRow.lt h b e
theorem Ow.lt0 {B : Nat} {w : World} {v : Value} {l : List UInt8} (h : Ow B w v l) : ∀ b, v.ownBlock = some b → B ≤ b ∧ b < w.heap.size := fun b e => World.ownsRow.lt h b e
theorem Ow.shp {B : Nat} {w : World} {v : Value} {l : List UInt8} (h : Ow B w v l) : ∃ a c, v = .slice a l.length c := h.rd.shp
theorem OwR.keptC {S : Nat → Prop} {B : Nat} {w w' : World} {sv ev pv : Value} {s e : List UInt8} {ps : List Pe} (h : OwR B w sv ev pv s e ps) (hg : Chg S w w') (hne : ∀ b, B ≤ b → ¬ S b) : OwR B w' sv ev pv s e ps :=
  ⟨h.s.keptC hg (fun b q => hne b (h.s.lt0 b q).1), h.e.keptC hg (fun b q => hne b (h.e.lt0 b q).1), h.p.keptC hg (fun b q => hne b (h.p.lt b q).1), h.se, h.sp, h.ep⟩
theorem OwR.mono {B B' : Nat} {w : World} {sv ev pv : Value} {s e : List UInt8} {ps : List Pe} (h : OwR B w sv ev pv s e ps) (hB : B' ≤ B) : OwR B' w sv ev pv s e ps := ⟨h.s.mono hB, h.e.mono hB, h.p.mono hB, h.se, h.sp, h.ep⟩
theorem put1_block {w : World} {g i : Nat} {cs : Array Value} {t : TypeId} (h : w.heap[g]? = some (.cells cs t (0, 0))) (u : Value) : (w.setCell ⟨g, i, none⟩ u).heap[g]? = some (.cells (cs.setIfInBounds i u) t (0, 0)) := heap_setCell_same w g i _ _ u h
theorem put1_chg (w : World) (g i : Nat) (u : Value) : Chg (fun b => b = g) w (w.setCell ⟨g, i, none⟩ u) := (Chg.refl (fun b => b = g) w).put g i u rfl

set_option maxHeartbeats 2000000 in
theorem clone_rg {id cf vr : Int} {sv ev pv : Value} {s e : List UInt8} {ps : List Pe} {w : World} (hs : Rd w sv s) (he : Rd w ev e) (hp : RdPe w pv ps) (hsl : s.length ≤ 140737488355328) (hel : e.length ≤ 140737488355328) (hpl : ps.length ≤ 1099511627776) :
    Calls Try.prog 61 #[.agg #[.int .u64 id, sv, ev, .int .u64 cf, .int .u64 vr, pv]] w fun x w' => ∃ sv' ev' pv', x = .returned (.agg #[.int .u64 id, sv', ev', .int .u64 cf, .int .u64 vr, pv']) ∧ OwR w.heap.size w' sv' ev' pv' s e ps ∧ Below w.heap.size w w' := by
  have HRS : Hid (Rd w sv s ∧ Rd w ev e ∧ RdPe w pv ps) := ⟨hs, he, hp⟩
  obtain ⟨sa, sc, rfl⟩ := hs.shp
  obtain ⟨ea, ec, rfl⟩ := he.shp
  obtain ⟨pa, pk, rfl, _⟩ := hp.shape
  clear hs he hp
  obtain ⟨g, hg⟩ : ∃ g, g = w.heap.size := ⟨_, rfl⟩
  have hB0 : Below w.heap.size w ((w.alloc (.cells #[.int .u64 id, .slice sa s.length sc, .slice ea e.length ec, .int .u64 cf, .int .u64 vr, .slice pa ps.length pk] 28)).alloc (.cells #[.int .u64 0, .slice none 0 0, .slice none 0 0, .int .u64 0, .int .u64 0, .slice none 0 0] 28)) := (g_al w _).alloc (by simp) _
  have hk0 : ((w.alloc (.cells #[.int .u64 id, .slice sa s.length sc, .slice ea e.length ec, .int .u64 cf, .int .u64 vr, .slice pa ps.length pk] 28)).alloc (.cells #[.int .u64 0, .slice none 0 0, .slice none 0 0, .int .u64 0, .int .u64 0, .slice none 0 0] 28)).heap[w.heap.size]? = some (.cells #[.int .u64 id, .slice sa s.length sc, .slice ea e.length ec, .int .u64 cf, .int .u64 vr, .slice pa ps.length pk] 28 (0, 0)) := by
    rw [Below.heap_alloc _ _ _ (by simp)]; exact heap_alloc_new w _
  have hr0 : ((w.alloc (.cells #[.int .u64 id, .slice sa s.length sc, .slice ea e.length ec, .int .u64 cf, .int .u64 vr, .slice pa ps.length pk] 28)).alloc (.cells #[.int .u64 0, .slice none 0 0, .slice none 0 0, .int .u64 0, .int .u64 0, .slice none 0 0] 28)).heap[w.heap.size + 1]? = some (.cells #[.int .u64 0, .slice none 0 0, .slice none 0 0, .int .u64 0, .int .u64 0, .slice none 0 0] 28 (0, 0)) := by
    have := heap_alloc_new (w.alloc (.cells #[.int .u64 id, .slice sa s.length sc, .slice ea e.length ec, .int .u64 cf, .int .u64 vr, .slice pa ps.length pk] 28)) (.cells #[.int .u64 0, .slice none 0 0, .slice none 0 0, .int .u64 0, .int .u64 0, .slice none 0 0] 28)
    rw [World.size_alloc] at this
    exact this
  have hz0 : ((w.alloc (.cells #[.int .u64 id, .slice sa s.length sc, .slice ea e.length ec, .int .u64 cf, .int .u64 vr, .slice pa ps.length pk] 28)).alloc (.cells #[.int .u64 0, .slice none 0 0, .slice none 0 0, .int .u64 0, .int .u64 0, .slice none 0 0] 28)).heap.size > w.heap.size + 1 := by simp
  go_enter Try.func61, Try.ntmps61
  go_wp2_with fail
  generalize ((w.alloc (.cells #[.int .u64 id, .slice sa s.length sc, .slice ea e.length ec, .int .u64 cf, .int .u64 vr, .slice pa ps.length pk] 28)).alloc (.cells #[.int .u64 0, .slice none 0 0, .slice none 0 0, .int .u64 0, .int .u64 0, .slice none 0 0] 28)) = W0 at *
  refine (clone_any (HRS.out.1.below hB0 (Nat.le_refl _)) hsl).mono ?_
  rintro x w1 ⟨v1, rfl, o1, b1⟩
  have hs1 := b1.size
  have hk1 : w1.heap[w.heap.size]? = _ := (b1.block _ (by omega)).trans hk0
  have hr1 : w1.heap[w.heap.size + 1]? = _ := (b1.block _ (by omega)).trans hr0
  have hB1 : Below w.heap.size w w1 := hB0.trans (b1.mono hB0.size)
  obtain ⟨a1, d1, rfl⟩ := o1.shp
  obtain ⟨c0, c1, c2, c3, c4, c5, cz⟩ := cells6 hk1
  have z1 := cz 1
  have ch1 := put1_chg w1 w.heap.size 1 (.slice a1 s.length d1)
  have hq1 : (w1.setCell ⟨w.heap.size, 1, none⟩ (.slice a1 s.length d1)).heap[w.heap.size]? = some (.cells #[.int .u64 id, .slice a1 s.length d1, .slice ea e.length ec, .int .u64 cf, .int .u64 vr, .slice pa ps.length pk] 28 (0, 0)) := put1_block hk1 _
  have hp1 : (w1.setCell ⟨w.heap.size, 1, none⟩ (.slice a1 s.length d1)).heap[w.heap.size + 1]? = _ := (ch1.block _ (by omega) (by omega)).trans hr1
  have hC1 : Below w.heap.size w (w1.setCell ⟨w.heap.size, 1, none⟩ (.slice a1 s.length d1)) := hB1.trans (ch1.below (fun b q => by omega) hB1.size)
  have oo1 : Ow W0.heap.size (w1.setCell ⟨w.heap.size, 1, none⟩ (.slice a1 s.length d1)) (.slice a1 s.length d1) s := o1.keptC ch1 (fun b q1 q2 => by have := (o1.lt0 b q1).1; omega)
  have hss1 : w1.heap.size ≤ (w1.setCell ⟨w.heap.size, 1, none⟩ (.slice a1 s.length d1)).heap.size := ch1.size
  have HX1 : Hid _ := And.intro hk1 (And.intro hr1 hB1)
  clear cz hk0 hr0 hk1 hr1 ch1 o1 hB1
  go_wp2_with fail
  generalize (w1.setCell ⟨w.heap.size, 1, none⟩ (.slice a1 s.length d1)) = W1 at *
  clear c0 c1 c2 c3 c4 c5 z1
  refine (clone_any (HRS.out.2.1.below hC1 (Nat.le_refl _)) hel).mono ?_
  rintro x w2 ⟨v2, rfl, o2, b2⟩
  have hs2 := b2.size
  have hk2 : w2.heap[w.heap.size]? = _ := (b2.block _ (by omega)).trans hq1
  have hr2 : w2.heap[w.heap.size + 1]? = _ := (b2.block _ (by omega)).trans hp1
  have hB2 : Below w.heap.size w w2 := hC1.trans (b2.mono hC1.size)
  obtain ⟨a2, d2, rfl⟩ := o2.shp
  obtain ⟨c0, c1, c2, c3, c4, c5, cz⟩ := cells6 hk2
  have z2 := cz 2
  have ch2 := put1_chg w2 w.heap.size 2 (.slice a2 e.length d2)
  have hq2 : (w2.setCell ⟨w.heap.size, 2, none⟩ (.slice a2 e.length d2)).heap[w.heap.size]? = some (.cells #[.int .u64 id, .slice a1 s.length d1, .slice a2 e.length d2, .int .u64 cf, .int .u64 vr, .slice pa ps.length pk] 28 (0, 0)) := put1_block hk2 _
  have hp2 : (w2.setCell ⟨w.heap.size, 2, none⟩ (.slice a2 e.length d2)).heap[w.heap.size + 1]? = _ := (ch2.block _ (by omega) (by omega)).trans hr2
  have hC2 : Below w.heap.size w (w2.setCell ⟨w.heap.size, 2, none⟩ (.slice a2 e.length d2)) := hB2.trans (ch2.below (fun b q => by omega) hB2.size)
  have oo1' : Ow W0.heap.size (w2.setCell ⟨w.heap.size, 2, none⟩ (.slice a2 e.length d2)) (.slice a1 s.length d1) s := (oo1.below b2 (Nat.le_refl _)).keptC ch2 (fun b q1 q2 => by have := (oo1.lt0 b q1).1; omega)
  have oo2 : Ow W1.heap.size (w2.setCell ⟨w.heap.size, 2, none⟩ (.slice a2 e.length d2)) (.slice a2 e.length d2) e := o2.keptC ch2 (fun b q1 q2 => by have := (o2.lt0 b q1).1; omega)
  have hss2 : w2.heap.size ≤ (w2.setCell ⟨w.heap.size, 2, none⟩ (.slice a2 e.length d2)).heap.size := ch2.size
  have HAP : Hid (∀ b, (Value.slice a1 s.length d1).ownBlock = some b → b < W1.heap.size) := fun b q => (oo1.lt0 b q).2
  clear cz hk2 hr2 ch2 o2 hB2 hq1 hp1 hC1 oo1
  go_wp2_with fail
  generalize (w2.setCell ⟨w.heap.size, 2, none⟩ (.slice a2 e.length d2)) = W2 at *
  clear c0 c1 c2 c3 c4 c5 z2
  refine (cloneP_any (HRS.out.2.2.below hC2 (Nat.le_refl _)) hpl).mono ?_
  rintro x w3 ⟨v3, rfl, o3, b3⟩
  have hs3 := b3.size
  have hk3 : w3.heap[w.heap.size]? = _ := (b3.block _ (by omega)).trans hq2
  have hr3 : w3.heap[w.heap.size + 1]? = _ := (b3.block _ (by omega)).trans hp2
  have hB3 : Below w.heap.size w w3 := hC2.trans (b3.mono hC2.size)
  obtain ⟨a3, d3, rfl⟩ := o3.shape
  obtain ⟨c0, c1, c2, c3, c4, c5, cz⟩ := cells6 hk3
  have z5 := cz 5
  have ch3 := put1_chg w3 w.heap.size 5 (.slice a3 ps.length d3)
  have hq3 : (w3.setCell ⟨w.heap.size, 5, none⟩ (.slice a3 ps.length d3)).heap[w.heap.size]? = some (.cells #[.int .u64 id, .slice a1 s.length d1, .slice a2 e.length d2, .int .u64 cf, .int .u64 vr, .slice a3 ps.length d3] 28 (0, 0)) := put1_block hk3 _
  have hp3 : (w3.setCell ⟨w.heap.size, 5, none⟩ (.slice a3 ps.length d3)).heap[w.heap.size + 1]? = _ := (ch3.block _ (by omega) (by omega)).trans hr3
  have hC3 : Below w.heap.size w (w3.setCell ⟨w.heap.size, 5, none⟩ (.slice a3 ps.length d3)) := hB3.trans (ch3.below (fun b q => by omega) hB3.size)
  have hss3 : w3.heap.size ≤ (w3.setCell ⟨w.heap.size, 5, none⟩ (.slice a3 ps.length d3)).heap.size := ch3.size
  have hOR : OwR W0.heap.size (w3.setCell ⟨w.heap.size, 5, none⟩ (.slice a3 ps.length d3)) (.slice a1 s.length d1) (.slice a2 e.length d2) (.slice a3 ps.length d3) s e ps :=
    ⟨((oo1'.below b3 (Nat.le_refl _)).keptC ch3 (fun b q1 q2 => by have := (oo1'.lt0 b q1).1; omega)).mono (Nat.le_refl _),
     ((oo2.below b3 (Nat.le_refl _)).keptC ch3 (fun b q1 q2 => by have := (oo2.lt0 b q1).1; omega)).mono (by omega),
     (o3.keptC ch3 (fun b q1 q2 => by have := (o3.lt b q1).1; omega)).mono (by omega),
     fun b q1 q2 => by have := HAP.out b q1; have := (oo2.lt0 b q2).1; omega,
     fun b q1 q2 => by have := (oo1'.lt0 b q1).2; have := (o3.lt b q2).1; omega,
     fun b q1 q2 => by have := (oo2.lt0 b q1).2; have := (o3.lt b q2).1; omega⟩
  obtain ⟨e0, e1, e2, e3, e4, e5, ez⟩ := cells6 hq3
  obtain ⟨f0, f1, f2, f3, f4, f5, fz⟩ := cells6 hp3
  have fz0 := fz 0
  have fz1 := fz 1
  have fz2 := fz 2
  have fz3 := fz 3
  have fz4 := fz 4
  have fz5 := fz 5
  have HOR : Hid _ := hOR
  have HPC : Hid _ := And.intro hp3 hC3
  have hlg : w.heap.size + 1 < (w3.setCell ⟨w.heap.size, 5, none⟩ (.slice a3 ps.length d3)).heap.size := by omega
  clear cz hk3 hr3 ch3 o3 hB3 hq2 hp2 hC2 oo1' oo2 hOR hp3 hC3 hq3 ez fz HAP
  go_upto_region 4 with fail
  have HDD : Hid _ := And.intro c0 (And.intro c1 (And.intro c2 (And.intro c3 (And.intro c4 (And.intro c5 z5)))))
  clear c0 c1 c2 c3 c4 c5 z5
  generalize (w3.setCell ⟨w.heap.size, 5, none⟩ (.slice a3 ps.length d3)) = W3 at *
  have HZ : Hid _ := And.intro (cells6 (set6_block HPC.out.1 (.int .u64 id) (.slice a1 s.length d1) (.slice a2 e.length d2) (.int .u64 cf) (.int .u64 vr) (.slice a3 ps.length d3))) (set6_chg W3 (w.heap.size + 1) (.int .u64 id) (.slice a1 s.length d1) (.slice a2 e.length d2) (.int .u64 cf) (.int .u64 vr) (.slice a3 ps.length d3))
  go_wp2_with fail
  obtain ⟨⟨k0, k1, k2, k3, k4, k5, _⟩, hch⟩ := HZ.out
  generalize ((((((W3.setCell ⟨w.heap.size + 1, 0, none⟩ (.int .u64 id)).setCell ⟨w.heap.size + 1, 1, none⟩ (.slice a1 s.length d1)).setCell ⟨w.heap.size + 1, 2, none⟩ (.slice a2 e.length d2)).setCell ⟨w.heap.size + 1, 3, none⟩ (.int .u64 cf)).setCell ⟨w.heap.size + 1, 4, none⟩ (.int .u64 vr)).setCell ⟨w.heap.size + 1, 5, none⟩ (.slice a3 ps.length d3)) = wz at *
  refine bodyPost_ret (v := .agg #[.int .u64 id, .slice a1 s.length d1, .slice a2 e.length d2, .int .u64 cf, .int .u64 vr, .slice a3 ps.length d3]) (by simp [results, Try.results61, go_sem, k0, k1, k2, k3, k4, k5]; try rfl) rfl ?_
  refine ⟨_, _, _, rfl, ?_, HPC.out.2.trans (hch.below (fun b q => by omega) HPC.out.2.size)⟩
  exact (HOR.out.keptC hch (fun b q1 q2 => by omega)).mono (by omega)
end Go.Proofs.Ytnenfflkldpbgaa

/- The law's copy of a region. -/
namespace Go.Proofs.Ytnenfflkldpbgaa
open Go.RowKit
set_option linter.unusedVariables false
set_option maxRecDepth 100000

set_option maxHeartbeats 2000000 in
theorem copyRegion_any {id cf vr : Int} {sv ev pv : Value} {s e : List UInt8} {ps : List Pe} {w : World} (hs : Rd w sv s) (he : Rd w ev e) (hp : RdPe w pv ps) (hsl : s.length ≤ 140737488355328) (hel : e.length ≤ 140737488355328) (hpl : ps.length ≤ 1099511627776) :
    Calls Try.prog 15 #[.agg #[.int .u64 id, sv, ev, .int .u64 cf, .int .u64 vr, pv]] w fun x w' => ∃ sv' ev' pv', x = .returned (.agg #[.int .u64 id, sv', ev', .int .u64 cf, .int .u64 vr, pv']) ∧ OwR w.heap.size w' sv' ev' pv' s e ps ∧ Below w.heap.size w w' := by
  have HRS : Hid (Rd w sv s ∧ Rd w ev e ∧ RdPe w pv ps) := ⟨hs, he, hp⟩
  obtain ⟨sa, sc, rfl⟩ := hs.shp
  obtain ⟨ea, ec, rfl⟩ := he.shp
  obtain ⟨pa, pk, rfl, _⟩ := hp.shape
  clear hs he hp
  obtain ⟨g, hg⟩ : ∃ g, g = w.heap.size := ⟨_, rfl⟩
  have hB0 : Below w.heap.size w ((w.alloc (.cells #[.int .u64 id, .slice sa s.length sc, .slice ea e.length ec, .int .u64 cf, .int .u64 vr, .slice pa ps.length pk] 28)).alloc (.cells #[.int .u64 0, .slice none 0 0, .slice none 0 0, .int .u64 0, .int .u64 0, .slice none 0 0] 28)) := (g_al w _).alloc (by simp) _
  have hk0 : ((w.alloc (.cells #[.int .u64 id, .slice sa s.length sc, .slice ea e.length ec, .int .u64 cf, .int .u64 vr, .slice pa ps.length pk] 28)).alloc (.cells #[.int .u64 0, .slice none 0 0, .slice none 0 0, .int .u64 0, .int .u64 0, .slice none 0 0] 28)).heap[w.heap.size]? = some (.cells #[.int .u64 id, .slice sa s.length sc, .slice ea e.length ec, .int .u64 cf, .int .u64 vr, .slice pa ps.length pk] 28 (0, 0)) := by
    rw [Below.heap_alloc _ _ _ (by simp)]; exact heap_alloc_new w _
  have hr0 : ((w.alloc (.cells #[.int .u64 id, .slice sa s.length sc, .slice ea e.length ec, .int .u64 cf, .int .u64 vr, .slice pa ps.length pk] 28)).alloc (.cells #[.int .u64 0, .slice none 0 0, .slice none 0 0, .int .u64 0, .int .u64 0, .slice none 0 0] 28)).heap[w.heap.size + 1]? = some (.cells #[.int .u64 0, .slice none 0 0, .slice none 0 0, .int .u64 0, .int .u64 0, .slice none 0 0] 28 (0, 0)) := by
    have := heap_alloc_new (w.alloc (.cells #[.int .u64 id, .slice sa s.length sc, .slice ea e.length ec, .int .u64 cf, .int .u64 vr, .slice pa ps.length pk] 28)) (.cells #[.int .u64 0, .slice none 0 0, .slice none 0 0, .int .u64 0, .int .u64 0, .slice none 0 0] 28)
    rw [World.size_alloc] at this
    exact this
  have hz0 : ((w.alloc (.cells #[.int .u64 id, .slice sa s.length sc, .slice ea e.length ec, .int .u64 cf, .int .u64 vr, .slice pa ps.length pk] 28)).alloc (.cells #[.int .u64 0, .slice none 0 0, .slice none 0 0, .int .u64 0, .int .u64 0, .slice none 0 0] 28)).heap.size > w.heap.size + 1 := by simp
  go_enter Try.func15, Try.ntmps15
  go_wp2_with fail
  generalize ((w.alloc (.cells #[.int .u64 id, .slice sa s.length sc, .slice ea e.length ec, .int .u64 cf, .int .u64 vr, .slice pa ps.length pk] 28)).alloc (.cells #[.int .u64 0, .slice none 0 0, .slice none 0 0, .int .u64 0, .int .u64 0, .slice none 0 0] 28)) = W0 at *
  refine (lcopy_any (HRS.out.1.below hB0 (Nat.le_refl _)) hsl).mono ?_
  rintro x w1 ⟨v1, rfl, o1, b1⟩
  have hs1 := b1.size
  have hk1 : w1.heap[w.heap.size]? = _ := (b1.block _ (by omega)).trans hk0
  have hr1 : w1.heap[w.heap.size + 1]? = _ := (b1.block _ (by omega)).trans hr0
  have hB1 : Below w.heap.size w w1 := hB0.trans (b1.mono hB0.size)
  obtain ⟨a1, d1, rfl⟩ := o1.shp
  obtain ⟨c0, c1, c2, c3, c4, c5, cz⟩ := cells6 hk1
  have z1 := cz 1
  have ch1 := put1_chg w1 w.heap.size 1 (.slice a1 s.length d1)
  have hq1 : (w1.setCell ⟨w.heap.size, 1, none⟩ (.slice a1 s.length d1)).heap[w.heap.size]? = some (.cells #[.int .u64 id, .slice a1 s.length d1, .slice ea e.length ec, .int .u64 cf, .int .u64 vr, .slice pa ps.length pk] 28 (0, 0)) := put1_block hk1 _
  have hp1 : (w1.setCell ⟨w.heap.size, 1, none⟩ (.slice a1 s.length d1)).heap[w.heap.size + 1]? = _ := (ch1.block _ (by omega) (by omega)).trans hr1
  have hC1 : Below w.heap.size w (w1.setCell ⟨w.heap.size, 1, none⟩ (.slice a1 s.length d1)) := hB1.trans (ch1.below (fun b q => by omega) hB1.size)
  have oo1 : Ow W0.heap.size (w1.setCell ⟨w.heap.size, 1, none⟩ (.slice a1 s.length d1)) (.slice a1 s.length d1) s := o1.keptC ch1 (fun b q1 q2 => by have := (o1.lt0 b q1).1; omega)
  have hss1 : w1.heap.size ≤ (w1.setCell ⟨w.heap.size, 1, none⟩ (.slice a1 s.length d1)).heap.size := ch1.size
  have HX1 : Hid _ := And.intro hk1 (And.intro hr1 hB1)
  clear cz hk0 hr0 hk1 hr1 ch1 o1 hB1
  go_wp2_with fail
  generalize (w1.setCell ⟨w.heap.size, 1, none⟩ (.slice a1 s.length d1)) = W1 at *
  clear c0 c1 c2 c3 c4 c5 z1
  refine (lcopy_any (HRS.out.2.1.below hC1 (Nat.le_refl _)) hel).mono ?_
  rintro x w2 ⟨v2, rfl, o2, b2⟩
  have hs2 := b2.size
  have hk2 : w2.heap[w.heap.size]? = _ := (b2.block _ (by omega)).trans hq1
  have hr2 : w2.heap[w.heap.size + 1]? = _ := (b2.block _ (by omega)).trans hp1
  have hB2 : Below w.heap.size w w2 := hC1.trans (b2.mono hC1.size)
  obtain ⟨a2, d2, rfl⟩ := o2.shp
  obtain ⟨c0, c1, c2, c3, c4, c5, cz⟩ := cells6 hk2
  have z2 := cz 2
  have ch2 := put1_chg w2 w.heap.size 2 (.slice a2 e.length d2)
  have hq2 : (w2.setCell ⟨w.heap.size, 2, none⟩ (.slice a2 e.length d2)).heap[w.heap.size]? = some (.cells #[.int .u64 id, .slice a1 s.length d1, .slice a2 e.length d2, .int .u64 cf, .int .u64 vr, .slice pa ps.length pk] 28 (0, 0)) := put1_block hk2 _
  have hp2 : (w2.setCell ⟨w.heap.size, 2, none⟩ (.slice a2 e.length d2)).heap[w.heap.size + 1]? = _ := (ch2.block _ (by omega) (by omega)).trans hr2
  have hC2 : Below w.heap.size w (w2.setCell ⟨w.heap.size, 2, none⟩ (.slice a2 e.length d2)) := hB2.trans (ch2.below (fun b q => by omega) hB2.size)
  have oo1' : Ow W0.heap.size (w2.setCell ⟨w.heap.size, 2, none⟩ (.slice a2 e.length d2)) (.slice a1 s.length d1) s := (oo1.below b2 (Nat.le_refl _)).keptC ch2 (fun b q1 q2 => by have := (oo1.lt0 b q1).1; omega)
  have oo2 : Ow W1.heap.size (w2.setCell ⟨w.heap.size, 2, none⟩ (.slice a2 e.length d2)) (.slice a2 e.length d2) e := o2.keptC ch2 (fun b q1 q2 => by have := (o2.lt0 b q1).1; omega)
  have hss2 : w2.heap.size ≤ (w2.setCell ⟨w.heap.size, 2, none⟩ (.slice a2 e.length d2)).heap.size := ch2.size
  have HAP : Hid (∀ b, (Value.slice a1 s.length d1).ownBlock = some b → b < W1.heap.size) := fun b q => (oo1.lt0 b q).2
  clear cz hk2 hr2 ch2 o2 hB2 hq1 hp1 hC1 oo1
  have hrp := HRS.out.2.2.below hC2 (Nat.le_refl _)
  obtain ⟨p0, p1, p2, p3, p4, p5, pz⟩ := cells6 hq2
  have hln : ([] : List Pe).length + ps.length ≤ 1099511627776 := by simp; omega
  go_upto_region 4 with (first | (at_builtin; refine wpList_appPe rfl _ _ rfl (w2.setCell ⟨w.heap.size, 2, none⟩ (.slice a2 e.length d2)).heap.size _ [] rfl (OwPe.nil _ _) _ ps rfl hrp (Nat.le_refl _) hln ?_; intro v3 w3 o3 hg3 hw3; rw [List.nil_append] at o3; have b3 : Below (w2.setCell ⟨w.heap.size, 2, none⟩ (.slice a2 e.length d2)).heap.size (w2.setCell ⟨w.heap.size, 2, none⟩ (.slice a2 e.length d2)) w3 := (Below.refl _ _).grown hg3 (Nat.le_refl _) (fun j e => by cases e); obtain ⟨a3, d3, rfl⟩ := o3.shape; have hk3a := (b3.block w.heap.size (by omega)).trans hq2; obtain ⟨y0, y1, y2, y3, y4, y5, yz⟩ := cells6 hk3a; have yz5 := yz 5; clear yz) | fail)
  generalize (w2.setCell ⟨w.heap.size, 2, none⟩ (.slice a2 e.length d2)) = W2 at *
  clear c0 c1 c2 c3 c4 c5 z2 p0 p1 p2 p3 p4 p5 pz y0 y1 y2 y3 y4 y5 yz5 hk3a hrp
  have hs3 := b3.size
  have hk3 : w3.heap[w.heap.size]? = _ := (b3.block _ (by omega)).trans hq2
  have hr3 : w3.heap[w.heap.size + 1]? = _ := (b3.block _ (by omega)).trans hp2
  have hB3 : Below w.heap.size w w3 := hC2.trans (b3.mono hC2.size)
  obtain ⟨c0, c1, c2, c3, c4, c5, cz⟩ := cells6 hk3
  have z5 := cz 5
  have ch3 := put1_chg w3 w.heap.size 5 (.slice a3 ps.length d3)
  have hq3 : (w3.setCell ⟨w.heap.size, 5, none⟩ (.slice a3 ps.length d3)).heap[w.heap.size]? = some (.cells #[.int .u64 id, .slice a1 s.length d1, .slice a2 e.length d2, .int .u64 cf, .int .u64 vr, .slice a3 ps.length d3] 28 (0, 0)) := put1_block hk3 _
  have hp3 : (w3.setCell ⟨w.heap.size, 5, none⟩ (.slice a3 ps.length d3)).heap[w.heap.size + 1]? = _ := (ch3.block _ (by omega) (by omega)).trans hr3
  have hC3 : Below w.heap.size w (w3.setCell ⟨w.heap.size, 5, none⟩ (.slice a3 ps.length d3)) := hB3.trans (ch3.below (fun b q => by omega) hB3.size)
  have hss3 : w3.heap.size ≤ (w3.setCell ⟨w.heap.size, 5, none⟩ (.slice a3 ps.length d3)).heap.size := ch3.size
  have hOR : OwR W0.heap.size (w3.setCell ⟨w.heap.size, 5, none⟩ (.slice a3 ps.length d3)) (.slice a1 s.length d1) (.slice a2 e.length d2) (.slice a3 ps.length d3) s e ps :=
    ⟨((oo1'.below b3 (Nat.le_refl _)).keptC ch3 (fun b q1 q2 => by have := (oo1'.lt0 b q1).1; omega)).mono (Nat.le_refl _),
     ((oo2.below b3 (Nat.le_refl _)).keptC ch3 (fun b q1 q2 => by have := (oo2.lt0 b q1).1; omega)).mono (by omega),
     (o3.keptC ch3 (fun b q1 q2 => by have := (o3.lt b q1).1; omega)).mono (by omega),
     fun b q1 q2 => by have := HAP.out b q1; have := (oo2.lt0 b q2).1; omega,
     fun b q1 q2 => by have := (oo1'.lt0 b q1).2; have := (o3.lt b q2).1; omega,
     fun b q1 q2 => by have := (oo2.lt0 b q1).2; have := (o3.lt b q2).1; omega⟩
  obtain ⟨e0, e1, e2, e3, e4, e5, ez⟩ := cells6 hq3
  obtain ⟨f0, f1, f2, f3, f4, f5, fz⟩ := cells6 hp3
  have fz0 := fz 0
  have fz1 := fz 1
  have fz2 := fz 2
  have fz3 := fz 3
  have fz4 := fz 4
  have fz5 := fz 5
  have HOR : Hid _ := hOR
  have HPC : Hid _ := And.intro hp3 hC3
  have hlg : w.heap.size + 1 < (w3.setCell ⟨w.heap.size, 5, none⟩ (.slice a3 ps.length d3)).heap.size := by omega
  clear cz hk3 hr3 ch3 o3 hB3 hq2 hp2 hC2 oo1' oo2 hOR hp3 hC3 hq3 ez fz HAP
  have HDD : Hid _ := And.intro c0 (And.intro c1 (And.intro c2 (And.intro c3 (And.intro c4 (And.intro c5 z5)))))
  clear c0 c1 c2 c3 c4 c5 z5
  generalize (w3.setCell ⟨w.heap.size, 5, none⟩ (.slice a3 ps.length d3)) = W3 at *
  have HZ : Hid _ := And.intro (cells6 (set6_block HPC.out.1 (.int .u64 id) (.slice a1 s.length d1) (.slice a2 e.length d2) (.int .u64 cf) (.int .u64 vr) (.slice a3 ps.length d3))) (set6_chg W3 (w.heap.size + 1) (.int .u64 id) (.slice a1 s.length d1) (.slice a2 e.length d2) (.int .u64 cf) (.int .u64 vr) (.slice a3 ps.length d3))
  go_wp2_with fail
  obtain ⟨⟨k0, k1, k2, k3, k4, k5, _⟩, hch⟩ := HZ.out
  generalize ((((((W3.setCell ⟨w.heap.size + 1, 0, none⟩ (.int .u64 id)).setCell ⟨w.heap.size + 1, 1, none⟩ (.slice a1 s.length d1)).setCell ⟨w.heap.size + 1, 2, none⟩ (.slice a2 e.length d2)).setCell ⟨w.heap.size + 1, 3, none⟩ (.int .u64 cf)).setCell ⟨w.heap.size + 1, 4, none⟩ (.int .u64 vr)).setCell ⟨w.heap.size + 1, 5, none⟩ (.slice a3 ps.length d3)) = wz at *
  refine bodyPost_ret (v := .agg #[.int .u64 id, .slice a1 s.length d1, .slice a2 e.length d2, .int .u64 cf, .int .u64 vr, .slice a3 ps.length d3]) (by simp [results, Try.results15, go_sem, k0, k1, k2, k3, k4, k5]; try rfl) rfl ?_
  refine ⟨_, _, _, rfl, ?_, HPC.out.2.trans (hch.below (fun b q => by omega) HPC.out.2.size)⟩
  exact (HOR.out.keptC hch (fun b q1 q2 => by omega)).mono (by omega)
end Go.Proofs.Ytnenfflkldpbgaa

/- Split's two copies, wherever they came to lie. -/
namespace Go.Proofs.Ytnenfflkldpbgaa
open Go.RowKit
set_option linter.unusedVariables false
set_option maxRecDepth 100000

/-- A block of one of three lists. -/
def Bl (u v x : Value) (b : Nat) : Prop := u.ownBlock = some b ∨ v.ownBlock = some b ∨ x.ownBlock = some b
theorem OwR.lt {B : Nat} {w : World} {u v x : Value} {s e : List UInt8} {ps : List Pe} (h : OwR B w u v x s e ps) {b : Nat} (hb : Bl u v x b) : B ≤ b ∧ b < w.heap.size := by
  rcases hb with q | q | q
  · exact h.s.lt0 b q
  · exact h.e.lt0 b q
  · exact h.p.lt b q
theorem OwR.keptB {S : Nat → Prop} {B : Nat} {w w' : World} {sv ev pv : Value} {s e : List UInt8} {ps : List Pe} (h : OwR B w sv ev pv s e ps) (hg : Chg S w w') (hne : ∀ b, Bl sv ev pv b → ¬ S b) : OwR B w' sv ev pv s e ps :=
  ⟨h.s.keptC hg (fun b q => hne b (.inl q)), h.e.keptC hg (fun b q => hne b (.inr (.inl q))), h.p.keptC hg (fun b q => hne b (.inr (.inr q))), h.se, h.sp, h.ep⟩
def zeroC : Obj := .cells #[.int .u64 0, .slice none 0 0, .slice none 0 0, .int .u64 0, .int .u64 0, .slice none 0 0] 28 (0, 0)
def rgC (id cf vr : Int) (u v x : Value) : Obj := .cells #[.int .u64 id, u, v, .int .u64 cf, .int .u64 vr, x] 28 (0, 0)
/-- Two blocks hold the region's copies. -/
structure Sp5 (W1 : World) (id cf vr : Int) (s e : List UInt8) (ps : List Pe) (gl gh : Nat) (u v x u' v' x' : Value) (wx : World) : Prop where
  bl : wx.heap[gl]? = some (rgC id cf vr u v x)
  bh : wx.heap[gh]? = some (rgC id cf vr u' v' x')
  o1 : OwR W1.heap.size wx u v x s e ps
  o2 : OwR W1.heap.size wx u' v' x' s e ps
  ne : gl ≠ gh
  n1 : ∀ b, Bl u v x b → b ≠ gl ∧ b ≠ gh ∧ ¬ Bl u' v' x' b
  n2 : ∀ b, Bl u' v' x' b → b ≠ gl ∧ b ≠ gh
  g1 : W1.heap.size ≤ gl
  g2 : W1.heap.size ≤ gh
  be : Below W1.heap.size W1 wx
section
variable {W1 w4 : World} {id cf vr : Int} {s e : List UInt8} {ps : List Pe} {gl gh B B' : Nat} {u v x u' v' x' : Value}
theorem Sp5.mk' {E : World} (hc : Chg (fun b => b = gl ∨ b = gh) w4 E) (e1 : E.heap[gl]? = some (rgC id cf vr u v x)) (e2 : E.heap[gh]? = some (rgC id cf vr u' v' x')) (o1 : OwR B w4 u v x s e ps) (o2 : OwR B' w4 u' v' x' s e ps) (hB : W1.heap.size ≤ B) (hB' : W1.heap.size ≤ B') (ne : gl ≠ gh) (n1 : ∀ b, Bl u v x b → b ≠ gl ∧ b ≠ gh ∧ ¬ Bl u' v' x' b) (n2 : ∀ b, Bl u' v' x' b → b ≠ gl ∧ b ≠ gh) (g1 : W1.heap.size ≤ gl) (g2 : W1.heap.size ≤ gh) (hb : Below W1.heap.size W1 w4) : Sp5 W1 id cf vr s e ps gl gh u v x u' v' x' E :=
  ⟨e1, e2, (o1.keptB hc (fun b q => by have := n1 b q; rintro (r | r); exact this.1 r; exact this.2.1 r)).mono hB, (o2.keptB hc (fun b q => by have := n2 b q; rintro (r | r); exact this.1 r; exact this.2 r)).mono hB', ne, n1, n2, g1, g2, hb.trans (hc.below (fun b q => by rcases q with rfl | rfl; exact g1; exact g2) hb.size)⟩
/-- The six cells of a block written. -/
def set6 (w : World) (g : Nat) (id cf vr : Int) (u v x : Value) : World := (((((w.setCell ⟨g, 0, none⟩ (.int .u64 id)).setCell ⟨g, 1, none⟩ u).setCell ⟨g, 2, none⟩ v).setCell ⟨g, 3, none⟩ (.int .u64 cf)).setCell ⟨g, 4, none⟩ (.int .u64 vr)).setCell ⟨g, 5, none⟩ x
theorem set6_b {w : World} {g : Nat} (h : w.heap[g]? = some zeroC) (id cf vr : Int) (u v x : Value) : (set6 w g id cf vr u v x).heap[g]? = some (rgC id cf vr u v x) := set6_block h _ _ _ _ _ _
theorem set6_c (w : World) (g : Nat) (id cf vr : Int) (u v x : Value) : Chg (fun b => b = g) w (set6 w g id cf vr u v x) := set6_chg w g _ _ _ _ _ _
theorem lt_of_some {w : World} {g : Nat} {o : Obj} (h : w.heap[g]? = some o) : g < w.heap.size := (Array.getElem?_eq_some_iff.1 h).1
theorem two_c {X : World} : Chg (fun b => b = gl ∨ b = gh) X (set6 (set6 X gl id cf vr u v x) gh id cf vr u' v' x') :=
  ((set6_c X gl id cf vr u v x).mono (fun b _ q => Or.inl q)).trans ((set6_c _ gh id cf vr u' v' x').mono (fun b _ q => Or.inl (Or.inr q)))
theorem two_l {X : World} (z1 : X.heap[gl]? = some zeroC) (ne : gl ≠ gh) : (set6 (set6 X gl id cf vr u v x) gh id cf vr u' v' x').heap[gl]? = some (rgC id cf vr u v x) := by
  rw [(set6_c (set6 X gl id cf vr u v x) gh id cf vr u' v' x').block gl (by have := lt_of_some z1; have := (set6_c X gl id cf vr u v x).size; omega) ne]
  exact set6_b z1 _ _ _ _ _ _
theorem two_h {X : World} (z2 : X.heap[gh]? = some zeroC) (ne : gl ≠ gh) : (set6 (set6 X gl id cf vr u v x) gh id cf vr u' v' x').heap[gh]? = some (rgC id cf vr u' v' x') :=
  set6_b (by rw [(set6_c X gl id cf vr u v x).block gh (lt_of_some z2) (fun q => ne q.symm)]; exact z2) _ _ _ _ _ _
theorem Sp5.fA (z1 : w4.heap[gl]? = some zeroC) (z2 : w4.heap[gh]? = some zeroC) (o1 : OwR B w4 u v x s e ps) (o2 : OwR B' w4 u' v' x' s e ps) (hB : W1.heap.size ≤ B) (hB' : W1.heap.size ≤ B') (ne : gl ≠ gh) (n1 : ∀ b, Bl u v x b → b ≠ gl ∧ b ≠ gh ∧ ¬ Bl u' v' x' b) (n2 : ∀ b, Bl u' v' x' b → b ≠ gl ∧ b ≠ gh) (g1 : W1.heap.size ≤ gl) (g2 : W1.heap.size ≤ gh) (hb : Below W1.heap.size W1 w4) : Sp5 W1 id cf vr s e ps gl gh u v x u' v' x' (set6 (set6 w4 gl id cf vr u v x) gh id cf vr u' v' x') :=
  Sp5.mk' two_c (two_l z1 ne) (two_h z2 ne) o1 o2 hB hB' ne n1 n2 g1 g2 hb
theorem Sp5.fB (z1 : w4.heap[gl]? = some zeroC) (o1 : OwR B w4 u v x s e ps) (o2 : OwR B' w4 u' v' x' s e ps) (hB : W1.heap.size ≤ B) (hB' : W1.heap.size ≤ B') (n1 : ∀ b, Bl u v x b → b ≠ gl ∧ ¬ Bl u' v' x' b) (n2 : ∀ b, Bl u' v' x' b → b ≠ gl) (g1 : W1.heap.size ≤ gl) (hb : Below W1.heap.size W1 w4) : Sp5 W1 id cf vr s e ps gl w4.heap.size u v x u' v' x' (set6 (set6 (w4.alloc zeroC) gl id cf vr u v x) w4.heap.size id cf vr u' v' x') := by
  have hl := lt_of_some z1
  have ne : gl ≠ w4.heap.size := by omega
  have zz : (w4.alloc zeroC).heap[gl]? = some zeroC := (Below.heap_alloc _ _ _ hl).trans z1
  have zn : (w4.alloc zeroC).heap[w4.heap.size]? = some zeroC := heap_alloc_new w4 _
  refine Sp5.mk' (((Chg.refl (fun b => b = gl ∨ b = w4.heap.size) w4).alloc zeroC).trans (two_c.mono (fun b _ q => .inl q))) (two_l zz ne) (two_h zn ne) o1 o2 hB hB' ne (fun b q => ⟨(n1 b q).1, ?_, (n1 b q).2⟩) (fun b q => ⟨n2 b q, ?_⟩) g1 hb.size hb
  · have := (o1.lt q).2; omega
  · have := (o2.lt q).2; omega
theorem Sp5.fC (z2 : w4.heap[gh]? = some zeroC) (o1 : OwR B w4 u v x s e ps) (o2 : OwR B' w4 u' v' x' s e ps) (hB : W1.heap.size ≤ B) (hB' : W1.heap.size ≤ B') (n1 : ∀ b, Bl u v x b → b ≠ gh ∧ ¬ Bl u' v' x' b) (n2 : ∀ b, Bl u' v' x' b → b ≠ gh) (g2 : W1.heap.size ≤ gh) (hb : Below W1.heap.size W1 w4) : Sp5 W1 id cf vr s e ps w4.heap.size gh u v x u' v' x' (set6 (w4.alloc (rgC id cf vr u v x)) gh id cf vr u' v' x') := by
  have hl := lt_of_some z2
  have ne : w4.heap.size ≠ gh := by omega
  have zz : (w4.alloc (rgC id cf vr u v x)).heap[gh]? = some zeroC := (Below.heap_alloc _ _ _ hl).trans z2
  have zn : (w4.alloc (rgC id cf vr u v x)).heap[w4.heap.size]? = some (rgC id cf vr u v x) := heap_alloc_new w4 _
  have ch := set6_c (w4.alloc (rgC id cf vr u v x)) gh id cf vr u' v' x'
  refine Sp5.mk' (((Chg.refl (fun b => b = w4.heap.size ∨ b = gh) w4).alloc _).trans (ch.mono (fun b _ q => .inl (.inr q)))) ((ch.block _ (lt_of_some zn) ne).trans zn) (set6_b zz _ _ _ _ _ _) o1 o2 hB hB' ne (fun b q => ⟨?_, (n1 b q).1, (n1 b q).2⟩) (fun b q => ⟨?_, n2 b q⟩) hb.size g2 hb
  · have := (o1.lt q).2; omega
  · have := (o2.lt q).2; omega
theorem Sp5.fD (o1 : OwR B w4 u v x s e ps) (o2 : OwR B' w4 u' v' x' s e ps) (hB : W1.heap.size ≤ B) (hB' : W1.heap.size ≤ B') (n1 : ∀ b, Bl u v x b → ¬ Bl u' v' x' b) (hb : Below W1.heap.size W1 w4) : Sp5 W1 id cf vr s e ps w4.heap.size (w4.heap.size + 1) u v x u' v' x' ((w4.alloc (rgC id cf vr u v x)).alloc (rgC id cf vr u' v' x')) := by
  have zn : (w4.alloc (rgC id cf vr u v x)).heap[w4.heap.size]? = some (rgC id cf vr u v x) := heap_alloc_new w4 _
  have zm := heap_alloc_new (w4.alloc (rgC id cf vr u v x)) (rgC id cf vr u' v' x')
  rw [World.size_alloc] at zm
  have hs := hb.size
  refine Sp5.mk' (((Chg.refl _ w4).alloc _).alloc _) ((Below.heap_alloc _ _ _ (lt_of_some zn)).trans zn) zm o1 o2 hB hB' (by omega) (fun b q => ⟨?_, ?_, n1 b q⟩) (fun b q => ⟨?_, ?_⟩) hb.size (by omega) hb
  · have := (o1.lt q).2; omega
  · have := (o1.lt q).2; omega
  · have := (o2.lt q).2; omega
  · have := (o2.lt q).2; omega
theorem Sp5.fE (o1 : OwR B w4 u v x s e ps) (o2 : OwR B' w4 u' v' x' s e ps) (hB : W1.heap.size ≤ B) (hB' : W1.heap.size ≤ B') (n1 : ∀ b, Bl u v x b → ¬ Bl u' v' x' b) (hb : Below W1.heap.size W1 w4) : Sp5 W1 id cf vr s e ps (w4.heap.size + 1) w4.heap.size u v x u' v' x' ((w4.alloc (rgC id cf vr u' v' x')).alloc (rgC id cf vr u v x)) := by
  have zn : (w4.alloc (rgC id cf vr u' v' x')).heap[w4.heap.size]? = some (rgC id cf vr u' v' x') := heap_alloc_new w4 _
  have zm := heap_alloc_new (w4.alloc (rgC id cf vr u' v' x')) (rgC id cf vr u v x)
  rw [World.size_alloc] at zm
  have hs := hb.size
  refine Sp5.mk' (((Chg.refl _ w4).alloc _).alloc _) zm ((Below.heap_alloc _ _ _ (lt_of_some zn)).trans zn) o1 o2 hB hB' (by omega) (fun b q => ⟨?_, ?_, n1 b q⟩) (fun b q => ⟨?_, ?_⟩) (by omega) hb.size hb
  · have := (o1.lt q).2; omega
  · have := (o1.lt q).2; omega
  · have := (o2.lt q).2; omega
  · have := (o2.lt q).2; omega
end
end Go.Proofs.Ytnenfflkldpbgaa

/- Encode: the bytes of a region. -/
namespace Go.Proofs.Ytnenfflkldpbgaa
open Go.RowKit
set_option linter.unusedVariables false
set_option maxRecDepth 100000

theorem Try.infoBR : (Try.prog.info? 23).map (fun i => (i.zero, i.size, i.bytes)) = some (some (.slice none 0 0), 1, 24) := by kernel_rfl
theorem owf5 {B : Nat} {w : World} {x1 x2 x3 x4 x5 : Value} {l1 l2 l3 l4 l5 : List UInt8} (h1 : Rd w x1 l1) (h2 : Rd w x2 l2) (h3 : Rd w x3 l3) (h4 : Rd w x4 l4) (h5 : Rd w x5 l5) (hB : B ≤ w.heap.size) (g : Nat) (hg : g = w.heap.size) : OwF B (w.alloc (.cells #[x1, x2, x3, x4, x5] 23)) (.slice (some ⟨g, 0, none⟩) 5 5) [l1, l2, l3, l4, l5] [x1, x2, x3, x4, x5] := by
  subst hg
  have hb := u_al w (.cells #[x1, x2, x3, x4, x5] 23)
  have key : ∀ (i : Nat) (u : Value) (l : List UInt8), [x1, x2, x3, x4, x5][i]? = some u → [l1, l2, l3, l4, l5][i]? = some l → Rd w u l := by
    intro i u l e1 e2
    match i with
    | 0 => simp at e1 e2; subst e1; subst e2; exact h1
    | 1 => simp at e1 e2; subst e1; subst e2; exact h2
    | 2 => simp at e1 e2; subst e1; subst e2; exact h3
    | 3 => simp at e1 e2; subst e1; subst e2; exact h4
    | 4 => simp at e1 e2; subst e1; subst e2; exact h5
    | i + 5 => simp at e1
  refine ⟨World.ownsRow_lit (size := 1) w #[x1, x2, x3, x4, x5] 5 hB (by unfold maxLen; omega) rfl, rfl, fun i u l e1 e2 => (key i u l e1 e2).below hb (Nat.le_refl _), fun i u l e1 e2 hl b e q => ?_⟩
  have h1 := rd_lt (key i u l e1 e2) hl b e
  have h2 : w.heap.size = b := by simpa [Value.ownBlock] using q
  omega
theorem flds_take (h : List (List UInt8)) (ps : List Pe) (k : Nat) (hk : k < ps.length) : h ++ (ps.take (k + 1)).map pnc = (h ++ (ps.take k).map pnc) ++ [pnc ps[k]] := by
  rw [List.take_succ_eq_append_getElem hk, List.map_append, List.append_assoc]
  rfl

set_option maxHeartbeats 4000000 in
theorem encR_any {id cf vr : UInt64} {sv ev pv : Value} {s e : List UInt8} {ps : List Pe} {w : World} (hs : Rd w sv s) (he : Rd w ev e) (hp : RdPe w pv ps) (hok : ∀ p ∈ ps, okPe p) (hsl : s.length ≤ 268435456) (hel : e.length ≤ 268435456) (hpl : ps.length ≤ 268435456) :
    Calls Try.prog 10 #[.agg #[.int .u64 (id.toNat : Int), sv, ev, .int .u64 (cf.toNat : Int), .int .u64 (vr.toNat : Int), pv]] w fun x w' => ∃ v', x = .returned v' ∧ Ow w.heap.size w' v' (rnc (id, s, e, cf, vr, ps)) ∧ Below w.heap.size w w' := by
  have hrl := rnc_len2 (id, s, e, cf, vr, ps)
  simp only [] at hrl
  have HRS : Hid (Rd w sv s ∧ Rd w ev e ∧ RdPe w pv ps) := ⟨hs, he, hp⟩
  obtain ⟨sa, sc, rfl⟩ := hs.shp
  obtain ⟨ea, ec, rfl⟩ := he.shp
  obtain ⟨pa, pk, rfl, hpk1, hpk2⟩ := hp.shape
  clear hs he hp
  have hB0 : Below w.heap.size w (w.alloc (.cells #[.int .u64 (id.toNat : Int), .slice sa s.length sc, .slice ea e.length ec, .int .u64 (cf.toNat : Int), .int .u64 (vr.toNat : Int), .slice pa ps.length pk] 28)) := u_al w _
  have hx0 : (w.alloc (.cells #[.int .u64 (id.toNat : Int), .slice sa s.length sc, .slice ea e.length ec, .int .u64 (cf.toNat : Int), .int .u64 (vr.toNat : Int), .slice pa ps.length pk] 28)).heap[w.heap.size]? = some (.cells #[.int .u64 (id.toNat : Int), .slice sa s.length sc, .slice ea e.length ec, .int .u64 (cf.toNat : Int), .int .u64 (vr.toNat : Int), .slice pa ps.length pk] 28 (0, 0)) := heap_alloc_new w _
  have n1 : ∀ W, Calls Try.prog 39 #[.int .u64 (id.toNat : Int)] W fun e w' => ∃ v', e = .returned v' ∧ Ow W.heap.size w' v' (M.vi id.toNat) ∧ Below W.heap.size W w' := fun W => varint_any id.toNat W id.toNat_lt
  have n2 : ∀ W, Calls Try.prog 39 #[.int .u64 (cf.toNat : Int)] W fun e w' => ∃ v', e = .returned v' ∧ Ow W.heap.size w' v' (M.vi cf.toNat) ∧ Below W.heap.size W w' := fun W => varint_any cf.toNat W cf.toNat_lt
  have n3 : ∀ W, Calls Try.prog 39 #[.int .u64 (vr.toNat : Int)] W fun e w' => ∃ v', e = .returned v' ∧ Ow W.heap.size w' v' (M.vi vr.toNat) ∧ Below W.heap.size W w' := fun W => varint_any vr.toNat W vr.toNat_lt
  have hrn : rnc (id, s, e, cf, vr, ps) = M.row ([M.vi id.toNat, s, e, M.vi cf.toNat, M.vi vr.toNat] ++ ps.map pnc) := rfl
  rw [hrn] at hrl ⊢
  clear hrn
  generalize M.vi id.toNat = vi1 at *
  generalize M.vi cf.toNat = vi2 at *
  generalize M.vi vr.toNat = vi3 at *
  go_enter Try.func10, Try.ntmps10
  go_wp2_with fail
  generalize (w.alloc (.cells #[.int .u64 (id.toNat : Int), .slice sa s.length sc, .slice ea e.length ec, .int .u64 (cf.toNat : Int), .int .u64 (vr.toNat : Int), .slice pa ps.length pk] 28)) = W0 at *
  have kc : ∀ W, Below W0.heap.size W0 W → W.heap[w.heap.size]? = some (.cells #[.int .u64 (id.toNat : Int), .slice sa s.length sc, .slice ea e.length ec, .int .u64 (cf.toNat : Int), .int .u64 (vr.toNat : Int), .slice pa ps.length pk] 28 (0, 0)) := fun W hW => (hW.block _ (lt_of_some hx0)).trans hx0
  obtain ⟨a0, a1, a2, a3, a4, a5, _⟩ := cells6 hx0
  have HKC : Hid _ := kc
  clear kc
  go_region_held3 (fun w' => w'.cell? ⟨w.heap.size, 0, none⟩ = some (.int .u64 (id.toNat : Int)) ∧ w'.cell? ⟨w.heap.size, 1, none⟩ = some (.slice sa s.length sc) ∧ w'.cell? ⟨w.heap.size, 2, none⟩ = some (.slice ea e.length ec) ∧ w'.cell? ⟨w.heap.size, 3, none⟩ = some (.int .u64 (cf.toNat : Int)) ∧ w'.cell? ⟨w.heap.size, 4, none⟩ = some (.int .u64 (vr.toNat : Int))) (go_keep) (first
    | (go_at_call 39; refine (n3 w2).mono ?_; rintro e w3 ⟨v3, rfl, ho3, hb3⟩; obtain ⟨b3, d3, rfl⟩ := ho3.shape; have hB3 := hB2.trans (hb3.mono hB2.size); obtain ⟨u0, u1, u2, u3, u4, u5, _⟩ := cells6 (HKC.out w3 hB3))
    | (go_at_call 39; refine (n2 w1).mono ?_; rintro e w2 ⟨v2, rfl, ho2, hb2⟩; obtain ⟨b2, d2, rfl⟩ := ho2.shape; have hB2 := hb1.trans (hb2.mono hb1.size); obtain ⟨t0, t1, t2, t3, t4, t5, _⟩ := cells6 (HKC.out w2 hB2))
    | (go_at_call 39; refine (n1 W0.drew).mono ?_; rintro e w1 ⟨v1, rfl, ho1, hb1'⟩; have hb1 : Below W0.heap.size W0 w1 := (u_drew W0).trans hb1'; obtain ⟨b1, d1, rfl⟩ := ho1.shape; obtain ⟨s0, s1, s2, s3, s4, s5, _⟩ := cells6 (HKC.out w1 hb1))
    | fail)
  have hW3 : Below w.heap.size w w3 := hB0.trans (hB3.mono hB0.size)
  have r1 : Rd w3 (.slice b1 vi1.length d1) vi1 := (ho1.below (hb2.trans (hb3.mono hb2.size)) (Nat.le_refl _)).rd
  have r2 : Rd w3 (.slice b2 vi2.length d2) vi2 := (ho2.below hb3 (Nat.le_refl _)).rd
  have HO4 : Hid _ := owf5 (B := w.heap.size) r1 (HRS.out.1.below hW3 (Nat.le_refl _)) (HRS.out.2.1.below hW3 (Nat.le_refl _)) r2 ho3.rd hW3.size w3.heap.size rfl
  have hb34 := u_al w3 (.cells #[.slice b1 vi1.length d1, .slice sa s.length sc, .slice ea e.length ec, .slice b2 vi2.length d2, .slice b3 vi3.length d3] 23)
  have hW4 : Below w.heap.size w (w3.alloc (.cells #[.slice b1 vi1.length d1, .slice sa s.length sc, .slice ea e.length ec, .slice b2 vi2.length d2, .slice b3 vi3.length d3] 23)) := hW3.trans (hb34.mono hW3.size)
  have hB4 : Below W0.heap.size W0 (w3.alloc (.cells #[.slice b1 vi1.length d1, .slice sa s.length sc, .slice ea e.length ec, .slice b2 vi2.length d2, .slice b3 vi3.length d3] 23)) := hB3.trans (hb34.mono hB3.size)
  obtain ⟨g0, g1, g2, g3, g4, g5, _⟩ := cells6 (HKC.out _ hB4)
  clear a0 a1 a2 a3 a4 a5 s0 s1 s2 s3 s4 s5 t0 t1 t2 t3 t4 t5 u0 u1 u2 u3 u4 u5 r1 r2 n1 n2 n3 ho1 ho2 ho3 hb34 hx0
  generalize hW4e : (w3.alloc (.cells #[.slice b1 vi1.length d1, .slice sa s.length sc, .slice ea e.length ec, .slice b2 vi2.length d2, .slice b3 vi3.length d3] 23)) = W4 at *
  clear hW4e
  have h24 := Try.infoBR
  go_wp2_with fail
  go_loopw [3, 5, 25] (fun fv _ i wr => ∃ (k : Nat) (us : List Value), k ≤ ps.length ∧ i = .int .i64 k ∧ OwF w.heap.size wr fv ([vi1, s, e, vi2, vi3] ++ (ps.take k).map pnc) us ∧ Below w.heap.size w wr) (fun _ _ i _ => ps.length - (intOf i).toNat)
  case atStart => exact ⟨0, _, Nat.zero_le _, rfl, by simpa using HO4.out, hW4⟩
  case round =>
    obtain ⟨k, us, hk, rfl, hos, hb⟩ := hrel
    have hB := hb.size
    by_cases hlt : k < ps.length
    · obtain ⟨ao', c', e1, _, _, _, h4⟩ := HRS.out.2.2.below hb (Nat.le_refl _)
      simp only [Value.slice.injEq, true_and] at e1
      obtain ⟨rfl, rfl⟩ := e1
      obtain ⟨a, rfl, q0, q1, q2⟩ := h4 k _ (List.getElem?_eq_getElem hlt)
      clear h4
      have HV : Hid _ := flds_take [vi1, s, e, vi2, vi3] ps k hlt
      have hpo := hok ps[k] (List.getElem_mem hlt)
      have hul : us.length = k + 5 := by have := hos.len; simp at this; omega
      have hul2 : us.length ≤ 4294967296 := by omega
      clear hul
      generalize ps[k] = p at *
      obtain ⟨p0, p1, p2⟩ := p
      obtain ⟨hp1, hp2⟩ := hpo
      simp only [] at hp1 hp2 q0 q1 q2
      obtain ⟨m, rfl⟩ := Int.eq_ofNat_of_zero_le hp1
      have hm : m < 2147483648 := by omega
      clear hp1 hp2
      have hkl : (k : Int) < (ps.length : Int) := by omega
      have hal := u_al wr (.cells #[.int .u64 (p0.toNat : Int), .int .i64 (m : Int), .bool p2] 31)
      have hbp : (wr.alloc (.cells #[.int .u64 (p0.toNat : Int), .int .i64 (m : Int), .bool p2] 31)).heap[wr.heap.size]? = _ := heap_alloc_new wr _
      obtain ⟨e0, e1, e2, _⟩ := cells3 hbp
      have hosA := hos.below hal (Nat.le_refl _)
      have hbA := hb.trans (hal.mono hB)
      have hszA : (wr.alloc (.cells #[.int .u64 (p0.toNat : Int), .int .i64 (m : Int), .bool p2] 31)).heap.size = wr.heap.size + 1 := by simp
      clear hbp
      go_wp2_with fail
      generalize (wr.alloc (.cells #[.int .u64 (p0.toNat : Int), .int .i64 (m : Int), .bool p2] 31)) = wA at *
      refine (encp_any hm).mono ?_
      rintro x w6 ⟨u6, rfl, ho6, hb6⟩
      have hos6 := hosA.below hb6 (Nat.le_refl _)
      have hB6 : w.heap.size ≤ w6.heap.size := Nat.le_trans hbA.size hb6.size
      have hlt6 : ∀ b, u6.ownBlock = some b → wA.heap.size ≤ b := fun b e => (World.ownsRow.lt ho6 b e).1
      have hvlt : ∀ q b, (q : Value).ownBlock = some b → True := fun _ _ _ => trivial
      clear hvlt
      generalize hPN : pnc (p0, (m : Int), p2) = pn at *
      clear hPN
      have hrow := hosA.row
      have hR6 := ho6.rd
      obtain ⟨a6, c6, e6⟩ := ho6.shape
      subst e6
      go_wp2_with (first | (at_builtin; (refine wpList_app1 rfl _ _ 53 rfl w.heap.size 23 (.slice none 0 0) 24 Try.underlying53 h24 rfl _ us.length us rfl (World.ownsRow.alloc hos6.row _) _ _ _ rfl (cell_new1 _ _ _) rfl ?hmx ?hmy ?hmz ?_; rotate_right; intro v7 w7 ho7 hg7 hw7)) | fail)
      case hmx => unfold maxLen; omega
      case hmy => omega
      case hmz => rw [World.size_alloc]; omega
      have hal6 := u_al w6 (.cells #[.slice a6 pn.length c6] 23)
      have hos7 := (hos6.below hal6 (Nat.le_refl _)).snoc (hR6.below hal6 (Nat.le_refl _)) (fun _ b e q => by have h1 := hlt6 b e; have h2 := (World.ownsRow.lt hrow b q).2; omega) ho7 hg7 hw7
      have hb7 : Below w.heap.size w w7 := (hbA.trans (hb6.mono hbA.size)).trans (((Below.refl w.heap.size w6).alloc hB6 _).trans ((Below.refl w.heap.size _).grown hg7 (by rw [World.size_alloc]; omega) (fun k hk => (World.ownsRow.lt hos6.row k hk).1)))
      refine ⟨⟨k + 1, us ++ [.slice a6 pn.length c6], by omega, by go_num, ?_, hb7⟩, by simp [intOf]; omega⟩
      rw [HV.out]; exact hos7
    · obtain rfl : k = ps.length := by omega
      rw [List.take_of_length_le (Nat.le_refl _)] at hos
      have hvl : ([vi1, s, e, vi2, vi3] ++ ps.map pnc).length ≤ 4294967296 := by simp; omega
      have hrds := hos.rds
      generalize hL : [vi1, s, e, vi2, vi3] ++ ps.map pnc = L at *
      have HL : Hid _ := hL
      clear hL
      clear HO4 hos
      have hrow := row_any hrds (by omega) (by omega)
      obtain ⟨qa, qc, rfl, _⟩ := hrds
      go_wp2_with fail
      refine hrow.mono ?_
      rintro x w8 ⟨u8, rfl, ho8, hb8⟩
      go_wp2_with fail
      go_ret
      exact ⟨_, rfl, by have := ho8.mono hB; rw [← HL.out] at this; exact this, hb.trans (hb8.mono hB)⟩
end Go.Proofs.Ytnenfflkldpbgaa
