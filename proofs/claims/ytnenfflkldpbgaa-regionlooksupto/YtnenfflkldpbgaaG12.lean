/- The document's Check. -/
import Derived.Test.YtnenfflkldpbgaaG11
import Derived.Test.YtnenfflkldpbgaaG5
namespace Go.Proofs.Ytnenfflkldpbgaa
open Go.RowKit
set_option linter.unusedVariables false
set_option maxRecDepth 100000

/-- The number ahead of the k-th peer's. -/
def lastN (ps : List Pe) : Nat → UInt64
  | 0 => 0
  | k + 1 => match ps[k]? with | some p => p.1 | none => 0

theorem onF_hit {ps : List Pe} {j k : Nat} {q : Pe} {st : Int} (hj : j < k) (hq : ps[j]? = some q) (h : q.2.1 = st) : (onF (ps.take k) st).isSome = true := by
  unfold onF
  rw [List.find?_isSome]
  exact ⟨q, List.mem_of_getElem? (i := j) (by rw [List.getElem?_take, if_pos hj]; exact hq), decide_eq_true h⟩
theorem onF_more {ps : List Pe} {j : Nat} {q : Pe} {st : Int} (hq : ps[j]? = some q) (h : ¬ q.2.1 = st) (h0 : onF (ps.take j) st = none) : onF (ps.take (j + 1)) st = none := by
  have e1 : ps.take (j + 1) = ps.take j ++ [q] := by rw [List.take_add_one, hq]; rfl
  unfold onF at *
  rw [e1, List.find?_append, h0, Option.none_or, List.find?_cons, decide_eq_false h]; rfl
theorem lastN_succ {ps : List Pe} {k : Nat} {p : Pe} (hp : ps[k]? = some p) : lastN ps (k + 1) = p.1 := by
  simp only [lastN, hp]
theorem ris_step {ps : List Pe} {k : Nat} {p : Pe} (hp : ps[k]? = some p) : risF (lastN ps k) ((ps.map (·.1)).drop k) = (decide (lastN ps k < p.1) && risF (lastN ps (k + 1)) ((ps.map (·.1)).drop (k + 1))) := by
  have h1 : (ps.map (·.1))[k]? = some p.1 := by rw [List.getElem?_map, hp]; rfl
  have h2 : (ps.map (·.1)).drop k = p.1 :: (ps.map (·.1)).drop (k + 1) := by
    obtain ⟨hl, he⟩ := List.getElem?_eq_some_iff.1 h1
    rw [List.drop_eq_getElem_cons hl, he]
  rw [h2, lastN_succ hp]; rfl
theorem grp_ris {ps : List Pe} (h : risF 0 (ps.map (·.1)) = false) : grpF ps = false := by
  unfold grpF; rw [h]; simp
theorem grp_st {ps : List Pe} {k : Nat} (hk : k ≤ ps.length) (h : stF ps k = false) : grpF ps = false := by
  unfold grpF; rw [stF_len hk h]; simp

set_option maxHeartbeats 4000000 in
theorem rcheck_any {id : UInt64} {cf vr : Int} {sv ev pv : Value} {s e : List UInt8} {ps : List Pe} {w : World} (hs : Rd w sv s) (he : Rd w ev e) (hp : RdPe w pv ps) :
    Calls Try.prog 20 #[.agg #[.int .u64 (id.toNat : Int), sv, ev, .int .u64 cf, .int .u64 vr, pv]] w fun x w' => x = .returned (.int .i64 (chkE id s e ps)) ∧ Below w.heap.size w w' := by
  have HRS : Hid (Rd w sv s ∧ Rd w ev e ∧ RdPe w pv ps) := ⟨hs, he, hp⟩
  obtain ⟨sa, sc, rfl⟩ := hs.shp
  obtain ⟨ea, ec, rfl⟩ := he.shp
  obtain ⟨pa, pk, rfl, hl1, hl2⟩ := hp.shape
  have hsl := hs.len
  have hel := he.len
  unfold maxLen at hsl hel
  have hck : chkE id s e ps = if id = 0 ∨ 64 < s.length ∨ 64 < e.length then 1 else if emp s e = true then 101 else if grpF ps = false then 1 else 0 := by
    unfold chkE
    rw [cov_start]
    cases emp s e <;> rfl
  have hem : emp s e = (decide (0 < e.length) && decide (M.cmpL e s ≤ 0)) := rfl
  generalize chkE id s e ps = res at *
  have HC : Hid _ := hck
  have HE : Hid _ := hem
  clear hck hs he hp hem
  have hbx : Below w.heap.size w (w.alloc (.cells #[.int .u64 (id.toNat : Int), .slice sa s.length sc, .slice ea e.length ec, .int .u64 cf, .int .u64 vr, .slice pa ps.length pk] 28)) := g_al w _
  by_cases hid : id = 0
  · subst hid
    go_enter Try.func20, Try.ntmps20
    go_wp2_with fail
    go_ret
    exact ⟨by rw [HC.out]; first | rfl | simp, g_al _ _⟩
  have hid2 : ¬ id.toNat = 0 := fun q => hid (UInt64.toNat_inj.1 q)
  have hid3 : ¬ ((id.toNat : Int) = 0) := by omega
  have hid4 : ((id.toNat : Int) == 0) = false := beq_eq_false_iff_ne.2 hid3
  by_cases h1 : 64 < s.length
  · have g1 : (64 : Int) < (s.length : Int) := by omega
    go_enter Try.func20, Try.ntmps20
    go_wp2_with fail
    go_ret
    exact ⟨by rw [HC.out, if_pos (.inr (.inl h1))]; rfl, hbx⟩
  have g1 : ¬ (64 : Int) < (s.length : Int) := by omega
  by_cases h2 : 64 < e.length
  · have g2 : (64 : Int) < (e.length : Int) := by omega
    go_enter Try.func20, Try.ntmps20
    go_wp2_with fail
    go_ret
    exact ⟨by rw [HC.out, if_pos (.inr (.inr h2))]; rfl, hbx⟩
  have g2 : ¬ (64 : Int) < (e.length : Int) := by omega
  have HN : Hid (res = if emp s e = true then 101 else if grpF ps = false then 1 else 0) := by
    show _ = _
    rw [HC.out, if_neg (by rintro (q | q | q); exact hid q; exact h1 q; exact h2 q)]
  clear HC
  have hcm : ∀ W, Below w.heap.size w W → Calls Try.prog 47 #[.slice ea e.length ec, .slice sa s.length sc] W fun x w' => x = .returned (.int .i64 (M.cmpL e s)) ∧ ∃ n, w' = W.drewN n := fun W hW => rcmp_any (HRS.out.2.1.below hW (Nat.le_refl _)) (HRS.out.1.below hW (Nat.le_refl _))
  have hK0 : (w.alloc (.cells #[.int .u64 (id.toNat : Int), .slice sa s.length sc, .slice ea e.length ec, .int .u64 cf, .int .u64 vr, .slice pa ps.length pk] 28)).heap[w.heap.size]? = some (.cells #[.int .u64 (id.toNat : Int), .slice sa s.length sc, .slice ea e.length ec, .int .u64 cf, .int .u64 vr, .slice pa ps.length pk] 28 (0, 0)) := heap_alloc_new w _
  generalize M.cmpL e s = x1 at *
  by_cases h3 : e.length = 0
  · have HM : Hid (res = if grpF ps = false then 1 else 0) := by
      show _ = _
      rw [HN.out, HE.out, decide_eq_false (show ¬ 0 < e.length by omega)]; rfl
    have h3' := List.length_eq_zero_iff.1 h3
    subst h3'
    simp only [List.length_nil] at *
    have hBW := hbx
    by_cases h4 : ps.length = 0
    · have HG : Hid (grpF ps = false) := by
        have := List.length_eq_zero_iff.1 h4
        subst this; rfl
      have h4' := List.length_eq_zero_iff.1 h4
      subst h4'
      simp only [List.length_nil] at *
      go_enter Try.func20, Try.ntmps20
      go_wp2_with fail
      go_ret
      exact ⟨by rw [HM.out, HG.out]; rfl, hBW⟩
    have g4 : ((ps.length : Int) == 0) = false := beq_eq_false_iff_ne.2 (by omega)
    by_cases h5 : 9 < ps.length
    · have g5 : (9 : Int) < (ps.length : Int) := by omega
      have HG : Hid (grpF ps = false) := by
        show _ = _
        unfold grpF
        rw [decide_eq_false (show ¬ ps.length ≤ 9 by omega)]; rfl
      go_enter Try.func20, Try.ntmps20
      go_wp2_with fail
      go_ret
      exact ⟨by rw [HM.out, HG.out]; rfl, hBW⟩
    have g5 : ¬ (9 : Int) < (ps.length : Int) := by omega
    go_enter Try.func20, Try.ntmps20
    go_wp2_with fail
    have hKW := hK0
    generalize (w.alloc (.cells #[.int .u64 (id.toNat : Int), .slice sa s.length sc, .slice ea 0 ec, .int .u64 cf, .int .u64 vr, .slice pa ps.length pk] 28)) = W at *
    clear hcm HN HE hK0 hbx
    have HRW : Hid (∀ W', Below w.heap.size w W' → RdPe W' (.slice pa ps.length pk) ps) := fun W' hW => HRS.out.2.2.below hW (Nat.le_refl _)
    have hWz : w.heap.size + 1 ≤ W.heap.size := (Array.getElem?_eq_some_iff.1 hKW).1
    have HKW : Hid (∀ W', Below W.heap.size W W' → W'.cell? ⟨w.heap.size, 5, none⟩ = some (.slice pa ps.length pk)) := fun W' hW => by
      have := (hW.block w.heap.size (by omega)).trans hKW
      obtain ⟨_, _, _, _, _, q, _⟩ := cells6 this
      exact q
    have c5 := HKW.out W (Below.refl _ _)
    clear hKW HRS
    go_loopw [3, 4, 5] (fun v i _ wr => ∃ k : Nat, k ≤ ps.length ∧ i = .int .i64 k ∧ v = .bool (decide (0 < vtF (ps.take k))) ∧ Hid (risF (lastN ps k) ((ps.map (·.1)).drop k) = risF 0 (ps.map (·.1))) ∧ Hid (stF ps k = true) ∧ Below W.heap.size W wr) (fun _ i _ _ => ps.length - (intOf i).toNat)
    case atStart => exact ⟨0, Nat.zero_le _, rfl, rfl, rfl, rfl, Below.refl _ _⟩
    case round =>
      obtain ⟨k, hk, rfl, rfl, HR, HS, hb⟩ := hrel
      have hbw : Below w.heap.size w wr := hBW.trans (hb.mono hBW.size)
      have k5 := HKW.out wr hb
      clear c5
      by_cases hlt : k < ps.length
      · obtain ⟨p, hp⟩ : ∃ p, ps[k]? = some p := ⟨_, List.getElem?_eq_getElem hlt⟩
        have HP : Hid (ps[k]? = some p) := hp
        have HST : Hid (stF ps (k + 1) = (!(onF (ps.take k) p.2.1).isSome && decide (1 ≤ p.2.1))) := by
          show (stF ps k && _) = _
          rw [HS.out, Bool.true_and, hp]
        have HVT : Hid (vtF (ps.take (k + 1)) = vtF (ps.take k) + (if p.2.2 = true then 0 else 1)) := by
          show _ = _
          have e1 : ps.take (k + 1) = ps.take k ++ [p] := by rw [List.take_add_one, hp]; rfl
          rw [e1, vtF_snoc]
        have HRI : Hid (risF 0 (ps.map (·.1)) = (decide (lastN ps k < p.1) && risF (lastN ps (k + 1)) ((ps.map (·.1)).drop (k + 1)))) := by
          show _ = _
          rw [← HR.out, ris_step hp]
        obtain ⟨ao', c', e', _, _, _, h6⟩ := HRW.out wr hbw
        simp only [Value.slice.injEq, true_and] at e'
        obtain ⟨rfl, rfl⟩ := e'
        obtain ⟨a, rfl, q0, q1, q2⟩ := h6 k p hp
        clear h6 hp HR
        obtain ⟨p0, p1, p2⟩ := p
        simp only [] at q0 q1 q2
        have hk1 : (k : Int) < (ps.length : Int) := by omega
        have HB1 : Hid (Below W.heap.size W (wr.alloc (.cells #[.int .u64 (p0.toNat : Int), .int .i64 p1, .bool p2] 31))) := hb.alloc hb.size _
        have HK1 : Hid ((wr.alloc (.cells #[.int .u64 (p0.toNat : Int), .int .i64 p1, .bool p2] 31)).heap[wr.heap.size]? = some (.cells #[.int .u64 (p0.toNat : Int), .int .i64 p1, .bool p2] 31 (0, 0))) := heap_alloc_new wr _
        generalize hvk : vtF (ps.take k) = vk at *
        clear hvk
        go_upto_region 12 with fail
        generalize (wr.alloc (.cells #[.int .u64 (p0.toNat : Int), .int .i64 p1, .bool p2] 31)) = W1 at *
        have hb1 := HB1.out
        have hB1 : wr.heap.size < W1.heap.size := (Array.getElem?_eq_some_iff.1 HK1.out).1
        generalize wr.heap.size = B at *
        have hbw1 : Below w.heap.size w W1 := hBW.trans (hb1.mono hBW.size)
        obtain ⟨d0, d1, d2, _⟩ := cells3 HK1.out
        have l5 := HKW.out W1 hb1
        clear k5 q0 q1 q2
        have HEL : Hid (∀ (j : Nat) (q : Pe), ps[j]? = some q → PeAt W1 (a.add (j * 3)) q) := fun j q hq => by
          obtain ⟨ao2, c2, e2, _, _, _, h7⟩ := HRW.out W1 hbw1
          simp only [Value.slice.injEq, true_and] at e2
          obtain ⟨rfl, rfl⟩ := e2
          obtain ⟨a2, e3, r⟩ := h7 j q hq
          obtain rfl : a = a2 := Option.some.inj e3
          exact r
        have HBN : Hid (∀ n, Below w.heap.size w (W1.drewN n)) := fun n => hbw1.trans ((Below.dN W1 n).mono hbw1.size)
        by_cases hp0 : p0 = 0
        · have HG : Hid (grpF ps = false) := grp_ris (by
            rw [HRI.out, decide_eq_false (by show ¬ lastN ps k < p0; rw [hp0]; intro q; exact absurd (UInt64.lt_iff_toNat_lt.1 q) (by simp))]; rfl)
          subst hp0
          go_quiet (fail)
          go_wp2_with fail
          go_ret
          exact ⟨by rw [HM.out, HG.out]; rfl, HBN.out _⟩
        have hn0 : ¬ p0.toNat = 0 := fun q => hp0 (UInt64.toNat_inj.1 q)
        have hn1 : ¬ ((p0.toNat : Int) = 0) := by omega
        have hn2 : ((p0.toNat : Int) == 0) = false := beq_eq_false_iff_ne.2 hn1
        by_cases hp1 : p1 < 1
        · have HG : Hid (grpF ps = false) := grp_st (show k + 1 ≤ ps.length by omega) (by
            rw [HST.out]; show (_ && decide (1 ≤ p1)) = false; rw [decide_eq_false (show ¬ 1 ≤ p1 by omega), Bool.and_false])
          go_quiet (fail)
          go_wp2_with fail
          go_ret
          exact ⟨by rw [HM.out, HG.out]; rfl, HBN.out _⟩
        have HIN : Hid (lastN ps k < p0 → Hid (risF (lastN ps (k + 1)) ((ps.map (·.1)).drop (k + 1)) = risF 0 (ps.map (·.1)))) := fun h => by
          show _ = _
          rw [HRI.out, decide_eq_true h, Bool.true_and]
        have HNO : Hid (¬ lastN ps k < p0 → grpF ps = false) := fun h => grp_ris (by rw [HRI.out, decide_eq_false h]; rfl)
        rcases Nat.eq_zero_or_pos k with hk0 | hk0
        · subst hk0
          have HRN := HIN.out (by show (0 : UInt64) < p0; rw [UInt64.lt_iff_toNat_lt]; show 0 < p0.toNat; omega)
          clear HIN HNO HRI
          go_quiet (fail)
          go_wp2_with fail
          go_loopw [6] (fun v wx => ∃ j : Nat, j ≤ 0 ∧ v = .int .i64 j ∧ Hid (onF (ps.take j) p1 = none) ∧ Below W1.heap.size W1 wx) (fun v _ => 0 - (intOf v).toNat)
          case atStart => exact ⟨0, Nat.zero_le _, rfl, rfl, Below.dN W1 _⟩
          case round =>
            obtain ⟨j2, hj, rfl, HX, hbx⟩ := hrel
            have hbxW : Below W.heap.size W wr := hb1.trans (hbx.mono hb1.size)
            have hbxw : Below w.heap.size w wr := hbw1.trans (hbx.mono hbw1.size)
            have m5 := HKW.out wr hbxW
            obtain ⟨f0, f1, f2, _⟩ := cells3 ((hbx.block B hB1).trans HK1.out)
            by_cases hl2 : j2 < 0
            · exact absurd hl2 (Nat.not_lt_zero _)
            · obtain rfl : j2 = 0 := by omega
              have HS2 : Hid (stF ps (0 + 1) = true) := by
                show _ = _
                rw [HST.out]
                show (!(onF (ps.take (0)) p1).isSome && decide (1 ≤ p1)) = true
                rw [HX.out, decide_eq_true (show 1 ≤ p1 by omega)]; rfl
              clear HST HX
              by_cases hv : 0 < vk
              · rw [decide_eq_true hv]
                cases p2 with
                | true =>
                  have Htrue : Hid (decide (0 < vtF (ps.take (0 + 1))) = true) := by
                    show _ = _
                    rw [HVT.out]
                    show decide (0 < vk + (if true = true then 0 else 1)) = true
                    rw [decide_eq_true (show 0 < vk + (if true = true then 0 else 1) by simp; exact hv)]
                  go_wp2_with fail
                  exact ⟨⟨0 + 1, by omega, by go_num, by rw [Htrue.out], HRN, HS2, hbxW⟩, by simp [intOf]; omega⟩
                | false =>
                  have Htrue : Hid (decide (0 < vtF (ps.take (0 + 1))) = true) := by
                    show _ = _
                    rw [HVT.out]
                    show decide (0 < vk + (if false = true then 0 else 1)) = true
                    rw [decide_eq_true (show 0 < vk + (if false = true then 0 else 1) by simp)]
                  go_wp2_with fail
                  exact ⟨⟨0 + 1, by omega, by go_num, by rw [Htrue.out], HRN, HS2, hbxW⟩, by simp [intOf]; omega⟩
              · rw [decide_eq_false hv]
                cases p2 with
                | true =>
                  have Hfalse : Hid (decide (0 < vtF (ps.take (0 + 1))) = false) := by
                    show _ = _
                    rw [HVT.out]
                    show decide (0 < vk + (if true = true then 0 else 1)) = false
                    rw [decide_eq_false (show ¬ 0 < vk + (if true = true then 0 else 1) by simp; omega)]
                  go_wp2_with fail
                  exact ⟨⟨0 + 1, by omega, by go_num, by rw [Hfalse.out], HRN, HS2, hbxW⟩, by simp [intOf]; omega⟩
                | false =>
                  have Htrue : Hid (decide (0 < vtF (ps.take (0 + 1))) = true) := by
                    show _ = _
                    rw [HVT.out]
                    show decide (0 < vk + (if false = true then 0 else 1)) = true
                    rw [decide_eq_true (show 0 < vk + (if false = true then 0 else 1) by simp)]
                  go_wp2_with fail
                  exact ⟨⟨0 + 1, by omega, by go_num, by rw [Htrue.out], HRN, HS2, hbxW⟩, by simp [intOf]; omega⟩
        · obtain ⟨j, rfl⟩ : ∃ j, k = j + 1 := ⟨k - 1, by omega⟩
          obtain ⟨q, hq⟩ : ∃ q, ps[j]? = some q := ⟨_, List.getElem?_eq_getElem (by omega)⟩
          have hla := lastN_succ hq
          obtain ⟨r0, r1, r2⟩ := HEL.out j q hq
          obtain ⟨y0, y1, y2⟩ := q
          simp only [] at r0 r1 r2 hla
          have hj1 : ((j + 1 : Nat) : Int) - 1 = (j : Int) := by omega
          have hj2 : (0 : Int) < ((j + 1 : Nat) : Int) := by omega
          have hj3 : (j : Int) < (ps.length : Int) := by omega
          clear hq
          by_cases hc : y0 < p0
          · have HRN := HIN.out (by rw [hla]; exact hc)
            have hc1 : ¬ ((p0.toNat : Int) ≤ (y0.toNat : Int)) := by have := UInt64.lt_iff_toNat_lt.1 hc; omega
            have hc2 : ¬ (p0.toNat ≤ y0.toNat) := by have := UInt64.lt_iff_toNat_lt.1 hc; omega
            clear HIN HNO HRI hla
            go_quiet (fail)
            go_wp2_with fail
            go_loopw [6] (fun v wx => ∃ jj : Nat, jj ≤ (j + 1) ∧ v = .int .i64 jj ∧ Hid (onF (ps.take jj) p1 = none) ∧ Below W1.heap.size W1 wx) (fun v _ => (j + 1) - (intOf v).toNat)
            case atStart => exact ⟨0, Nat.zero_le _, rfl, rfl, Below.dN W1 _⟩
            case round =>
              obtain ⟨j2, hj, rfl, HX, hbx⟩ := hrel
              have hbxW : Below W.heap.size W wr := hb1.trans (hbx.mono hb1.size)
              have hbxw : Below w.heap.size w wr := hbw1.trans (hbx.mono hbw1.size)
              have m5 := HKW.out wr hbxW
              obtain ⟨f0, f1, f2, _⟩ := cells3 ((hbx.block B hB1).trans HK1.out)
              by_cases hl2 : j2 < (j + 1)
              · obtain ⟨q', hq'⟩ : ∃ q', ps[j2]? = some q' := ⟨_, List.getElem?_eq_getElem (by omega)⟩
                obtain ⟨ao2, c2, e2, _, _, _, h7⟩ := HRW.out wr hbxw
                simp only [Value.slice.injEq, true_and] at e2
                obtain ⟨rfl, rfl⟩ := e2
                obtain ⟨a2, e3, z0', z1', z2'⟩ := h7 j2 q' hq'
                obtain rfl : a = a2 := Option.some.inj e3
                obtain ⟨z0, z1, z2⟩ := q'
                simp only [] at z0' z1' z2'
                clear h7 e3
                have hi1 : (j2 : Int) < (ps.length : Int) := by omega
                have hi2 : (j2 : Int) < (((j + 1) : Nat) : Int) := by omega
                by_cases hz : z1 = p1
                · have HG : Hid (grpF ps = false) := grp_st (show (j + 1) + 1 ≤ ps.length by omega) (by
                    rw [HST.out]; show (!(onF (ps.take (j + 1)) p1).isSome && _) = false; rw [onF_hit hl2 hq' hz]; rfl)
                  subst hz
                  have hz1 : (z1 == z1) = true := by simp
                  clear hq'
                  go_wp2_with fail
                  go_quiet (fail)
                  go_wp2_with fail
                  go_ret
                  exact ⟨by rw [HM.out, HG.out]; rfl, hbxw.trans ((Below.dN wr _).mono hbxw.size)⟩
                · have HY : Hid (onF (ps.take (j2 + 1)) p1 = none) := onF_more hq' hz HX.out
                  have hz1 : (z1 == p1) = false := beq_eq_false_iff_ne.2 hz
                  clear hq'
                  go_wp2_with fail
                  go_quiet (fail)
                  go_wp2_with fail
                  exact ⟨⟨j2 + 1, by omega, by go_num, HY, hbx.trans ((Below.dN wr _).mono hbx.size)⟩, by simp [intOf]; omega⟩
              · obtain rfl : j2 = (j + 1) := by omega
                have HS2 : Hid (stF ps ((j + 1) + 1) = true) := by
                  show _ = _
                  rw [HST.out]
                  show (!(onF (ps.take ((j + 1))) p1).isSome && decide (1 ≤ p1)) = true
                  rw [HX.out, decide_eq_true (show 1 ≤ p1 by omega)]; rfl
                clear HST HX
                by_cases hv : 0 < vk
                · rw [decide_eq_true hv]
                  cases p2 with
                  | true =>
                    have Htrue : Hid (decide (0 < vtF (ps.take ((j + 1) + 1))) = true) := by
                      show _ = _
                      rw [HVT.out]
                      show decide (0 < vk + (if true = true then 0 else 1)) = true
                      rw [decide_eq_true (show 0 < vk + (if true = true then 0 else 1) by simp; exact hv)]
                    go_wp2_with fail
                    exact ⟨⟨(j + 1) + 1, by omega, by go_num, by rw [Htrue.out], HRN, HS2, hbxW⟩, by simp [intOf]; omega⟩
                  | false =>
                    have Htrue : Hid (decide (0 < vtF (ps.take ((j + 1) + 1))) = true) := by
                      show _ = _
                      rw [HVT.out]
                      show decide (0 < vk + (if false = true then 0 else 1)) = true
                      rw [decide_eq_true (show 0 < vk + (if false = true then 0 else 1) by simp)]
                    go_wp2_with fail
                    exact ⟨⟨(j + 1) + 1, by omega, by go_num, by rw [Htrue.out], HRN, HS2, hbxW⟩, by simp [intOf]; omega⟩
                · rw [decide_eq_false hv]
                  cases p2 with
                  | true =>
                    have Hfalse : Hid (decide (0 < vtF (ps.take ((j + 1) + 1))) = false) := by
                      show _ = _
                      rw [HVT.out]
                      show decide (0 < vk + (if true = true then 0 else 1)) = false
                      rw [decide_eq_false (show ¬ 0 < vk + (if true = true then 0 else 1) by simp; omega)]
                    go_wp2_with fail
                    exact ⟨⟨(j + 1) + 1, by omega, by go_num, by rw [Hfalse.out], HRN, HS2, hbxW⟩, by simp [intOf]; omega⟩
                  | false =>
                    have Htrue : Hid (decide (0 < vtF (ps.take ((j + 1) + 1))) = true) := by
                      show _ = _
                      rw [HVT.out]
                      show decide (0 < vk + (if false = true then 0 else 1)) = true
                      rw [decide_eq_true (show 0 < vk + (if false = true then 0 else 1) by simp)]
                    go_wp2_with fail
                    exact ⟨⟨(j + 1) + 1, by omega, by go_num, by rw [Htrue.out], HRN, HS2, hbxW⟩, by simp [intOf]; omega⟩
          · have HG : Hid (grpF ps = false) := HNO.out (by rw [hla]; exact hc)
            have hc1 : ((p0.toNat : Int) ≤ (y0.toNat : Int)) := by have : ¬ y0.toNat < p0.toNat := fun q => hc (UInt64.lt_iff_toNat_lt.2 q); omega
            have hc2 : (p0.toNat ≤ y0.toNat) := by omega
            clear HIN HNO HRI hla
            go_quiet (fail)
            go_wp2_with fail
            go_ret
            exact ⟨by rw [HM.out, HG.out]; rfl, HBN.out _⟩
      · obtain rfl : k = ps.length := by omega
        have HRT : Hid (risF 0 (ps.map (·.1)) = true) := by
          show _ = _
          rw [← HR.out, List.drop_eq_nil_of_le (by simp)]; rfl
        have HG : Hid (grpF ps = decide (0 < vtF ps)) := by
          show _ = _
          unfold grpF
          rw [HRT.out, HS.out, decide_eq_true (show ps.length ≤ 9 by omega)]; rfl
        rw [List.take_length]
        by_cases hv : 0 < vtF ps
        · have HG2 : Hid (grpF ps = true) := by show _ = _; rw [HG.out, decide_eq_true hv]
          rw [decide_eq_true hv]
          clear hv
          go_wp2_with fail
          go_ret
          exact ⟨by rw [HM.out, HG2.out]; rfl, hbw⟩
        · have HG2 : Hid (grpF ps = false) := by show _ = _; rw [HG.out, decide_eq_false hv]
          rw [decide_eq_false hv]
          clear hv
          go_wp2_with fail
          go_ret
          exact ⟨by rw [HM.out, HG2.out]; rfl, hbw⟩
  · have g3 : (0 : Int) < (e.length : Int) := by omega
    by_cases hx : x1 ≤ 0
    · have HM : Hid (res = 101) := by
        show _ = _
        rw [HN.out, HE.out, decide_eq_true (show 0 < e.length by omega), decide_eq_true hx]; rfl
      go_enter Try.func20, Try.ntmps20
      go_wp2_with fail
      refine (hcm _ hbx).mono ?_
      rintro x w1 ⟨rfl, n, rfl⟩
      have hBW := hbx.trans ((Below.dN (w.alloc (.cells #[.int .u64 (id.toNat : Int), .slice sa s.length sc, .slice ea e.length ec, .int .u64 cf, .int .u64 vr, .slice pa ps.length pk] 28)) n).mono hbx.size)
      go_wp2_with fail
      go_ret
      exact ⟨by rw [HM.out]; rfl, hBW⟩
    · have HM : Hid (res = if grpF ps = false then 1 else 0) := by
        show _ = _
        rw [HN.out, HE.out, decide_eq_false hx, Bool.and_false]; rfl
      by_cases h4 : ps.length = 0
      · have HG : Hid (grpF ps = false) := by
          have := List.length_eq_zero_iff.1 h4
          subst this; rfl
        have h4' := List.length_eq_zero_iff.1 h4
        subst h4'
        simp only [List.length_nil] at *
        go_enter Try.func20, Try.ntmps20
        go_wp2_with fail
        refine (hcm _ hbx).mono ?_
        rintro x w1 ⟨rfl, n, rfl⟩
        have hBW := hbx.trans ((Below.dN (w.alloc (.cells #[.int .u64 (id.toNat : Int), .slice sa s.length sc, .slice ea e.length ec, .int .u64 cf, .int .u64 vr, .slice pa 0 pk] 28)) n).mono hbx.size)
        go_wp2_with fail
        go_ret
        exact ⟨by rw [HM.out, HG.out]; rfl, hBW⟩
      have g4 : ((ps.length : Int) == 0) = false := beq_eq_false_iff_ne.2 (by omega)
      by_cases h5 : 9 < ps.length
      · have g5 : (9 : Int) < (ps.length : Int) := by omega
        have HG : Hid (grpF ps = false) := by
          show _ = _
          unfold grpF
          rw [decide_eq_false (show ¬ ps.length ≤ 9 by omega)]; rfl
        go_enter Try.func20, Try.ntmps20
        go_wp2_with fail
        refine (hcm _ hbx).mono ?_
        rintro x w1 ⟨rfl, n, rfl⟩
        have hBW := hbx.trans ((Below.dN (w.alloc (.cells #[.int .u64 (id.toNat : Int), .slice sa s.length sc, .slice ea e.length ec, .int .u64 cf, .int .u64 vr, .slice pa ps.length pk] 28)) n).mono hbx.size)
        go_wp2_with fail
        go_ret
        exact ⟨by rw [HM.out, HG.out]; rfl, hBW⟩
      have g5 : ¬ (9 : Int) < (ps.length : Int) := by omega
      go_enter Try.func20, Try.ntmps20
      go_wp2_with fail
      refine (hcm _ hbx).mono ?_
      rintro x w1 ⟨rfl, n, rfl⟩
      have hBW := hbx.trans ((Below.dN (w.alloc (.cells #[.int .u64 (id.toNat : Int), .slice sa s.length sc, .slice ea e.length ec, .int .u64 cf, .int .u64 vr, .slice pa ps.length pk] 28)) n).mono hbx.size)
      go_wp2_with fail
      have hKW : (World.drewN (w.alloc (.cells #[.int .u64 (id.toNat : Int), .slice sa s.length sc, .slice ea e.length ec, .int .u64 cf, .int .u64 vr, .slice pa ps.length pk] 28)) n).heap[w.heap.size]? = _ := hK0
      clear hcm HN HE hK0
      generalize World.drewN (w.alloc (.cells #[.int .u64 (id.toNat : Int), .slice sa s.length sc, .slice ea e.length ec, .int .u64 cf, .int .u64 vr, .slice pa ps.length pk] 28)) n = W at *
      clear hbx
      have HRW : Hid (∀ W', Below w.heap.size w W' → RdPe W' (.slice pa ps.length pk) ps) := fun W' hW => HRS.out.2.2.below hW (Nat.le_refl _)
      have hWz : w.heap.size + 1 ≤ W.heap.size := (Array.getElem?_eq_some_iff.1 hKW).1
      have HKW : Hid (∀ W', Below W.heap.size W W' → W'.cell? ⟨w.heap.size, 5, none⟩ = some (.slice pa ps.length pk)) := fun W' hW => by
        have := (hW.block w.heap.size (by omega)).trans hKW
        obtain ⟨_, _, _, _, _, q, _⟩ := cells6 this
        exact q
      have c5 := HKW.out W (Below.refl _ _)
      clear hKW HRS
      go_loopw [3, 4, 5] (fun v i _ wr => ∃ k : Nat, k ≤ ps.length ∧ i = .int .i64 k ∧ v = .bool (decide (0 < vtF (ps.take k))) ∧ Hid (risF (lastN ps k) ((ps.map (·.1)).drop k) = risF 0 (ps.map (·.1))) ∧ Hid (stF ps k = true) ∧ Below W.heap.size W wr) (fun _ i _ _ => ps.length - (intOf i).toNat)
      case atStart => exact ⟨0, Nat.zero_le _, rfl, rfl, rfl, rfl, Below.refl _ _⟩
      case round =>
        obtain ⟨k, hk, rfl, rfl, HR, HS, hb⟩ := hrel
        have hbw : Below w.heap.size w wr := hBW.trans (hb.mono hBW.size)
        have k5 := HKW.out wr hb
        clear c5
        by_cases hlt : k < ps.length
        · obtain ⟨p, hp⟩ : ∃ p, ps[k]? = some p := ⟨_, List.getElem?_eq_getElem hlt⟩
          have HP : Hid (ps[k]? = some p) := hp
          have HST : Hid (stF ps (k + 1) = (!(onF (ps.take k) p.2.1).isSome && decide (1 ≤ p.2.1))) := by
            show (stF ps k && _) = _
            rw [HS.out, Bool.true_and, hp]
          have HVT : Hid (vtF (ps.take (k + 1)) = vtF (ps.take k) + (if p.2.2 = true then 0 else 1)) := by
            show _ = _
            have e1 : ps.take (k + 1) = ps.take k ++ [p] := by rw [List.take_add_one, hp]; rfl
            rw [e1, vtF_snoc]
          have HRI : Hid (risF 0 (ps.map (·.1)) = (decide (lastN ps k < p.1) && risF (lastN ps (k + 1)) ((ps.map (·.1)).drop (k + 1)))) := by
            show _ = _
            rw [← HR.out, ris_step hp]
          obtain ⟨ao', c', e', _, _, _, h6⟩ := HRW.out wr hbw
          simp only [Value.slice.injEq, true_and] at e'
          obtain ⟨rfl, rfl⟩ := e'
          obtain ⟨a, rfl, q0, q1, q2⟩ := h6 k p hp
          clear h6 hp HR
          obtain ⟨p0, p1, p2⟩ := p
          simp only [] at q0 q1 q2
          have hk1 : (k : Int) < (ps.length : Int) := by omega
          have HB1 : Hid (Below W.heap.size W (wr.alloc (.cells #[.int .u64 (p0.toNat : Int), .int .i64 p1, .bool p2] 31))) := hb.alloc hb.size _
          have HK1 : Hid ((wr.alloc (.cells #[.int .u64 (p0.toNat : Int), .int .i64 p1, .bool p2] 31)).heap[wr.heap.size]? = some (.cells #[.int .u64 (p0.toNat : Int), .int .i64 p1, .bool p2] 31 (0, 0))) := heap_alloc_new wr _
          generalize hvk : vtF (ps.take k) = vk at *
          clear hvk
          go_upto_region 12 with fail
          generalize (wr.alloc (.cells #[.int .u64 (p0.toNat : Int), .int .i64 p1, .bool p2] 31)) = W1 at *
          have hb1 := HB1.out
          have hB1 : wr.heap.size < W1.heap.size := (Array.getElem?_eq_some_iff.1 HK1.out).1
          generalize wr.heap.size = B at *
          have hbw1 : Below w.heap.size w W1 := hBW.trans (hb1.mono hBW.size)
          obtain ⟨d0, d1, d2, _⟩ := cells3 HK1.out
          have l5 := HKW.out W1 hb1
          clear k5 q0 q1 q2
          have HEL : Hid (∀ (j : Nat) (q : Pe), ps[j]? = some q → PeAt W1 (a.add (j * 3)) q) := fun j q hq => by
            obtain ⟨ao2, c2, e2, _, _, _, h7⟩ := HRW.out W1 hbw1
            simp only [Value.slice.injEq, true_and] at e2
            obtain ⟨rfl, rfl⟩ := e2
            obtain ⟨a2, e3, r⟩ := h7 j q hq
            obtain rfl : a = a2 := Option.some.inj e3
            exact r
          have HBN : Hid (∀ n, Below w.heap.size w (W1.drewN n)) := fun n => hbw1.trans ((Below.dN W1 n).mono hbw1.size)
          by_cases hp0 : p0 = 0
          · have HG : Hid (grpF ps = false) := grp_ris (by
              rw [HRI.out, decide_eq_false (by show ¬ lastN ps k < p0; rw [hp0]; intro q; exact absurd (UInt64.lt_iff_toNat_lt.1 q) (by simp))]; rfl)
            subst hp0
            go_quiet (fail)
            go_wp2_with fail
            go_ret
            exact ⟨by rw [HM.out, HG.out]; rfl, HBN.out _⟩
          have hn0 : ¬ p0.toNat = 0 := fun q => hp0 (UInt64.toNat_inj.1 q)
          have hn1 : ¬ ((p0.toNat : Int) = 0) := by omega
          have hn2 : ((p0.toNat : Int) == 0) = false := beq_eq_false_iff_ne.2 hn1
          by_cases hp1 : p1 < 1
          · have HG : Hid (grpF ps = false) := grp_st (show k + 1 ≤ ps.length by omega) (by
              rw [HST.out]; show (_ && decide (1 ≤ p1)) = false; rw [decide_eq_false (show ¬ 1 ≤ p1 by omega), Bool.and_false])
            go_quiet (fail)
            go_wp2_with fail
            go_ret
            exact ⟨by rw [HM.out, HG.out]; rfl, HBN.out _⟩
          have HIN : Hid (lastN ps k < p0 → Hid (risF (lastN ps (k + 1)) ((ps.map (·.1)).drop (k + 1)) = risF 0 (ps.map (·.1)))) := fun h => by
            show _ = _
            rw [HRI.out, decide_eq_true h, Bool.true_and]
          have HNO : Hid (¬ lastN ps k < p0 → grpF ps = false) := fun h => grp_ris (by rw [HRI.out, decide_eq_false h]; rfl)
          rcases Nat.eq_zero_or_pos k with hk0 | hk0
          · subst hk0
            have HRN := HIN.out (by show (0 : UInt64) < p0; rw [UInt64.lt_iff_toNat_lt]; show 0 < p0.toNat; omega)
            clear HIN HNO HRI
            go_quiet (fail)
            go_wp2_with fail
            go_loopw [6] (fun v wx => ∃ j : Nat, j ≤ 0 ∧ v = .int .i64 j ∧ Hid (onF (ps.take j) p1 = none) ∧ Below W1.heap.size W1 wx) (fun v _ => 0 - (intOf v).toNat)
            case atStart => exact ⟨0, Nat.zero_le _, rfl, rfl, Below.dN W1 _⟩
            case round =>
              obtain ⟨j2, hj, rfl, HX, hbx⟩ := hrel
              have hbxW : Below W.heap.size W wr := hb1.trans (hbx.mono hb1.size)
              have hbxw : Below w.heap.size w wr := hbw1.trans (hbx.mono hbw1.size)
              have m5 := HKW.out wr hbxW
              obtain ⟨f0, f1, f2, _⟩ := cells3 ((hbx.block B hB1).trans HK1.out)
              by_cases hl2 : j2 < 0
              · exact absurd hl2 (Nat.not_lt_zero _)
              · obtain rfl : j2 = 0 := by omega
                have HS2 : Hid (stF ps (0 + 1) = true) := by
                  show _ = _
                  rw [HST.out]
                  show (!(onF (ps.take (0)) p1).isSome && decide (1 ≤ p1)) = true
                  rw [HX.out, decide_eq_true (show 1 ≤ p1 by omega)]; rfl
                clear HST HX
                by_cases hv : 0 < vk
                · rw [decide_eq_true hv]
                  cases p2 with
                  | true =>
                    have Htrue : Hid (decide (0 < vtF (ps.take (0 + 1))) = true) := by
                      show _ = _
                      rw [HVT.out]
                      show decide (0 < vk + (if true = true then 0 else 1)) = true
                      rw [decide_eq_true (show 0 < vk + (if true = true then 0 else 1) by simp; exact hv)]
                    go_wp2_with fail
                    exact ⟨⟨0 + 1, by omega, by go_num, by rw [Htrue.out], HRN, HS2, hbxW⟩, by simp [intOf]; omega⟩
                  | false =>
                    have Htrue : Hid (decide (0 < vtF (ps.take (0 + 1))) = true) := by
                      show _ = _
                      rw [HVT.out]
                      show decide (0 < vk + (if false = true then 0 else 1)) = true
                      rw [decide_eq_true (show 0 < vk + (if false = true then 0 else 1) by simp)]
                    go_wp2_with fail
                    exact ⟨⟨0 + 1, by omega, by go_num, by rw [Htrue.out], HRN, HS2, hbxW⟩, by simp [intOf]; omega⟩
                · rw [decide_eq_false hv]
                  cases p2 with
                  | true =>
                    have Hfalse : Hid (decide (0 < vtF (ps.take (0 + 1))) = false) := by
                      show _ = _
                      rw [HVT.out]
                      show decide (0 < vk + (if true = true then 0 else 1)) = false
                      rw [decide_eq_false (show ¬ 0 < vk + (if true = true then 0 else 1) by simp; omega)]
                    go_wp2_with fail
                    exact ⟨⟨0 + 1, by omega, by go_num, by rw [Hfalse.out], HRN, HS2, hbxW⟩, by simp [intOf]; omega⟩
                  | false =>
                    have Htrue : Hid (decide (0 < vtF (ps.take (0 + 1))) = true) := by
                      show _ = _
                      rw [HVT.out]
                      show decide (0 < vk + (if false = true then 0 else 1)) = true
                      rw [decide_eq_true (show 0 < vk + (if false = true then 0 else 1) by simp)]
                    go_wp2_with fail
                    exact ⟨⟨0 + 1, by omega, by go_num, by rw [Htrue.out], HRN, HS2, hbxW⟩, by simp [intOf]; omega⟩
          · obtain ⟨j, rfl⟩ : ∃ j, k = j + 1 := ⟨k - 1, by omega⟩
            obtain ⟨q, hq⟩ : ∃ q, ps[j]? = some q := ⟨_, List.getElem?_eq_getElem (by omega)⟩
            have hla := lastN_succ hq
            obtain ⟨r0, r1, r2⟩ := HEL.out j q hq
            obtain ⟨y0, y1, y2⟩ := q
            simp only [] at r0 r1 r2 hla
            have hj1 : ((j + 1 : Nat) : Int) - 1 = (j : Int) := by omega
            have hj2 : (0 : Int) < ((j + 1 : Nat) : Int) := by omega
            have hj3 : (j : Int) < (ps.length : Int) := by omega
            clear hq
            by_cases hc : y0 < p0
            · have HRN := HIN.out (by rw [hla]; exact hc)
              have hc1 : ¬ ((p0.toNat : Int) ≤ (y0.toNat : Int)) := by have := UInt64.lt_iff_toNat_lt.1 hc; omega
              have hc2 : ¬ (p0.toNat ≤ y0.toNat) := by have := UInt64.lt_iff_toNat_lt.1 hc; omega
              clear HIN HNO HRI hla
              go_quiet (fail)
              go_wp2_with fail
              go_loopw [6] (fun v wx => ∃ jj : Nat, jj ≤ (j + 1) ∧ v = .int .i64 jj ∧ Hid (onF (ps.take jj) p1 = none) ∧ Below W1.heap.size W1 wx) (fun v _ => (j + 1) - (intOf v).toNat)
              case atStart => exact ⟨0, Nat.zero_le _, rfl, rfl, Below.dN W1 _⟩
              case round =>
                obtain ⟨j2, hj, rfl, HX, hbx⟩ := hrel
                have hbxW : Below W.heap.size W wr := hb1.trans (hbx.mono hb1.size)
                have hbxw : Below w.heap.size w wr := hbw1.trans (hbx.mono hbw1.size)
                have m5 := HKW.out wr hbxW
                obtain ⟨f0, f1, f2, _⟩ := cells3 ((hbx.block B hB1).trans HK1.out)
                by_cases hl2 : j2 < (j + 1)
                · obtain ⟨q', hq'⟩ : ∃ q', ps[j2]? = some q' := ⟨_, List.getElem?_eq_getElem (by omega)⟩
                  obtain ⟨ao2, c2, e2, _, _, _, h7⟩ := HRW.out wr hbxw
                  simp only [Value.slice.injEq, true_and] at e2
                  obtain ⟨rfl, rfl⟩ := e2
                  obtain ⟨a2, e3, z0', z1', z2'⟩ := h7 j2 q' hq'
                  obtain rfl : a = a2 := Option.some.inj e3
                  obtain ⟨z0, z1, z2⟩ := q'
                  simp only [] at z0' z1' z2'
                  clear h7 e3
                  have hi1 : (j2 : Int) < (ps.length : Int) := by omega
                  have hi2 : (j2 : Int) < (((j + 1) : Nat) : Int) := by omega
                  by_cases hz : z1 = p1
                  · have HG : Hid (grpF ps = false) := grp_st (show (j + 1) + 1 ≤ ps.length by omega) (by
                      rw [HST.out]; show (!(onF (ps.take (j + 1)) p1).isSome && _) = false; rw [onF_hit hl2 hq' hz]; rfl)
                    subst hz
                    have hz1 : (z1 == z1) = true := by simp
                    clear hq'
                    go_wp2_with fail
                    go_quiet (fail)
                    go_wp2_with fail
                    go_ret
                    exact ⟨by rw [HM.out, HG.out]; rfl, hbxw.trans ((Below.dN wr _).mono hbxw.size)⟩
                  · have HY : Hid (onF (ps.take (j2 + 1)) p1 = none) := onF_more hq' hz HX.out
                    have hz1 : (z1 == p1) = false := beq_eq_false_iff_ne.2 hz
                    clear hq'
                    go_wp2_with fail
                    go_quiet (fail)
                    go_wp2_with fail
                    exact ⟨⟨j2 + 1, by omega, by go_num, HY, hbx.trans ((Below.dN wr _).mono hbx.size)⟩, by simp [intOf]; omega⟩
                · obtain rfl : j2 = (j + 1) := by omega
                  have HS2 : Hid (stF ps ((j + 1) + 1) = true) := by
                    show _ = _
                    rw [HST.out]
                    show (!(onF (ps.take ((j + 1))) p1).isSome && decide (1 ≤ p1)) = true
                    rw [HX.out, decide_eq_true (show 1 ≤ p1 by omega)]; rfl
                  clear HST HX
                  by_cases hv : 0 < vk
                  · rw [decide_eq_true hv]
                    cases p2 with
                    | true =>
                      have Htrue : Hid (decide (0 < vtF (ps.take ((j + 1) + 1))) = true) := by
                        show _ = _
                        rw [HVT.out]
                        show decide (0 < vk + (if true = true then 0 else 1)) = true
                        rw [decide_eq_true (show 0 < vk + (if true = true then 0 else 1) by simp; exact hv)]
                      go_wp2_with fail
                      exact ⟨⟨(j + 1) + 1, by omega, by go_num, by rw [Htrue.out], HRN, HS2, hbxW⟩, by simp [intOf]; omega⟩
                    | false =>
                      have Htrue : Hid (decide (0 < vtF (ps.take ((j + 1) + 1))) = true) := by
                        show _ = _
                        rw [HVT.out]
                        show decide (0 < vk + (if false = true then 0 else 1)) = true
                        rw [decide_eq_true (show 0 < vk + (if false = true then 0 else 1) by simp)]
                      go_wp2_with fail
                      exact ⟨⟨(j + 1) + 1, by omega, by go_num, by rw [Htrue.out], HRN, HS2, hbxW⟩, by simp [intOf]; omega⟩
                  · rw [decide_eq_false hv]
                    cases p2 with
                    | true =>
                      have Hfalse : Hid (decide (0 < vtF (ps.take ((j + 1) + 1))) = false) := by
                        show _ = _
                        rw [HVT.out]
                        show decide (0 < vk + (if true = true then 0 else 1)) = false
                        rw [decide_eq_false (show ¬ 0 < vk + (if true = true then 0 else 1) by simp; omega)]
                      go_wp2_with fail
                      exact ⟨⟨(j + 1) + 1, by omega, by go_num, by rw [Hfalse.out], HRN, HS2, hbxW⟩, by simp [intOf]; omega⟩
                    | false =>
                      have Htrue : Hid (decide (0 < vtF (ps.take ((j + 1) + 1))) = true) := by
                        show _ = _
                        rw [HVT.out]
                        show decide (0 < vk + (if false = true then 0 else 1)) = true
                        rw [decide_eq_true (show 0 < vk + (if false = true then 0 else 1) by simp)]
                      go_wp2_with fail
                      exact ⟨⟨(j + 1) + 1, by omega, by go_num, by rw [Htrue.out], HRN, HS2, hbxW⟩, by simp [intOf]; omega⟩
            · have HG : Hid (grpF ps = false) := HNO.out (by rw [hla]; exact hc)
              have hc1 : ((p0.toNat : Int) ≤ (y0.toNat : Int)) := by have : ¬ y0.toNat < p0.toNat := fun q => hc (UInt64.lt_iff_toNat_lt.2 q); omega
              have hc2 : (p0.toNat ≤ y0.toNat) := by omega
              clear HIN HNO HRI hla
              go_quiet (fail)
              go_wp2_with fail
              go_ret
              exact ⟨by rw [HM.out, HG.out]; rfl, HBN.out _⟩
        · obtain rfl : k = ps.length := by omega
          have HRT : Hid (risF 0 (ps.map (·.1)) = true) := by
            show _ = _
            rw [← HR.out, List.drop_eq_nil_of_le (by simp)]; rfl
          have HG : Hid (grpF ps = decide (0 < vtF ps)) := by
            show _ = _
            unfold grpF
            rw [HRT.out, HS.out, decide_eq_true (show ps.length ≤ 9 by omega)]; rfl
          rw [List.take_length]
          by_cases hv : 0 < vtF ps
          · have HG2 : Hid (grpF ps = true) := by show _ = _; rw [HG.out, decide_eq_true hv]
            rw [decide_eq_true hv]
            clear hv
            go_wp2_with fail
            go_ret
            exact ⟨by rw [HM.out, HG2.out]; rfl, hbw⟩
          · have HG2 : Hid (grpF ps = false) := by show _ = _; rw [HG.out, decide_eq_false hv]
            rw [decide_eq_false hv]
            clear hv
            go_wp2_with fail
            go_ret
            exact ⟨by rw [HM.out, HG2.out]; rfl, hbw⟩
end Go.Proofs.Ytnenfflkldpbgaa
