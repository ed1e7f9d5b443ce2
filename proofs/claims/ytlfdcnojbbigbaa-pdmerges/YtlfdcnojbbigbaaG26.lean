/- checkSplit. -/
import Derived.Test.YtlfdcnojbbigbaaG25
namespace Go.Proofs.Ytlfdcnojbbigbaa
open Go.RowKit
set_option linter.unusedVariables false
set_option maxRecDepth 100000

/-- What bars a split of a region that is one, at a key that it covers. -/
abbrev cspB (id nid vr : UInt64) (k : List UInt8) (ps : List Pe) (L : List UInt64) : Prop := 64 < k.length ∨ nid = 0 ∨ nid = id ∨ L.length ≠ ps.length ∨ risF 0 L = false ∨ vr.toNat = 18446744073709551615
/-- What checkSplit answers. -/
def cspE (id nid vr : UInt64) (s e k : List UInt8) (ps : List Pe) (L : List UInt64) : Int := if chkE id s e ps ≠ 0 then chkE id s e ps else if cov s e k = false then 101 else if k = s then 101 else if cspB id nid vr k ps L then 1 else 0

theorem box6 {w W : World} {u0 u1 u2 u3 u4 u5 : Value} {t : TypeId} (hb : Below (w.alloc (.cells #[u0, u1, u2, u3, u4, u5] t)).heap.size (w.alloc (.cells #[u0, u1, u2, u3, u4, u5] t)) W) : W.heap[w.heap.size]? = some (.cells #[u0, u1, u2, u3, u4, u5] t (0, 0)) := by
  rw [hb.block _ (by simp)]; exact heap_alloc_new w _

set_option maxHeartbeats 2000000 in
theorem checkSplit_any {id nid vr : UInt64} {cf : Int} {sv ev pv kv lv : Value} {s e k : List UInt8} {ps : List Pe} {L : List UInt64} {w : World} (hs : Rd w sv s) (he : Rd w ev e) (hp : RdPe w pv ps) (hk : Rd w kv k) (hL : Ru w lv L) :
    Calls Try.prog 10 #[.agg #[.int .u64 (id.toNat : Int), sv, ev, .int .u64 cf, .int .u64 (vr.toNat : Int), pv], kv, .int .u64 (nid.toNat : Int), lv] w fun x w' => x = .returned (.int .i64 (cspE id nid vr s e k ps L)) ∧ Below w.heap.size w w' := by
  have HRS : Hid (Rd w sv s ∧ Rd w ev e ∧ RdPe w pv ps ∧ Rd w kv k ∧ Ru w lv L) := ⟨hs, he, hp, hk, hL⟩
  obtain ⟨sa, sc, rfl⟩ := hs.shp
  obtain ⟨ea, ec, rfl⟩ := he.shp
  obtain ⟨ka, kc, rfl⟩ := hk.shp
  obtain ⟨pa, pk, rfl, _⟩ := hp.shape
  obtain ⟨la, lc, rfl⟩ := hL.shape
  have hkl := hk.len
  have hll := hL.len
  have hpl : ps.length ≤ 9223372036854775807 := by obtain ⟨_, _, _, q1, q2⟩ := hp.shape; omega
  unfold maxLen at hkl hll
  have hck : cspE id nid vr s e k ps L = if chkE id s e ps ≠ 0 then chkE id s e ps else if cov s e k = false then 101 else if k = s then 101 else if cspB id nid vr k ps L then 1 else 0 := rfl
  generalize cspE id nid vr s e k ps L = res at *
  have HC : Hid _ := hck
  clear hck hs he hp hk hL
  have hbx : Below w.heap.size w (w.alloc (.cells #[.int .u64 (id.toNat : Int), .slice sa s.length sc, .slice ea e.length ec, .int .u64 cf, .int .u64 (vr.toNat : Int), .slice pa ps.length pk] 34)) := g_al w _
  have HK : Hid (∀ W, Below (w.alloc (.cells #[.int .u64 (id.toNat : Int), .slice sa s.length sc, .slice ea e.length ec, .int .u64 cf, .int .u64 (vr.toNat : Int), .slice pa ps.length pk] 34)).heap.size (w.alloc (.cells #[.int .u64 (id.toNat : Int), .slice sa s.length sc, .slice ea e.length ec, .int .u64 cf, .int .u64 (vr.toNat : Int), .slice pa ps.length pk] 34)) W → W.heap[w.heap.size]? = some (.cells #[.int .u64 (id.toNat : Int), .slice sa s.length sc, .slice ea e.length ec, .int .u64 cf, .int .u64 (vr.toNat : Int), .slice pa ps.length pk] 34 (0, 0))) := fun W hW => box6 hW
  have hchk : ∀ W, Below w.heap.size w W → Calls Try.prog 18 #[.agg #[.int .u64 (id.toNat : Int), .slice sa s.length sc, .slice ea e.length ec, .int .u64 cf, .int .u64 (vr.toNat : Int), .slice pa ps.length pk]] W fun x w' => x = .returned (.int .i64 (chkE id s e ps)) ∧ Below W.heap.size W w' := fun W hW => check_any (HRS.out.1.below hW (Nat.le_refl _)) (HRS.out.2.1.below hW (Nat.le_refl _)) (HRS.out.2.2.1.below hW (Nat.le_refl _))
  have hcv : ∀ W, Below w.heap.size w W → Calls Try.prog 19 #[.agg #[.int .u64 (id.toNat : Int), .slice sa s.length sc, .slice ea e.length ec, .int .u64 cf, .int .u64 (vr.toNat : Int), .slice pa ps.length pk], .slice ka k.length kc] W fun x w' => x = .returned (.bool (cov s e k)) ∧ Below W.heap.size W w' := fun W hW => covers_any (HRS.out.1.below hW (Nat.le_refl _)) (HRS.out.2.1.below hW (Nat.le_refl _)) (HRS.out.2.2.2.1.below hW (Nat.le_refl _))
  have heq : ∀ W, Below w.heap.size w W → Calls Try.prog 20 #[.slice ka k.length kc, .slice sa s.length sc] W fun x w' => x = .returned (.bool (decide (k = s))) ∧ w' = W := fun W hW => bequal_any (HRS.out.2.2.2.1.below hW (Nat.le_refl _)) (HRS.out.1.below hW (Nat.le_refl _))
  have hri : ∀ W, Below w.heap.size w W → Calls Try.prog 21 #[.slice la L.length lc] W fun x w' => x = .returned (.bool (risF 0 L)) ∧ w' = W := fun W hW => rises_any (HRS.out.2.2.2.2.below hW (Nat.le_refl _))
  have hgr : ∀ W, Calls Try.prog 22 #[.int .u64 (vr.toNat : Int)] W fun x w' => x = .returned (.bool (decide (vr.toNat = 18446744073709551615))) ∧ w' = W := fun W => greatest_any vr W
  generalize hcE : chkE id s e ps = ce at *
  generalize hcV : cov s e k = cv at *
  have H0 : Hid _ := And.intro hcE hcV
  clear hcE hcV
  go_enter Try.func10, Try.ntmps10
  go_wp2_with fail
  refine (hchk _ hbx).mono ?_
  rintro x w1 ⟨rfl, hb1⟩
  have hB1 : Below w.heap.size w w1 := hbx.trans (hb1.mono hbx.size)
  obtain ⟨c0, c1, c2, c3, c4, c5, _⟩ := cells6 (HK.out w1 hb1)
  by_cases hce : ce = 0
  · subst hce
    go_wp2_with fail
    refine (hcv _ hB1).mono ?_
    rintro x w2 ⟨rfl, hb2⟩
    have hb12 := hb1.trans (hb2.mono hb1.size)
    have hB2 : Below w.heap.size w w2 := hB1.trans (hb2.mono hB1.size)
    obtain ⟨d0, d1, d2, d3, d4, d5, _⟩ := cells6 (HK.out w2 hb12)
    clear c0 c1 c2 c3 c4 c5
    cases hcq : cv with
    | false =>
      subst hcq
      go_wp2_with fail
      go_ret
      exact ⟨by rw [HC.out]; first | rfl | simp, hB2⟩
    | true =>
      subst hcq
      have heq2 := heq _ hB2
      by_cases hks : k = s
      · rw [decide_eq_true hks] at heq2
        have HKS : Hid _ := hks
        clear hks
        go_wp2_with fail
        refine heq2.mono ?_
        rintro x w3 ⟨rfl, rfl⟩
        go_wp2_with fail
        go_ret
        exact ⟨by rw [HC.out, if_neg (by simp), if_neg (by simp), if_pos HKS.out]; rfl, hB2⟩
      · rw [decide_eq_false hks] at heq2
        have HN : Hid (res = if cspB id nid vr k ps L then 1 else 0) := by
          show _ = _
          rw [HC.out, if_neg (by simp), if_neg (by simp), if_neg hks]
        clear hks HC heq hcv hchk
        go_wp2_with fail
        refine heq2.mono ?_
        rintro x w3 ⟨rfl, rfl⟩
        clear heq2
        by_cases h1 : 64 < k.length
        · have g1 : (64 : Int) < (k.length : Int) := by omega
          have HB : Hid (cspB id nid vr k ps L) := .inl h1
          clear h1
          go_wp2_with fail
          go_ret
          exact ⟨by rw [HN.out, if_pos HB.out]; rfl, hB2⟩
        have g1 : ¬ (64 : Int) < (k.length : Int) := by omega
        by_cases h2 : nid = 0
        · have HB : Hid (cspB id nid vr k ps L) := .inr (.inl h2)
          have g2 : ((nid.toNat : Int) == 0) = true := by rw [h2]; rfl
          have g3 : (nid.toNat : Int) = 0 := by rw [h2]; rfl
          clear h2
          go_wp2_with fail
          go_ret
          exact ⟨by rw [HN.out, if_pos HB.out]; rfl, hB2⟩
        have hz2 : ¬ nid.toNat = 0 := fun q => h2 (UInt64.toNat_inj.1 q)
        have g2 : ((nid.toNat : Int) == 0) = false := by simp; omega
        have g2' : ¬ (nid.toNat : Int) = 0 := by omega
        by_cases h3 : nid = id
        · have HB : Hid (cspB id nid vr k ps L) := .inr (.inr (.inl h3))
          subst h3
          go_wp2_with fail
          go_ret
          exact ⟨by rw [HN.out, if_pos HB.out]; rfl, hB2⟩
        have hz3 : ¬ nid.toNat = id.toNat := fun q => h3 (UInt64.toNat_inj.1 q)
        have g3 : ((nid.toNat : Int) == (id.toNat : Int)) = false := by simp; omega
        have g3' : ¬ (nid.toNat : Int) = (id.toNat : Int) := by omega
        by_cases h4 : L.length = ps.length
        · have HLP : Hid _ := h4
          have g4 : ((L.length : Int) != (ps.length : Int)) = false := by simp; omega
          have hri2 := hri _ hB2
          clear hri
          by_cases h5 : risF 0 L = true
          · rw [h5] at hri2
            have HR5 : Hid _ := h5
            clear h5 h4
            go_wp2_with fail
            refine hri2.mono ?_
            rintro x w4 ⟨rfl, rfl⟩
            have hgr2 := hgr w4
            by_cases h6 : vr.toNat = 18446744073709551615
            · have HB : Hid (cspB id nid vr k ps L) := .inr (.inr (.inr (.inr (.inr h6))))
              rw [decide_eq_true h6] at hgr2
              clear h6
              go_wp2_with fail
              refine hgr2.mono ?_
              rintro x w5 ⟨rfl, rfl⟩
              go_wp2_with fail
              go_ret
              exact ⟨by rw [HN.out, if_pos HB.out]; rfl, hB2⟩
            · have HB : Hid (¬ cspB id nid vr k ps L) := by
                rintro (q | q | q | q | q | q)
                · omega
                · exact h2 q
                · exact h3 q
                · exact q HLP.out
                · rw [HR5.out] at q; cases q
                · exact h6 q
              rw [decide_eq_false h6] at hgr2
              clear h6
              go_wp2_with fail
              refine hgr2.mono ?_
              rintro x w5 ⟨rfl, rfl⟩
              go_wp2_with fail
              go_ret
              exact ⟨by rw [HN.out, if_neg HB.out]; rfl, hB2⟩
          · have h5' : risF 0 L = false := by simpa using h5
            have HB : Hid (cspB id nid vr k ps L) := .inr (.inr (.inr (.inr (.inl h5'))))
            rw [h5'] at hri2
            clear h5 h5' h4
            go_wp2_with fail
            refine hri2.mono ?_
            rintro x w4 ⟨rfl, rfl⟩
            go_wp2_with fail
            go_ret
            exact ⟨by rw [HN.out, if_pos HB.out]; rfl, hB2⟩
        · have HB : Hid (cspB id nid vr k ps L) := .inr (.inr (.inr (.inl h4)))
          have g4 : ((L.length : Int) != (ps.length : Int)) = true := by simp; omega
          have g4' : ¬ (L.length : Int) = (ps.length : Int) := by omega
          go_wp2_with fail
          go_ret
          exact ⟨by rw [HN.out, if_pos HB.out]; rfl, hB2⟩
  · have g0 : (ce != 0) = true := by simp [hce]
    have HN : Hid (res = ce) := by show _ = _; rw [HC.out, if_pos hce]
    go_wp2_with fail
    go_ret
    exact ⟨by rw [HN.out]; rfl, hB1⟩
end Go.Proofs.Ytlfdcnojbbigbaa
