/- RegionEpochs's walk (tools/genepochs.py). -/
import Derived.Test.YtanafjbiclicpaaG7
import Derived.Test.YtanafjbiclicpaaG8
import Derived.Deep.RegionHeld3
import Derived.Deep.CutRange
namespace Go.Proofs.Ytanafjbiclicpaa
open Go.RowKit
set_option linter.unusedVariables false
set_option maxRecDepth 100000

theorem nwr_asym {a b c d : UInt64} (h : nwr a b c d = true) : nwr c d a b = false := by
  rw [nwr_iff] at h
  cases q : nwr c d a b with
  | false => rfl
  | true => rw [nwr_iff] at q; omega
theorem nwr_self (a b : UInt64) : nwr a b a b = false := by
  cases q : nwr a b a b with
  | false => rfl
  | true => rw [nwr_iff] at q; omega
theorem nwr_tot {a b c d : UInt64} (h : ¬ (a = c ∧ b = d)) : nwr a b c d = true ∨ nwr c d a b = true := by
  rw [nwr_iff, nwr_iff]
  by_cases h1 : b.toNat = d.toNat
  · have h2 : a.toNat ≠ c.toNat := fun q => h ⟨UInt64.toNat_inj.1 q, UInt64.toNat_inj.1 h1⟩
    omega
  · omega
theorem nwr_trans {a b c d e f : UInt64} (h1 : nwr a b c d = true) (h2 : nwr c d e f = true) : nwr a b e f = true := by
  rw [nwr_iff] at *
  omega
theorem stl_self (a b : UInt64) : stl a b a b = false := by
  unfold stl
  rw [decide_eq_false (by omega), decide_eq_false (by omega)]; rfl
set_option maxHeartbeats 8000000 in
theorem regionEpochs_any (cfa vra cfb vrb cfc vrc : UInt64) (w : World) :
    Calls Try.prog 7 #[.agg #[.int .u64 (cfa.toNat : Int), .int .u64 (vra.toNat : Int)], .agg #[.int .u64 (cfb.toNat : Int), .int .u64 (vrb.toNat : Int)], .agg #[.int .u64 (cfc.toNat : Int), .int .u64 (vrc.toNat : Int)]] w fun x w' => x = .returned (.bool true) ∧ Below w.heap.size w w' := by
  have hb0 : Below w.heap.size w (((w.alloc (.cells #[.int .u64 (cfa.toNat : Int), .int .u64 (vra.toNat : Int)] 25)).alloc (.cells #[.int .u64 (cfb.toNat : Int), .int .u64 (vrb.toNat : Int)] 25)).alloc (.cells #[.int .u64 (cfc.toNat : Int), .int .u64 (vrc.toNat : Int)] 25)) := ((g_al w _).alloc (by simp) _).alloc (by simp; omega) _
  have ha0 : (((w.alloc (.cells #[.int .u64 (cfa.toNat : Int), .int .u64 (vra.toNat : Int)] 25)).alloc (.cells #[.int .u64 (cfb.toNat : Int), .int .u64 (vrb.toNat : Int)] 25)).alloc (.cells #[.int .u64 (cfc.toNat : Int), .int .u64 (vrc.toNat : Int)] 25)).heap[w.heap.size]? = some (.cells #[.int .u64 (cfa.toNat : Int), .int .u64 (vra.toNat : Int)] 25 (0, 0)) := (Below.heap_alloc _ _ _ (by simp; omega)).trans ((Below.heap_alloc _ _ _ (by simp)).trans (heap_alloc_new w _))
  have hbb0 : (((w.alloc (.cells #[.int .u64 (cfa.toNat : Int), .int .u64 (vra.toNat : Int)] 25)).alloc (.cells #[.int .u64 (cfb.toNat : Int), .int .u64 (vrb.toNat : Int)] 25)).alloc (.cells #[.int .u64 (cfc.toNat : Int), .int .u64 (vrc.toNat : Int)] 25)).heap[w.heap.size + 1]? = some (.cells #[.int .u64 (cfb.toNat : Int), .int .u64 (vrb.toNat : Int)] 25 (0, 0)) := (Below.heap_alloc _ _ _ (by simp)).trans (by have := heap_alloc_new (w.alloc (.cells #[.int .u64 (cfa.toNat : Int), .int .u64 (vra.toNat : Int)] 25)) (.cells #[.int .u64 (cfb.toNat : Int), .int .u64 (vrb.toNat : Int)] 25); rw [World.size_alloc] at this; exact this)
  have hc0 : (((w.alloc (.cells #[.int .u64 (cfa.toNat : Int), .int .u64 (vra.toNat : Int)] 25)).alloc (.cells #[.int .u64 (cfb.toNat : Int), .int .u64 (vrb.toNat : Int)] 25)).alloc (.cells #[.int .u64 (cfc.toNat : Int), .int .u64 (vrc.toNat : Int)] 25)).heap[w.heap.size + 1 + 1]? = some (.cells #[.int .u64 (cfc.toNat : Int), .int .u64 (vrc.toNat : Int)] 25 (0, 0)) := by
    have := heap_alloc_new ((w.alloc (.cells #[.int .u64 (cfa.toNat : Int), .int .u64 (vra.toNat : Int)] 25)).alloc (.cells #[.int .u64 (cfb.toNat : Int), .int .u64 (vrb.toNat : Int)] 25)) (.cells #[.int .u64 (cfc.toNat : Int), .int .u64 (vrc.toNat : Int)] 25)
    rw [World.size_alloc, World.size_alloc] at this
    exact this
  go_enter Try.func7, Try.ntmps7
  go_wp2_with fail
  generalize (((w.alloc (.cells #[.int .u64 (cfa.toNat : Int), .int .u64 (vra.toNat : Int)] 25)).alloc (.cells #[.int .u64 (cfb.toNat : Int), .int .u64 (vrb.toNat : Int)] 25)).alloc (.cells #[.int .u64 (cfc.toNat : Int), .int .u64 (vrc.toNat : Int)] 25)) = W0 at *
  refine (awake_any W0).mono ?_
  rintro x W1 ⟨rfl, hbW⟩
  have hW1 : Below w.heap.size w W1 := hb0.trans (hbW.mono hb0.size)
  have hx1 := (hbW.block _ (lt_of_some ha0)).trans ha0
  have hy1 := (hbW.block _ (lt_of_some hbb0)).trans hbb0
  have hz1 := (hbW.block _ (lt_of_some hc0)).trans hc0
  have HK : Hid (∀ W, Below W1.heap.size W1 W → W.heap[w.heap.size]? = some (.cells #[.int .u64 (cfa.toNat : Int), .int .u64 (vra.toNat : Int)] 25 (0, 0)) ∧ W.heap[w.heap.size + 1]? = some (.cells #[.int .u64 (cfb.toNat : Int), .int .u64 (vrb.toNat : Int)] 25 (0, 0)) ∧ W.heap[w.heap.size + 1 + 1]? = some (.cells #[.int .u64 (cfc.toNat : Int), .int .u64 (vrc.toNat : Int)] 25 (0, 0))) := fun W hW => ⟨(hW.block _ (lt_of_some hx1)).trans hx1, (hW.block _ (lt_of_some hy1)).trans hy1, (hW.block _ (lt_of_some hz1)).trans hz1⟩
  have hab : ∀ W, Below W1.heap.size W1 W → Calls Try.prog 25 #[.agg #[.int .u64 (cfa.toNat : Int), .int .u64 (vra.toNat : Int)], .agg #[.int .u64 (cfb.toNat : Int), .int .u64 (vrb.toNat : Int)]] W fun e1 w' => e1 = .returned (.bool (nwr cfa vra cfb vrb)) ∧ Below W1.heap.size W1 w' := fun W hW => (newer_any _ _ _ _ W).mono (by rintro e1 w' ⟨rfl, hb⟩; exact ⟨rfl, hW.trans (hb.mono hW.size)⟩)
  have hba : ∀ W, Below W1.heap.size W1 W → Calls Try.prog 25 #[.agg #[.int .u64 (cfb.toNat : Int), .int .u64 (vrb.toNat : Int)], .agg #[.int .u64 (cfa.toNat : Int), .int .u64 (vra.toNat : Int)]] W fun e1 w' => e1 = .returned (.bool (nwr cfb vrb cfa vra)) ∧ Below W1.heap.size W1 w' := fun W hW => (newer_any _ _ _ _ W).mono (by rintro e1 w' ⟨rfl, hb⟩; exact ⟨rfl, hW.trans (hb.mono hW.size)⟩)
  have hbc : ∀ W, Below W1.heap.size W1 W → Calls Try.prog 25 #[.agg #[.int .u64 (cfb.toNat : Int), .int .u64 (vrb.toNat : Int)], .agg #[.int .u64 (cfc.toNat : Int), .int .u64 (vrc.toNat : Int)]] W fun e1 w' => e1 = .returned (.bool (nwr cfb vrb cfc vrc)) ∧ Below W1.heap.size W1 w' := fun W hW => (newer_any _ _ _ _ W).mono (by rintro e1 w' ⟨rfl, hb⟩; exact ⟨rfl, hW.trans (hb.mono hW.size)⟩)
  have hac : ∀ W, Below W1.heap.size W1 W → Calls Try.prog 25 #[.agg #[.int .u64 (cfa.toNat : Int), .int .u64 (vra.toNat : Int)], .agg #[.int .u64 (cfc.toNat : Int), .int .u64 (vrc.toNat : Int)]] W fun e1 w' => e1 = .returned (.bool (nwr cfa vra cfc vrc)) ∧ Below W1.heap.size W1 w' := fun W hW => (newer_any _ _ _ _ W).mono (by rintro e1 w' ⟨rfl, hb⟩; exact ⟨rfl, hW.trans (hb.mono hW.size)⟩)
  have hst : ∀ W, Below W1.heap.size W1 W → Calls Try.prog 27 #[.agg #[.int .u64 0, .slice none 0 0, .slice none 0 0, .int .u64 (cfa.toNat : Int), .int .u64 (vra.toNat : Int), .slice none 0 0], .agg #[.int .u64 (cfa.toNat : Int), .int .u64 (vra.toNat : Int)]] W fun e1 w' => e1 = .returned (.bool false) ∧ Below W.heap.size W w' := fun W hW => (stale_any cfa vra cfa vra ⟨_, _, _, rfl⟩ ⟨_, _, _, rfl⟩ ⟨_, _, _, rfl⟩).mono (by rintro e1 w' ⟨rfl, hb⟩; rw [stl_self]; exact ⟨rfl, hb⟩)
  have hsb : ∀ W, Below W1.heap.size W1 W → Calls Try.prog 27 #[.agg #[.int .u64 0, .slice none 0 0, .slice none 0 0, .int .u64 (cfa.toNat : Int), .int .u64 (vra.toNat : Int), .slice none 0 0], .agg #[.int .u64 (cfb.toNat : Int), .int .u64 (vrb.toNat : Int)]] W fun e1 w' => e1 = .returned (.bool (stl cfa vra cfb vrb)) ∧ Below W.heap.size W w' := fun W hW => stale_any cfa vra cfb vrb ⟨_, _, _, rfl⟩ ⟨_, _, _, rfl⟩ ⟨_, _, _, rfl⟩
  have FM : Hid ((nwr cfa vra cfb vrb = true → nwr cfb vrb cfa vra = false) ∧ (cfa = cfb ∧ vra = vrb → nwr cfa vra cfb vrb = false) ∧ (¬ (cfa = cfb ∧ vra = vrb) → nwr cfa vra cfb vrb = true ∨ nwr cfb vrb cfa vra = true) ∧ (nwr cfa vra cfb vrb = true → nwr cfb vrb cfc vrc = true → nwr cfa vra cfc vrc = true) ∧ stl cfa vra cfb vrb = (decide (cfb.toNat < cfa.toNat) || decide (vrb.toNat < vra.toNat))) := ⟨nwr_asym, fun h => by rw [h.1, h.2]; exact nwr_self _ _, nwr_tot, nwr_trans, rfl⟩
  generalize nwr cfa vra cfb vrb = ab at *
  generalize nwr cfb vrb cfa vra = ba at *
  generalize nwr cfb vrb cfc vrc = bc at *
  generalize nwr cfa vra cfc vrc = ac at *
  generalize stl cfa vra cfb vrb = sb at *
  clear ha0 hbb0 hc0 hb0 hbW
  have hS1 : Below W1.heap.size W1 W1 := Below.refl _ _
  obtain ⟨sm, hsm⟩ : ∃ sm : Bool, sm = decide (cfa = cfb ∧ vra = vrb) := ⟨_, rfl⟩
  have HSM : Hid _ := hsm
  clear hsm
  obtain ⟨a0, a1, _⟩ := box2 (w := w) hx1
  obtain ⟨b0, b1, _⟩ := box2 (w := w) hy1
  obtain ⟨c0, c1, _⟩ := box2 (w := w) hz1
  go_upto_region 3 with fail
  go_cut [7] from 9 to 89 (fun v wx => v = .bool sm ∧ Below W1.heap.size W1 wx)
  case first =>
    by_cases h1 : cfa = cfb
    · subst h1
      by_cases h2 : vra = vrb
      · subst h2
        have hm : sm = true := by rw [HSM.out]; simp
        have HM : Hid _ := hm
        clear hm
        go_wp2_with fail
        go_meet
        exact ⟨by rw [HM.out], hS1⟩
      · have hm : sm = false := by rw [HSM.out]; simp [h2]
        have HM : Hid _ := hm
        clear hm
        have g2 : ((vra.toNat : Int) == (vrb.toNat : Int)) = false := beq_eq_false_iff_ne.2 (fun q => h2 (UInt64.toNat_inj.1 (by omega)))
        go_wp2_with fail
        go_meet
        exact ⟨by rw [HM.out], hS1⟩
    · have hm : sm = false := by rw [HSM.out]; simp [h1]
      have HM : Hid _ := hm
      clear hm
      have g1 : ((cfa.toNat : Int) == (cfb.toNat : Int)) = false := beq_eq_false_iff_ne.2 (fun q => h1 (UInt64.toNat_inj.1 (by omega)))
      go_wp2_with fail
      go_meet
      exact ⟨by rw [HM.out], hS1⟩
  case rest =>
    obtain ⟨rfl, hS3⟩ := hcut
    obtain ⟨w3, hw3⟩ : ∃ w3, w3 = wc := ⟨wc, rfl⟩
    subst hw3
    clear a0 a1 b0 b1 c0 c1
    obtain ⟨hx3, hy3, hz3⟩ := HK.out _ hS3
    obtain ⟨a0, a1, _⟩ := box2 (w := w) hx3
    obtain ⟨b0, b1, _⟩ := box2 (w := w) hy3
    obtain ⟨c0, c1, _⟩ := box2 (w := w) hz3
    go_upto_region 4 with fail
    go_cut [7, 54] from 9 to 89 (fun _ v wx => v = .bool false ∧ Below W1.heap.size W1 wx)
    case first =>
      cases hsq : sm with
      | true =>
        have hsame : cfa = cfb ∧ vra = vrb := of_decide_eq_true (HSM.out.symm.trans hsq)
        obtain rfl : ab = false := FM.out.2.1 hsame
        clear hsame hsq
        go_wp2_with fail
        refine (hab _ hS3).mono ?_
        rintro e1 v20 ⟨rfl, hS20⟩
        clear a0 a1 b0 b1 c0 c1
        obtain ⟨hx20, hy20, hz20⟩ := HK.out _ hS20
        obtain ⟨a0, a1, _⟩ := box2 (w := w) hx20
        obtain ⟨b0, b1, _⟩ := box2 (w := w) hy20
        obtain ⟨c0, c1, _⟩ := box2 (w := w) hz20
        go_wp2_with fail
        refine (hab _ hS20).mono ?_
        rintro e1 v21 ⟨rfl, hS21⟩
        clear a0 a1 b0 b1 c0 c1
        obtain ⟨hx21, hy21, hz21⟩ := HK.out _ hS21
        obtain ⟨a0, a1, _⟩ := box2 (w := w) hx21
        obtain ⟨b0, b1, _⟩ := box2 (w := w) hy21
        obtain ⟨c0, c1, _⟩ := box2 (w := w) hz21
        go_wp2_with fail
        go_meet
        exact ⟨rfl, hS21⟩
      | false =>
        have hsame : ¬ (cfa = cfb ∧ vra = vrb) := of_decide_eq_false (HSM.out.symm.trans hsq)
        have hor := FM.out.2.2.1 hsame
        clear hsame hsq
        cases hq : ab with
        | true =>
          subst hq
          obtain rfl : ba = false := FM.out.1 (by trivial)
          clear hor
          go_wp2_with fail
          refine (hab _ hS3).mono ?_
          rintro e1 v20 ⟨rfl, hS20⟩
          clear a0 a1 b0 b1 c0 c1
          obtain ⟨hx20, hy20, hz20⟩ := HK.out _ hS20
          obtain ⟨a0, a1, _⟩ := box2 (w := w) hx20
          obtain ⟨b0, b1, _⟩ := box2 (w := w) hy20
          obtain ⟨c0, c1, _⟩ := box2 (w := w) hz20
          go_wp2_with fail
          refine (hba _ hS20).mono ?_
          rintro e1 v21 ⟨rfl, hS21⟩
          clear a0 a1 b0 b1 c0 c1
          obtain ⟨hx21, hy21, hz21⟩ := HK.out _ hS21
          obtain ⟨a0, a1, _⟩ := box2 (w := w) hx21
          obtain ⟨b0, b1, _⟩ := box2 (w := w) hy21
          obtain ⟨c0, c1, _⟩ := box2 (w := w) hz21
          go_wp2_with fail
          refine (hab _ hS21).mono ?_
          rintro e1 v22 ⟨rfl, hS22⟩
          clear a0 a1 b0 b1 c0 c1
          obtain ⟨hx22, hy22, hz22⟩ := HK.out _ hS22
          obtain ⟨a0, a1, _⟩ := box2 (w := w) hx22
          obtain ⟨b0, b1, _⟩ := box2 (w := w) hy22
          obtain ⟨c0, c1, _⟩ := box2 (w := w) hz22
          go_wp2_with fail
          go_meet
          exact ⟨rfl, hS22⟩
        | false =>
          subst hq
          obtain rfl : ba = true := hor.resolve_left (by simp)
          clear hor
          go_wp2_with fail
          refine (hab _ hS3).mono ?_
          rintro e1 v20 ⟨rfl, hS20⟩
          clear a0 a1 b0 b1 c0 c1
          obtain ⟨hx20, hy20, hz20⟩ := HK.out _ hS20
          obtain ⟨a0, a1, _⟩ := box2 (w := w) hx20
          obtain ⟨b0, b1, _⟩ := box2 (w := w) hy20
          obtain ⟨c0, c1, _⟩ := box2 (w := w) hz20
          go_wp2_with fail
          refine (hab _ hS20).mono ?_
          rintro e1 v21 ⟨rfl, hS21⟩
          clear a0 a1 b0 b1 c0 c1
          obtain ⟨hx21, hy21, hz21⟩ := HK.out _ hS21
          obtain ⟨a0, a1, _⟩ := box2 (w := w) hx21
          obtain ⟨b0, b1, _⟩ := box2 (w := w) hy21
          obtain ⟨c0, c1, _⟩ := box2 (w := w) hz21
          go_wp2_with fail
          refine (hba _ hS21).mono ?_
          rintro e1 v22 ⟨rfl, hS22⟩
          clear a0 a1 b0 b1 c0 c1
          obtain ⟨hx22, hy22, hz22⟩ := HK.out _ hS22
          obtain ⟨a0, a1, _⟩ := box2 (w := w) hx22
          obtain ⟨b0, b1, _⟩ := box2 (w := w) hy22
          obtain ⟨c0, c1, _⟩ := box2 (w := w) hz22
          go_wp2_with fail
          go_meet
          exact ⟨rfl, hS22⟩
    case rest =>
      obtain ⟨rfl, hS4⟩ := hcut
      obtain ⟨w4, hw4⟩ : ∃ w4, w4 = wc := ⟨wc, rfl⟩
      subst hw4
      clear a0 a1 b0 b1 c0 c1
      obtain ⟨hx4, hy4, hz4⟩ := HK.out _ hS4
      obtain ⟨a0, a1, _⟩ := box2 (w := w) hx4
      obtain ⟨b0, b1, _⟩ := box2 (w := w) hy4
      obtain ⟨c0, c1, _⟩ := box2 (w := w) hz4
      go_upto_region 6 with fail
      go_cut [68] from 9 to 89 (fun v wx => v = .bool false ∧ Below W1.heap.size W1 wx)
      case first =>
        cases hq : ab with
        | false =>
          subst hq
          go_wp2_with fail
          refine (hab _ hS4).mono ?_
          rintro e1 v20 ⟨rfl, hS20⟩
          clear a0 a1 b0 b1 c0 c1
          obtain ⟨hx20, hy20, hz20⟩ := HK.out _ hS20
          obtain ⟨a0, a1, _⟩ := box2 (w := w) hx20
          obtain ⟨b0, b1, _⟩ := box2 (w := w) hy20
          obtain ⟨c0, c1, _⟩ := box2 (w := w) hz20
          go_wp2_with fail
          go_meet
          exact ⟨rfl, hS20⟩
        | true =>
          subst hq
          go_wp2_with fail
          refine (hab _ hS4).mono ?_
          rintro e1 v20 ⟨rfl, hS20⟩
          clear a0 a1 b0 b1 c0 c1
          obtain ⟨hx20, hy20, hz20⟩ := HK.out _ hS20
          obtain ⟨a0, a1, _⟩ := box2 (w := w) hx20
          obtain ⟨b0, b1, _⟩ := box2 (w := w) hy20
          obtain ⟨c0, c1, _⟩ := box2 (w := w) hz20
          cases hq2 : bc with
          | false =>
            subst hq2
            go_wp2_with fail
            refine (hbc _ hS20).mono ?_
            rintro e1 v21 ⟨rfl, hS21⟩
            clear a0 a1 b0 b1 c0 c1
            obtain ⟨hx21, hy21, hz21⟩ := HK.out _ hS21
            obtain ⟨a0, a1, _⟩ := box2 (w := w) hx21
            obtain ⟨b0, b1, _⟩ := box2 (w := w) hy21
            obtain ⟨c0, c1, _⟩ := box2 (w := w) hz21
            go_wp2_with fail
            go_meet
            exact ⟨rfl, hS21⟩
          | true =>
            subst hq2
            obtain rfl : ac = true := FM.out.2.2.2.1 (by trivial) (by trivial)
            go_wp2_with fail
            refine (hbc _ hS20).mono ?_
            rintro e1 v21 ⟨rfl, hS21⟩
            clear a0 a1 b0 b1 c0 c1
            obtain ⟨hx21, hy21, hz21⟩ := HK.out _ hS21
            obtain ⟨a0, a1, _⟩ := box2 (w := w) hx21
            obtain ⟨b0, b1, _⟩ := box2 (w := w) hy21
            obtain ⟨c0, c1, _⟩ := box2 (w := w) hz21
            go_wp2_with fail
            refine (hac _ hS21).mono ?_
            rintro e1 v22 ⟨rfl, hS22⟩
            clear a0 a1 b0 b1 c0 c1
            obtain ⟨hx22, hy22, hz22⟩ := HK.out _ hS22
            obtain ⟨a0, a1, _⟩ := box2 (w := w) hx22
            obtain ⟨b0, b1, _⟩ := box2 (w := w) hy22
            obtain ⟨c0, c1, _⟩ := box2 (w := w) hz22
            go_wp2_with fail
            go_meet
            exact ⟨rfl, hS22⟩
      case rest =>
        obtain ⟨rfl, hS6⟩ := hcut
        obtain ⟨w6, hw6⟩ : ∃ w6, w6 = wc := ⟨wc, rfl⟩
        subst hw6
        clear a0 a1 b0 b1 c0 c1
        obtain ⟨hx6, hy6, hz6⟩ := HK.out _ hS6
        obtain ⟨a0, a1, _⟩ := box2 (w := w) hx6
        obtain ⟨b0, b1, _⟩ := box2 (w := w) hy6
        obtain ⟨c0, c1, _⟩ := box2 (w := w) hz6
        have hS8 : Below W1.heap.size W1 (w6.alloc (.cells #[.int .u64 0, .slice none 0 0, .slice none 0 0, .int .u64 (cfa.toNat : Int), .int .u64 (vra.toNat : Int), .slice none 0 0] 28)) := hS6.alloc hS6.size _
        have hr8 : (w6.alloc (.cells #[.int .u64 0, .slice none 0 0, .slice none 0 0, .int .u64 (cfa.toNat : Int), .int .u64 (vra.toNat : Int), .slice none 0 0] 28)).heap[w6.heap.size]? = some (.cells #[.int .u64 0, .slice none 0 0, .slice none 0 0, .int .u64 (cfa.toNat : Int), .int .u64 (vra.toNat : Int), .slice none 0 0] 28 (0, 0)) := heap_alloc_new w6 _
        obtain ⟨hx8, hy8, hz8⟩ := HK.out _ hS8
        obtain ⟨p0, p1, _⟩ := box2 (w := w) hx8
        go_wp2_with fail
        refine (hst _ hS8).mono ?_
        rintro e1 w9 ⟨rfl, hb9⟩
        have hS9 : Below W1.heap.size W1 w9 := hS8.trans (hb9.mono hS8.size)
        have hr9 := (hb9.block _ (lt_of_some hr8)).trans hr8
        obtain ⟨hx9, hy9, _⟩ := HK.out _ hS9
        have HK9 : Hid (∀ W, Below w9.heap.size w9 W → W.heap[w.heap.size]? = some (.cells #[.int .u64 (cfa.toNat : Int), .int .u64 (vra.toNat : Int)] 25 (0, 0)) ∧ W.heap[w.heap.size + 1]? = some (.cells #[.int .u64 (cfb.toNat : Int), .int .u64 (vrb.toNat : Int)] 25 (0, 0)) ∧ W.heap[w6.heap.size]? = some (.cells #[.int .u64 0, .slice none 0 0, .slice none 0 0, .int .u64 (cfa.toNat : Int), .int .u64 (vra.toNat : Int), .slice none 0 0] 28 (0, 0))) := fun W hW => ⟨(hW.block _ (lt_of_some hx9)).trans hx9, (hW.block _ (lt_of_some hy9)).trans hy9, (hW.block _ (lt_of_some hr9)).trans hr9⟩
        have hsb9 : ∀ W, Below w9.heap.size w9 W → Calls Try.prog 27 #[.agg #[.int .u64 0, .slice none 0 0, .slice none 0 0, .int .u64 (cfa.toNat : Int), .int .u64 (vra.toNat : Int), .slice none 0 0], .agg #[.int .u64 (cfb.toNat : Int), .int .u64 (vrb.toNat : Int)]] W fun e1 w' => e1 = .returned (.bool sb) ∧ Below w9.heap.size w9 w' := fun W hW => (hsb W (hS9.trans (hW.mono hS9.size))).mono (by rintro e1 w' ⟨rfl, hb⟩; exact ⟨rfl, hW.trans (hb.mono hW.size)⟩)
        clear a0 a1 b0 b1 c0 c1 p0 p1 hr8 hx8 hy8 hz8
        go_upto_region 11 with fail
        have hd9 : Below w9.heap.size w9 w9.drew := Below.dN w9 1
        have hfin : ∀ W, Below w9.heap.size w9 W → Below w.heap.size w W := fun W hW => hW1.trans ((hS9.trans (hW.mono hS9.size)).mono hW1.size)
        by_cases h1 : cfb.toNat < cfa.toNat
        · obtain rfl : sb = true := by rw [FM.out.2.2.2.2, decide_eq_true h1]; rfl
          have g1 : (cfb.toNat : Int) < (cfa.toNat : Int) := by omega
          refine wp_region_held_drew (S := (fun W => Below w9.heap.size w9 W)) (by kernel_rfl) hd9 (fun _ => ?_)
          refine wpAnyH_take (i := 0) (v := .agg #[.int .u64 0, .slice none 0 0, .slice none 0 0, .int .u64 (cfa.toNat : Int), .int .u64 (vra.toNat : Int), .slice none 0 0]) rfl (by kernel_rfl) (by kernel_rfl) (by kernel_rfl) (fun _ _ _ h => h) (.inl ⟨by kernel_rfl, fun W hW => by obtain ⟨hx, hy, hz⟩ := HK9.out W hW; obtain ⟨a0, a1, _⟩ := box2 (w := w) hx; obtain ⟨b0, b1, _⟩ := box2 (w := w) hy; obtain ⟨r0, r1, r2, r3, r4, r5, _⟩ := cells6 hz; go_simp⟩) hd9 ?_
          refine wpAnyH_take (i := 1) (v := .agg #[.int .u64 (cfb.toNat : Int), .int .u64 (vrb.toNat : Int)]) rfl (by kernel_rfl) (by kernel_rfl) (by kernel_rfl) (fun _ _ _ h => h) (.inl ⟨by kernel_rfl, fun W hW => by obtain ⟨hx, hy, hz⟩ := HK9.out W hW; obtain ⟨a0, a1, _⟩ := box2 (w := w) hx; obtain ⟨b0, b1, _⟩ := box2 (w := w) hy; obtain ⟨r0, r1, r2, r3, r4, r5, _⟩ := cells6 hz; go_simp⟩) hd9 ?_
          refine wpAnyH_take (i := 3) (v := .pointer (some ⟨w.heap.size + 1, 0, none⟩)) rfl (by kernel_rfl) (by kernel_rfl) (by kernel_rfl) (fun _ _ _ h => h) (.inl ⟨by kernel_rfl, fun W hW => by kernel_rfl⟩) hd9 ?_
          refine wpAnyH_take (i := 4) (v := .int .u64 (cfb.toNat : Int)) rfl (by kernel_rfl) (by kernel_rfl) (by kernel_rfl) (fun _ _ _ h => h) (.inl ⟨by kernel_rfl, fun W hW => by obtain ⟨hx, hy, hz⟩ := HK9.out W hW; obtain ⟨a0, a1, _⟩ := box2 (w := w) hx; obtain ⟨b0, b1, _⟩ := box2 (w := w) hy; obtain ⟨r0, r1, r2, r3, r4, r5, _⟩ := cells6 hz; go_simp⟩) hd9 ?_
          refine wpAnyH_take (i := 5) (v := .pointer (some ⟨w.heap.size, 0, none⟩)) rfl (by kernel_rfl) (by kernel_rfl) (by kernel_rfl) (fun _ _ _ h => h) (.inl ⟨by kernel_rfl, fun W hW => by kernel_rfl⟩) hd9 ?_
          refine wpAnyH_take (i := 6) (v := .int .u64 (cfa.toNat : Int)) rfl (by kernel_rfl) (by kernel_rfl) (by kernel_rfl) (fun _ _ _ h => h) (.inl ⟨by kernel_rfl, fun W hW => by obtain ⟨hx, hy, hz⟩ := HK9.out W hW; obtain ⟨a0, a1, _⟩ := box2 (w := w) hx; obtain ⟨b0, b1, _⟩ := box2 (w := w) hy; obtain ⟨r0, r1, r2, r3, r4, r5, _⟩ := cells6 hz; go_simp⟩) hd9 ?_
          refine wpAnyH_take (i := 7) (v := .bool true) rfl (by kernel_rfl) (by kernel_rfl) (by kernel_rfl) (fun _ _ _ h => h) (.inl ⟨by kernel_rfl, fun W hW => by go_simp; try simp [*]⟩) hd9 ?_
          refine wpAnyH_ready (rs := [2]) (by kernel_rfl) (by simp) ?_
          refine AllReadyH.cons rfl (fun K hK => ?_) AllReadyH.nil
          rw [if_pos (by kernel_rfl)]
          go_simp
          refine (hsb9 _ hd9).mono ?_
          rintro e1 w21 ⟨rfl, hS21⟩
          simp only []
          refine hK.out _ _ hS21 (fun _ => ?_)
          clear hK K
          refine wpAnyH_take (i := 8) (v := .bool true) rfl (by kernel_rfl) (by kernel_rfl) (by kernel_rfl) (fun _ _ _ h => h) (.inl ⟨by kernel_rfl, fun W hW => by kernel_rfl⟩) hS21 ?_
          refine wpAnyH_take (i := 9) (v := undef) rfl (by kernel_rfl) (by kernel_rfl) (by kernel_rfl) (fun _ _ _ h => h) (.inr ⟨by kernel_rfl, rfl⟩) hS21 ?_
          refine wpAnyH_take (i := 10) (v := undef) rfl (by kernel_rfl) (by kernel_rfl) (by kernel_rfl) (fun _ _ _ h => h) (.inr ⟨by kernel_rfl, rfl⟩) hS21 ?_
          refine wpAnyH_take (i := 11) (v := undef) rfl (by kernel_rfl) (by kernel_rfl) (by kernel_rfl) (fun _ _ _ h => h) (.inr ⟨by kernel_rfl, rfl⟩) hS21 ?_
          refine wpAnyH_take (i := 12) (v := undef) rfl (by kernel_rfl) (by kernel_rfl) (by kernel_rfl) (fun _ _ _ h => h) (.inr ⟨by kernel_rfl, rfl⟩) hS21 ?_
          refine wpAnyH_take (i := 13) (v := undef) rfl (by kernel_rfl) (by kernel_rfl) (by kernel_rfl) (fun _ _ _ h => h) (.inr ⟨by kernel_rfl, rfl⟩) hS21 ?_
          refine wpAnyH_take (i := 14) (v := .bool true) rfl (by kernel_rfl) (by kernel_rfl) (by kernel_rfl) (fun _ _ _ h => h) (.inl ⟨by kernel_rfl, fun W hW => by kernel_rfl⟩) hS21 ?_
          refine wpAnyH_take (i := 15) (v := .bool true) rfl (by kernel_rfl) (by kernel_rfl) (by kernel_rfl) (fun _ _ _ h => h) (.inl ⟨by kernel_rfl, fun W hW => by go_simp; try simp [*]⟩) hS21 ?_
          refine wpAnyH_take (i := 16) (v := .bool true) rfl (by kernel_rfl) (by kernel_rfl) (by kernel_rfl) (fun _ _ _ h => h) (.inl ⟨by kernel_rfl, fun W hW => by kernel_rfl⟩) hS21 ?_
          refine wpAnyH_done (by kernel_rfl) ?_ _
          go_simp
          go_wp2_with fail
          go_ret
          exact ⟨rfl, hfin _ hS21⟩
        · have g1 : ¬ (cfb.toNat : Int) < (cfa.toNat : Int) := by omega
          by_cases h2 : vrb.toNat < vra.toNat
          · obtain rfl : sb = true := by rw [FM.out.2.2.2.2, decide_eq_true h2, Bool.or_true]
            have g2 : (vrb.toNat : Int) < (vra.toNat : Int) := by omega
            refine wp_region_held_drew (S := (fun W => Below w9.heap.size w9 W)) (by kernel_rfl) hd9 (fun _ => ?_)
            refine wpAnyH_take (i := 0) (v := .agg #[.int .u64 0, .slice none 0 0, .slice none 0 0, .int .u64 (cfa.toNat : Int), .int .u64 (vra.toNat : Int), .slice none 0 0]) rfl (by kernel_rfl) (by kernel_rfl) (by kernel_rfl) (fun _ _ _ h => h) (.inl ⟨by kernel_rfl, fun W hW => by obtain ⟨hx, hy, hz⟩ := HK9.out W hW; obtain ⟨a0, a1, _⟩ := box2 (w := w) hx; obtain ⟨b0, b1, _⟩ := box2 (w := w) hy; obtain ⟨r0, r1, r2, r3, r4, r5, _⟩ := cells6 hz; go_simp⟩) hd9 ?_
            refine wpAnyH_take (i := 1) (v := .agg #[.int .u64 (cfb.toNat : Int), .int .u64 (vrb.toNat : Int)]) rfl (by kernel_rfl) (by kernel_rfl) (by kernel_rfl) (fun _ _ _ h => h) (.inl ⟨by kernel_rfl, fun W hW => by obtain ⟨hx, hy, hz⟩ := HK9.out W hW; obtain ⟨a0, a1, _⟩ := box2 (w := w) hx; obtain ⟨b0, b1, _⟩ := box2 (w := w) hy; obtain ⟨r0, r1, r2, r3, r4, r5, _⟩ := cells6 hz; go_simp⟩) hd9 ?_
            refine wpAnyH_take (i := 3) (v := .pointer (some ⟨w.heap.size + 1, 0, none⟩)) rfl (by kernel_rfl) (by kernel_rfl) (by kernel_rfl) (fun _ _ _ h => h) (.inl ⟨by kernel_rfl, fun W hW => by kernel_rfl⟩) hd9 ?_
            refine wpAnyH_take (i := 4) (v := .int .u64 (cfb.toNat : Int)) rfl (by kernel_rfl) (by kernel_rfl) (by kernel_rfl) (fun _ _ _ h => h) (.inl ⟨by kernel_rfl, fun W hW => by obtain ⟨hx, hy, hz⟩ := HK9.out W hW; obtain ⟨a0, a1, _⟩ := box2 (w := w) hx; obtain ⟨b0, b1, _⟩ := box2 (w := w) hy; obtain ⟨r0, r1, r2, r3, r4, r5, _⟩ := cells6 hz; go_simp⟩) hd9 ?_
            refine wpAnyH_take (i := 5) (v := .pointer (some ⟨w.heap.size, 0, none⟩)) rfl (by kernel_rfl) (by kernel_rfl) (by kernel_rfl) (fun _ _ _ h => h) (.inl ⟨by kernel_rfl, fun W hW => by kernel_rfl⟩) hd9 ?_
            refine wpAnyH_take (i := 6) (v := .int .u64 (cfa.toNat : Int)) rfl (by kernel_rfl) (by kernel_rfl) (by kernel_rfl) (fun _ _ _ h => h) (.inl ⟨by kernel_rfl, fun W hW => by obtain ⟨hx, hy, hz⟩ := HK9.out W hW; obtain ⟨a0, a1, _⟩ := box2 (w := w) hx; obtain ⟨b0, b1, _⟩ := box2 (w := w) hy; obtain ⟨r0, r1, r2, r3, r4, r5, _⟩ := cells6 hz; go_simp⟩) hd9 ?_
            refine wpAnyH_take (i := 7) (v := .bool false) rfl (by kernel_rfl) (by kernel_rfl) (by kernel_rfl) (fun _ _ _ h => h) (.inl ⟨by kernel_rfl, fun W hW => by go_simp; try simp [*]⟩) hd9 ?_
            refine wpAnyH_ready (rs := [2]) (by kernel_rfl) (by simp) ?_
            refine AllReadyH.cons rfl (fun K hK => ?_) AllReadyH.nil
            rw [if_pos (by kernel_rfl)]
            go_simp
            refine (hsb9 _ hd9).mono ?_
            rintro e1 w21 ⟨rfl, hS21⟩
            simp only []
            refine hK.out _ _ hS21 (fun _ => ?_)
            clear hK K
            refine wpAnyH_take (i := 8) (v := .bool false) rfl (by kernel_rfl) (by kernel_rfl) (by kernel_rfl) (fun _ _ _ h => h) (.inl ⟨by kernel_rfl, fun W hW => by kernel_rfl⟩) hS21 ?_
            refine wpAnyH_take (i := 9) (v := .pointer (some ⟨w.heap.size + 1, 1, none⟩)) rfl (by kernel_rfl) (by kernel_rfl) (by kernel_rfl) (fun _ _ _ h => h) (.inl ⟨by kernel_rfl, fun W hW => by kernel_rfl⟩) hS21 ?_
            refine wpAnyH_take (i := 10) (v := .int .u64 (vrb.toNat : Int)) rfl (by kernel_rfl) (by kernel_rfl) (by kernel_rfl) (fun _ _ _ h => h) (.inl ⟨by kernel_rfl, fun W hW => by obtain ⟨hx, hy, hz⟩ := HK9.out W hW; obtain ⟨a0, a1, _⟩ := box2 (w := w) hx; obtain ⟨b0, b1, _⟩ := box2 (w := w) hy; obtain ⟨r0, r1, r2, r3, r4, r5, _⟩ := cells6 hz; go_simp⟩) hS21 ?_
            refine wpAnyH_take (i := 11) (v := .pointer (some ⟨w.heap.size, 1, none⟩)) rfl (by kernel_rfl) (by kernel_rfl) (by kernel_rfl) (fun _ _ _ h => h) (.inl ⟨by kernel_rfl, fun W hW => by kernel_rfl⟩) hS21 ?_
            refine wpAnyH_take (i := 12) (v := .int .u64 (vra.toNat : Int)) rfl (by kernel_rfl) (by kernel_rfl) (by kernel_rfl) (fun _ _ _ h => h) (.inl ⟨by kernel_rfl, fun W hW => by obtain ⟨hx, hy, hz⟩ := HK9.out W hW; obtain ⟨a0, a1, _⟩ := box2 (w := w) hx; obtain ⟨b0, b1, _⟩ := box2 (w := w) hy; obtain ⟨r0, r1, r2, r3, r4, r5, _⟩ := cells6 hz; go_simp⟩) hS21 ?_
            refine wpAnyH_take (i := 13) (v := .bool true) rfl (by kernel_rfl) (by kernel_rfl) (by kernel_rfl) (fun _ _ _ h => h) (.inl ⟨by kernel_rfl, fun W hW => by go_simp; try simp [*]⟩) hS21 ?_
            refine wpAnyH_take (i := 14) (v := .bool true) rfl (by kernel_rfl) (by kernel_rfl) (by kernel_rfl) (fun _ _ _ h => h) (.inl ⟨by kernel_rfl, fun W hW => by kernel_rfl⟩) hS21 ?_
            refine wpAnyH_take (i := 15) (v := .bool true) rfl (by kernel_rfl) (by kernel_rfl) (by kernel_rfl) (fun _ _ _ h => h) (.inl ⟨by kernel_rfl, fun W hW => by go_simp; try simp [*]⟩) hS21 ?_
            refine wpAnyH_take (i := 16) (v := .bool true) rfl (by kernel_rfl) (by kernel_rfl) (by kernel_rfl) (fun _ _ _ h => h) (.inl ⟨by kernel_rfl, fun W hW => by kernel_rfl⟩) hS21 ?_
            refine wpAnyH_done (by kernel_rfl) ?_ _
            go_simp
            go_wp2_with fail
            go_ret
            exact ⟨rfl, hfin _ hS21⟩
          · obtain rfl : sb = false := by rw [FM.out.2.2.2.2, decide_eq_false h1, decide_eq_false h2]; rfl
            have g2 : ¬ (vrb.toNat : Int) < (vra.toNat : Int) := by omega
            refine wp_region_held_drew (S := (fun W => Below w9.heap.size w9 W)) (by kernel_rfl) hd9 (fun _ => ?_)
            refine wpAnyH_take (i := 0) (v := .agg #[.int .u64 0, .slice none 0 0, .slice none 0 0, .int .u64 (cfa.toNat : Int), .int .u64 (vra.toNat : Int), .slice none 0 0]) rfl (by kernel_rfl) (by kernel_rfl) (by kernel_rfl) (fun _ _ _ h => h) (.inl ⟨by kernel_rfl, fun W hW => by obtain ⟨hx, hy, hz⟩ := HK9.out W hW; obtain ⟨a0, a1, _⟩ := box2 (w := w) hx; obtain ⟨b0, b1, _⟩ := box2 (w := w) hy; obtain ⟨r0, r1, r2, r3, r4, r5, _⟩ := cells6 hz; go_simp⟩) hd9 ?_
            refine wpAnyH_take (i := 1) (v := .agg #[.int .u64 (cfb.toNat : Int), .int .u64 (vrb.toNat : Int)]) rfl (by kernel_rfl) (by kernel_rfl) (by kernel_rfl) (fun _ _ _ h => h) (.inl ⟨by kernel_rfl, fun W hW => by obtain ⟨hx, hy, hz⟩ := HK9.out W hW; obtain ⟨a0, a1, _⟩ := box2 (w := w) hx; obtain ⟨b0, b1, _⟩ := box2 (w := w) hy; obtain ⟨r0, r1, r2, r3, r4, r5, _⟩ := cells6 hz; go_simp⟩) hd9 ?_
            refine wpAnyH_take (i := 3) (v := .pointer (some ⟨w.heap.size + 1, 0, none⟩)) rfl (by kernel_rfl) (by kernel_rfl) (by kernel_rfl) (fun _ _ _ h => h) (.inl ⟨by kernel_rfl, fun W hW => by kernel_rfl⟩) hd9 ?_
            refine wpAnyH_take (i := 4) (v := .int .u64 (cfb.toNat : Int)) rfl (by kernel_rfl) (by kernel_rfl) (by kernel_rfl) (fun _ _ _ h => h) (.inl ⟨by kernel_rfl, fun W hW => by obtain ⟨hx, hy, hz⟩ := HK9.out W hW; obtain ⟨a0, a1, _⟩ := box2 (w := w) hx; obtain ⟨b0, b1, _⟩ := box2 (w := w) hy; obtain ⟨r0, r1, r2, r3, r4, r5, _⟩ := cells6 hz; go_simp⟩) hd9 ?_
            refine wpAnyH_take (i := 5) (v := .pointer (some ⟨w.heap.size, 0, none⟩)) rfl (by kernel_rfl) (by kernel_rfl) (by kernel_rfl) (fun _ _ _ h => h) (.inl ⟨by kernel_rfl, fun W hW => by kernel_rfl⟩) hd9 ?_
            refine wpAnyH_take (i := 6) (v := .int .u64 (cfa.toNat : Int)) rfl (by kernel_rfl) (by kernel_rfl) (by kernel_rfl) (fun _ _ _ h => h) (.inl ⟨by kernel_rfl, fun W hW => by obtain ⟨hx, hy, hz⟩ := HK9.out W hW; obtain ⟨a0, a1, _⟩ := box2 (w := w) hx; obtain ⟨b0, b1, _⟩ := box2 (w := w) hy; obtain ⟨r0, r1, r2, r3, r4, r5, _⟩ := cells6 hz; go_simp⟩) hd9 ?_
            refine wpAnyH_take (i := 7) (v := .bool false) rfl (by kernel_rfl) (by kernel_rfl) (by kernel_rfl) (fun _ _ _ h => h) (.inl ⟨by kernel_rfl, fun W hW => by go_simp; try simp [*]⟩) hd9 ?_
            refine wpAnyH_ready (rs := [2]) (by kernel_rfl) (by simp) ?_
            refine AllReadyH.cons rfl (fun K hK => ?_) AllReadyH.nil
            rw [if_pos (by kernel_rfl)]
            go_simp
            refine (hsb9 _ hd9).mono ?_
            rintro e1 w21 ⟨rfl, hS21⟩
            simp only []
            refine hK.out _ _ hS21 (fun _ => ?_)
            clear hK K
            refine wpAnyH_take (i := 8) (v := .bool false) rfl (by kernel_rfl) (by kernel_rfl) (by kernel_rfl) (fun _ _ _ h => h) (.inl ⟨by kernel_rfl, fun W hW => by kernel_rfl⟩) hS21 ?_
            refine wpAnyH_take (i := 9) (v := .pointer (some ⟨w.heap.size + 1, 1, none⟩)) rfl (by kernel_rfl) (by kernel_rfl) (by kernel_rfl) (fun _ _ _ h => h) (.inl ⟨by kernel_rfl, fun W hW => by kernel_rfl⟩) hS21 ?_
            refine wpAnyH_take (i := 10) (v := .int .u64 (vrb.toNat : Int)) rfl (by kernel_rfl) (by kernel_rfl) (by kernel_rfl) (fun _ _ _ h => h) (.inl ⟨by kernel_rfl, fun W hW => by obtain ⟨hx, hy, hz⟩ := HK9.out W hW; obtain ⟨a0, a1, _⟩ := box2 (w := w) hx; obtain ⟨b0, b1, _⟩ := box2 (w := w) hy; obtain ⟨r0, r1, r2, r3, r4, r5, _⟩ := cells6 hz; go_simp⟩) hS21 ?_
            refine wpAnyH_take (i := 11) (v := .pointer (some ⟨w.heap.size, 1, none⟩)) rfl (by kernel_rfl) (by kernel_rfl) (by kernel_rfl) (fun _ _ _ h => h) (.inl ⟨by kernel_rfl, fun W hW => by kernel_rfl⟩) hS21 ?_
            refine wpAnyH_take (i := 12) (v := .int .u64 (vra.toNat : Int)) rfl (by kernel_rfl) (by kernel_rfl) (by kernel_rfl) (fun _ _ _ h => h) (.inl ⟨by kernel_rfl, fun W hW => by obtain ⟨hx, hy, hz⟩ := HK9.out W hW; obtain ⟨a0, a1, _⟩ := box2 (w := w) hx; obtain ⟨b0, b1, _⟩ := box2 (w := w) hy; obtain ⟨r0, r1, r2, r3, r4, r5, _⟩ := cells6 hz; go_simp⟩) hS21 ?_
            refine wpAnyH_take (i := 13) (v := .bool false) rfl (by kernel_rfl) (by kernel_rfl) (by kernel_rfl) (fun _ _ _ h => h) (.inl ⟨by kernel_rfl, fun W hW => by go_simp; try simp [*]⟩) hS21 ?_
            refine wpAnyH_take (i := 14) (v := .bool false) rfl (by kernel_rfl) (by kernel_rfl) (by kernel_rfl) (fun _ _ _ h => h) (.inl ⟨by kernel_rfl, fun W hW => by kernel_rfl⟩) hS21 ?_
            refine wpAnyH_take (i := 15) (v := .bool true) rfl (by kernel_rfl) (by kernel_rfl) (by kernel_rfl) (fun _ _ _ h => h) (.inl ⟨by kernel_rfl, fun W hW => by go_simp; try simp [*]⟩) hS21 ?_
            refine wpAnyH_take (i := 16) (v := .bool true) rfl (by kernel_rfl) (by kernel_rfl) (by kernel_rfl) (fun _ _ _ h => h) (.inl ⟨by kernel_rfl, fun W hW => by kernel_rfl⟩) hS21 ?_
            refine wpAnyH_done (by kernel_rfl) ?_ _
            go_simp
            go_wp2_with fail
            go_ret
            exact ⟨rfl, hfin _ hS21⟩
end Go.Proofs.Ytanafjbiclicpaa
