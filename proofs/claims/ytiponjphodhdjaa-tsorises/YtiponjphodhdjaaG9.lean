/- The statement TsoRises, walked. -/
import Derived.Test.YtiponjphodhdjaaG8
import Derived.Test.YtiponjphodhdjaaG7
namespace Go.Proofs.Ytiponjphodhdjaa
open Go.RowKit
set_option linter.unusedVariables false
set_option maxRecDepth 100000

theorem mask62t (p : Int) : ∃ s : Nat, wrap64 (1 + (bits .and .i64 p 4611686018427387903).tmod 1024) = (s : Int) ∧ 1 ≤ s ∧ s ≤ 1024 := by
  have hle : (BitVec.ofInt 64 p &&& BitVec.ofInt 64 4611686018427387903).toNat ≤ 4611686018427387903 := by
    rw [BitVec.toNat_and, show (BitVec.ofInt 64 4611686018427387903).toNat = 4611686018427387903 by decide]
    exact Nat.and_le_right
  have e : bits .and .i64 p 4611686018427387903 = (((BitVec.ofInt 64 p &&& BitVec.ofInt 64 4611686018427387903).toNat : Nat) : Int) := by
    show IntKind.i64.wrap ((BitVec.ofInt 64 p &&& BitVec.ofInt 64 4611686018427387903).toNat : Int) = _
    rw [IntKind.wrap_i64]
    omega
  rw [e]
  generalize (BitVec.ofInt 64 p &&& BitVec.ofInt 64 4611686018427387903).toNat = u
  have hu : u % 1024 < 1024 := Nat.mod_lt _ (by omega)
  refine ⟨1 + u % 1024, ?_, by omega, by omega⟩
  show wrap64 (1 + ((u % 1024 : Nat) : Int)) = _
  unfold wrap64
  omega
theorem tmod_b (p : Int) : -2000 < p.tmod 2000 ∧ p.tmod 2000 < 2000 := by
  have h := Int.natAbs_tmod p 2000
  have h2 : p.natAbs % (2000 : Int).natAbs < 2000 := Nat.mod_lt _ (by decide)
  omega
theorem box2r {W : World} {u0 u1 : Value} {t : TypeId} {g : Nat} (h : W.heap[g]? = some (.cells #[u0, u1] t (0, 0))) : W.cell? ⟨g, 0, none⟩ = some u0 ∧ W.cell? ⟨g, 1, none⟩ = some u1 :=
  ⟨by rw [cell_of_row _ _ _ _ _ _ h]; rfl, by rw [cell_of_row _ _ _ _ _ _ h]; rfl⟩
theorem step_keptr {g x : Nat} {W W' : World} {u0 u1 : Value} (h : W.heap[g]? = some (.cells #[u0, u1] 30 (0, 0))) (hc : Chg (fun b => b = x) W W') (hx : g ≠ x) : W'.heap[g]? = some (.cells #[u0, u1] 30 (0, 0)) := by
  rw [hc.block g (Array.getElem?_eq_some_iff.1 h).1 hx]; exact h
/-- What the loop keeps: the oracle, what is known, what was given last. -/
structure Ris (w : World) (x c l m K T k : Nat) (wr : World) : Prop where
  o : Orc x c l m wr
  b : Below w.heap.size w wr
  x0 : w.heap.size ≤ x
  tl : T ≤ l
  mK : m ≤ K
  kb : K ≤ k * 2048

set_option maxHeartbeats 4000000 in
theorem rises_walk {v0 : Value} {w : World} {N : Nat} (hL : Tsps w v0 N) (hN : N ≤ 8796093021952) :
    Calls Try.prog 4 #[v0] w fun r w' => r = .returned (.bool true) ∧ Below w.heap.size w w' := by
  obtain ⟨a0, cp, rfl, hL1, hL2, hL4⟩ := hL
  have HL : Hid (∀ i, i < N → ∃ d p ad, a0 = some ad ∧ TsAt w (ad.add (i * 2)) d p) := hL4
  clear hL4 hL1 hL2
  have haw := tsawake_any w
  go_enter Try.func4, Try.ntmps4
  go_wp2_with fail
  refine haw.mono ?_
  rintro r wa ⟨rfl, hba⟩
  have hnew := tnew_any 0 (by omega) wa
  clear haw
  go_wp2_with fail
  refine hnew.mono ?_
  rintro r wb ⟨x, c, rfl, ho0, hx0, hc0, hbb⟩
  have hsz : w.heap.size ≤ wa.heap.size := hba.size
  have hR0 : Ris w x c 0 0 0 0 0 wb := ⟨ho0, Below.tr hba hbb, by omega, Nat.le_refl _, Nat.le_refl _, Nat.le_refl _⟩
  clear hnew hbb hba hx0 hc0 hsz ho0
  go_wp2_with fail
  go_loopw [3, 4, 5, 6, 7, 8, 9, 10, 11, 12, 13, 14] (fun kn ls ov i _ _ _ _ _ _ _ _ wr => ∃ k x c l m K T : Nat, k ≤ N ∧ i = .int .i64 k ∧ kn = .int .u64 (K : Int) ∧ ls = .int .u64 (T : Int) ∧ ov = .pointer (some ⟨x, 0, none⟩) ∧ Ris w x c l m K T k wr) (fun _ _ _ i _ _ _ _ _ _ _ _ _ => N - (intOf i).toNat)
  case atStart => exact ⟨0, x, c, 0, 0, 0, 0, Nat.zero_le _, rfl, rfl, rfl, rfl, hR0⟩
  case round =>
    obtain ⟨k, x, c, l, m, K, T, hk, rfl, rfl, rfl, rfl, hR⟩ := hrel
    clear hR0
    obtain ⟨ho, hb, hx, htl, hmk, hkb⟩ := hR
    have hle := ho.le
    by_cases hlt : k < N
    · have q1 : (k : Int) < (N : Int) := by omega
      obtain ⟨d, p, ad, rfl, hst⟩ := HL.out k hlt
      obtain ⟨y0, y1, hp⟩ := hst.below hb (Nat.le_refl _)
      have hwr : IntKind.i64.wrap ((k : Int) + 1) = ((k + 1 : Nat) : Int) := by rw [IntKind.wrap_i64]; omega
      have hnw := heap_alloc_new wr (.cells #[.int .i64 d, .int .i64 p] 30)
      obtain ⟨x0, x1⟩ := box2r hnw
      have hxl : wr.heap.size ≠ x := by have := ho.lt; omega
      have hca : Chg (fun _ => False) wr (wr.alloc (.cells #[.int .i64 d, .int .i64 p] 30)) := (Chg.refl _ wr).alloc _
      have ho1 := ho.next hca id id
      have hb1 := hb.alloc hb.size (.cells #[.int .i64 d, .int .i64 p] 30)
      clear hst ho hb hca
      by_cases hd3 : d = 3
      · subst hd3
        have hnew := tnew_any K (by omega) (wr.alloc (.cells #[.int .i64 3, .int .i64 p] 30))
        go_wp2_with fail
        refine hnew.mono ?_
        rintro r w2 ⟨x2, c2, rfl, ho2, hx2, hc2, hb2⟩
        have hs2 := hb1.size
        have hR2 : Ris w x2 c2 K K K T (k + 1) w2 := ⟨ho2, Below.tr hb1 hb2, by omega, by omega, Nat.le_refl _, by omega⟩
        clear hnew hb2 hx2 hc2 ho2 x0 x1 y0 y1 hnw ho1 hb1 hs2
        go_wp2_with fail
        exact ⟨⟨k + 1, x2, c2, K, K, K, T, by omega, by go_num, rfl, rfl, rfl, hR2⟩, by simp [intOf]; omega⟩
      · have hd3b : (d == 3) = false := by rw [beq_eq_false_iff_ne]; exact hd3
        by_cases hd2 : d = 2
        · subst hd2
          clear hd3 hd3b
          obtain ⟨a, ha, ha1, ha2⟩ := mask62t p
          by_cases hw : l + a ≤ m
          · have hwn := wantc_ok ho1 a (by omega) (by omega) hw
            go_wp2_with fail
            refine hwn.mono ?_
            rintro r w2 ⟨rfl, ho2, hc2⟩
            have hR2 : Ris w x c l m K T (k + 1) w2 := ⟨ho2, chg_bel hb1 hc2 hx (Nat.le_refl _), hx, htl, hmk, by omega⟩
            clear hwn hc2 ho2 x0 x1 y0 y1 hnw ho1 hb1
            go_wp2_with fail
            exact ⟨⟨k + 1, x, c, l, m, K, T, by omega, by go_num, rfl, rfl, rfl, hR2⟩, by simp [intOf]; omega⟩
          · have hwn := wantc_win ho1 a (by omega) (by omega) (by omega)
            go_wp2_with fail
            refine hwn.mono ?_
            rintro r w2 ⟨rfl, ho2, hc2⟩
            have hb2 := chg_bel hb1 hc2 hx (Nat.le_refl _)
            have hgr := grant_any ho2 (l + a + 1024) (by omega)
            have em : max m (l + a + 1024) = l + a + 1024 := by omega
            rw [em] at hgr
            clear hwn hc2 x0 x1 y0 y1 hnw ho1 hb1 em
            by_cases hkm : K < l + a + 1024
            · have gk : ((l + a + 1024 : Nat) : Int) > (K : Int) := by omega
              go_wp2_with fail
              refine hgr.mono ?_
              rintro r w3 ⟨rfl, ho3, hc3⟩
              have hb3 := chg_bel hb2 hc3 hx (Nat.le_refl _)
              have hwn := wantc_ok ho3 a (by omega) (by omega) (by omega)
              clear hgr hc3 ho2 hb2
              go_wp2_with fail
              refine hwn.mono ?_
              rintro r w4 ⟨rfl, ho4, hc4⟩
              have hR2 : Ris w x c l (l + a + 1024) (l + a + 1024) T (k + 1) w4 := ⟨ho4, chg_bel hb3 hc4 hx (Nat.le_refl _), hx, htl, Nat.le_refl _, by omega⟩
              clear hwn hc4 ho3 hb3 ho4
              go_wp2_with fail
              exact ⟨⟨k + 1, x, c, l, l + a + 1024, l + a + 1024, T, by omega, by go_num, by simp, rfl, rfl, hR2⟩, by simp [intOf]; omega⟩
            · have gk : ¬ ((l + a + 1024 : Nat) : Int) > (K : Int) := by omega
              go_wp2_with fail
              refine hgr.mono ?_
              rintro r w3 ⟨rfl, ho3, hc3⟩
              have hb3 := chg_bel hb2 hc3 hx (Nat.le_refl _)
              have hwn := wantc_ok ho3 a (by omega) (by omega) (by omega)
              clear hgr hc3 ho2 hb2
              go_wp2_with fail
              refine hwn.mono ?_
              rintro r w4 ⟨rfl, ho4, hc4⟩
              have hR2 : Ris w x c l (l + a + 1024) K T (k + 1) w4 := ⟨ho4, chg_bel hb3 hc4 hx (Nat.le_refl _), hx, htl, by omega, by omega⟩
              clear hwn hc4 ho3 hb3 ho4
              go_wp2_with fail
              exact ⟨⟨k + 1, x, c, l, l + a + 1024, K, T, by omega, by go_num, by simp, rfl, rfl, hR2⟩, by simp [intOf]; omega⟩
        · have hd2b : (d == 2) = false := by rw [beq_eq_false_iff_ne]; exact hd2
          clear hd2 hd3
          have hr1 := tmod_b p
          generalize hr : p.tmod 2000 = q at hr1
          by_cases ha : q < 1 ∨ 1024 < q
          · have htk := take_arg ho1 q ha
            go_wp2_with fail
            refine htk.mono ?_
            rintro r w2 ⟨rfl, ho2, hc2⟩
            have hR2 : Ris w x c l m K T (k + 1) w2 := ⟨ho2, chg_bel hb1 hc2 hx (Nat.le_refl _), hx, htl, hmk, by omega⟩
            clear htk hc2 ho2 x0 x1 y0 y1 hnw ho1 hb1
            go_wp2_with fail
            exact ⟨⟨k + 1, x, c, l, m, K, T, by omega, by go_num, rfl, rfl, rfl, hR2⟩, by simp [intOf]; omega⟩
          · obtain ⟨j, rfl⟩ := Int.eq_ofNat_of_zero_le (show 0 ≤ q by omega)
            have j1 : 1 ≤ j := by omega
            have j2 : j ≤ 1024 := by omega
            clear ha
            by_cases hw : l + j ≤ m
            · have htk := take_ok ho1 j j1 j2 hw
              go_wp2_with fail
              refine htk.mono ?_
              rintro r w2 ⟨rfl, ho2, hc2⟩
              have hn2 := step_keptr hnw hc2 hxl
              obtain ⟨z0, z1⟩ := box2r hn2
              have hls := last_any ho2
              have hR2 : Ris w x c (l + j) m K (l + j) (k + 1) w2 := ⟨ho2, chg_bel hb1 hc2 hx (Nat.le_refl _), hx, Nat.le_refl _, hmk, by omega⟩
              have g1 : decide ((l : Int) + 1 ≤ (T : Int)) = false := decide_eq_false (by omega)
              have g2 : decide ((j : Int) < 1) = false := decide_eq_false (by omega)
              have g3 : decide ((l : Int) + (j : Int) > (K : Int)) = false := decide_eq_false (by omega)
              clear htk hc2 ho2 x0 x1 y0 y1 hnw hn2 ho1 hb1
              go_wp2_with fail
              refine hls.mono ?_
              rintro r w3 ⟨rfl, rfl⟩
              go_wp2_with fail
              exact ⟨⟨k + 1, x, c, l + j, m, K, l + j, by omega, by go_num, rfl, by simp; omega, rfl, hR2⟩, by simp [intOf]; omega⟩
            · have htk := take_win ho1 j j1 j2 (by omega)
              go_wp2_with fail
              refine htk.mono ?_
              rintro r w2 ⟨rfl, ho2, hc2⟩
              have hR2 : Ris w x c l m K T (k + 1) w2 := ⟨ho2, chg_bel hb1 hc2 hx (Nat.le_refl _), hx, htl, hmk, by omega⟩
              clear htk hc2 ho2 x0 x1 y0 y1 hnw ho1 hb1
              go_wp2_with fail
              exact ⟨⟨k + 1, x, c, l, m, K, T, by omega, by go_num, rfl, rfl, rfl, hR2⟩, by simp [intOf]; omega⟩
    · have hls := last_any ho
      have hlm := limit_any ho
      have g1 : (m : Int) ≤ (K : Int) := by omega
      go_wp2_with fail
      refine hlm.mono ?_
      rintro r w2 ⟨rfl, rfl⟩
      go_wp2_with fail
      refine hls.mono ?_
      rintro r w3 ⟨rfl, rfl⟩
      go_wp2_with fail
      all_goals go_ret
      all_goals exact ⟨by simp; omega, hb⟩
end Go.Proofs.Ytiponjphodhdjaa
