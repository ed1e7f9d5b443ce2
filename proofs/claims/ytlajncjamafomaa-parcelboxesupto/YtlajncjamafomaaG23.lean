/- takePiece: what any bytes are read as. -/
import Derived.Test.YtlajncjamafomaaG18
import Derived.Test.YtlajncjamafomaaG19
import Derived.Test.YtlajncjamafomaaG22
namespace Go.Proofs.Ytlajncjamafomaa
open Go.RowKit
set_option linter.unusedVariables false
set_option maxRecDepth 100000

theorem set5_block {w : World} {g : Nat} {u0 u1 u2 u3 u4 : Value} {t : TypeId} (h : w.heap[g]? = some (.cells #[u0, u1, u2, u3, u4] t (0, 0))) (v0 v1 v2 v3 v4 : Value) : (((((w.setCell ⟨g, 0, none⟩ v0).setCell ⟨g, 1, none⟩ v1).setCell ⟨g, 2, none⟩ v2).setCell ⟨g, 3, none⟩ v3).setCell ⟨g, 4, none⟩ v4).heap[g]? = some (.cells #[v0, v1, v2, v3, v4] t (0, 0)) := by
  have h0 := heap_setCell_same w g 0 _ _ v0 h
  have h1 := heap_setCell_same _ g 1 _ _ v1 h0
  have h2 := heap_setCell_same _ g 2 _ _ v2 h1
  have h3 := heap_setCell_same _ g 3 _ _ v3 h2
  have h4 := heap_setCell_same _ g 4 _ _ v4 h3
  rw [h4]
  rfl
theorem set5_chg (w : World) (g : Nat) (v0 v1 v2 v3 v4 : Value) : Chg (fun b => b = g) w (((((w.setCell ⟨g, 0, none⟩ v0).setCell ⟨g, 1, none⟩ v1).setCell ⟨g, 2, none⟩ v2).setCell ⟨g, 3, none⟩ v3).setCell ⟨g, 4, none⟩ v4) :=
  (((((Chg.refl (fun b => b = g) w).put g 0 v0 rfl).put g 1 v1 rfl).put g 2 v2 rfl).put g 3 v3 rfl).put g 4 v4 rfl
theorem cells5 {w : World} {g : Nat} {u0 u1 u2 u3 u4 : Value} {t : TypeId} (h : w.heap[g]? = some (.cells #[u0, u1, u2, u3, u4] t (0, 0))) : w.cell? ⟨g, 0, none⟩ = some u0 ∧ w.cell? ⟨g, 1, none⟩ = some u1 ∧ w.cell? ⟨g, 2, none⟩ = some u2 ∧ w.cell? ⟨g, 3, none⟩ = some u3 ∧ w.cell? ⟨g, 4, none⟩ = some u4 ∧ ∀ i, w.frozen? ⟨g, i, none⟩ = false :=
  ⟨by rw [cell_of_row _ _ _ _ _ _ h]; rfl, by rw [cell_of_row _ _ _ _ _ _ h]; rfl, by rw [cell_of_row _ _ _ _ _ _ h]; rfl, by rw [cell_of_row _ _ _ _ _ _ h]; rfl, by rw [cell_of_row _ _ _ _ _ _ h]; rfl, fun i => frozen_of_row _ _ _ _ _ h⟩

/-- What takePiece answers. -/
def TkP (w : World) (r : Pc × Nat) (e : Ending) (w' : World) : Prop :=
  ∃ u, e = .returned (.tuple #[.agg #[.int .u64 (r.1.1 : Int), .int .u64 (r.1.2.1 : Int), .int .u64 (r.1.2.2.1 : Int), .int .u64 (r.1.2.2.2.1 : Int), u], .int .i64 (r.2 : Int)]) ∧ Ow w.heap.size w' u r.1.2.2.2.2 ∧ Below w.heap.size w w'
/-- The numbers that are read so far. -/
def tkC (fs : List (List UInt8)) (k : Nat) (j : Nat) : Value := .int .u64 (if j < k then ((M.tv (fs.getD j [])).1 : Int) else 0)
theorem tkC_set (fs : List (List UInt8)) (k : Nat) (hk : k < 4) (u : Value) : (#[tkC fs k 0, tkC fs k 1, tkC fs k 2, tkC fs k 3, u]).setIfInBounds k (.int .u64 ((M.tv (fs.getD k [])).1 : Int)) = #[tkC fs (k + 1) 0, tkC fs (k + 1) 1, tkC fs (k + 1) 2, tkC fs (k + 1) 3, u] := by
  match k, hk with
  | 0, _ => rfl
  | 1, _ => rfl
  | 2, _ => rfl
  | 3, _ => rfl
theorem tkC_at (fs : List (List UInt8)) (k : Nat) (hk : k < 4) (u : Value) : (#[tkC fs k 0, tkC fs k 1, tkC fs k 2, tkC fs k 3, u])[k]? = some (.int .u64 0) := by
  match k, hk with
  | 0, _ => rfl
  | 1, _ => rfl
  | 2, _ => rfl
  | 3, _ => rfl
theorem tkP_at (g : Nat) (k : Nat) (hk : k < 4) : (#[Value.pointer (some ⟨g, 0, none⟩), .pointer (some ⟨g, 1, none⟩), .pointer (some ⟨g, 2, none⟩), .pointer (some ⟨g, 3, none⟩)])[k]? = some (.pointer (some ⟨g, k, none⟩)) := by
  match k, hk with
  | 0, _ => rfl
  | 1, _ => rfl
  | 2, _ => rfl
  | 3, _ => rfl

set_option maxHeartbeats 4000000 in
theorem takep_any {v : Value} {l : List UInt8} {w : World} (hr : Rd w v l) (hl : l.length ≤ 1099511627776) :
    Calls Try.prog 37 #[v] w (TkP w (pkR l)) := by
  have hb0 := pk_al w (.cells #[.int .u64 0, .int .u64 0, .int .u64 0, .int .u64 0, .slice none 0 0] 69)
  have hR0 := pk_new w (.cells #[.int .u64 0, .int .u64 0, .int .u64 0, .int .u64 0, .slice none 0 0] 69)
  have hsz0 : (w.alloc (.cells #[.int .u64 0, .int .u64 0, .int .u64 0, .int .u64 0, .slice none 0 0] 69)).heap.size = w.heap.size + 1 := by simp
  have htf := tframe_any (hr.below hb0 (Nat.le_refl _)) (by omega)
  have htfl : (M.tf l).1.length ≤ 1099511627776 := by
    by_cases h : (M.tf l).2.2 = 0
    · have := congrArg List.length (M.tf_form l h)
      simp only [List.length_append, M.frame] at this
      omega
    · rcases tf_cases l with ⟨_, q⟩ | ⟨_, _, q⟩ | ⟨q1, q2, q⟩
      · rw [q]; simp
      · rw [q]; simp
      · rw [q] at h ⊢
        split at h
        · rw [if_pos (by assumption)]; simp
        · rename_i q3
          rw [if_neg q3]
          split at h
          · rw [if_pos (by assumption)]; simp
          · exact absurd rfl h
  generalize hT : pkR l = T
  unfold pkR at hT
  generalize M.tf l = F at *
  obtain ⟨body, beh, fe⟩ := F
  simp only [] at *
  -- how an error goes back
  have fin : ∀ (W : World), Below w.heap.size w W → W.heap[w.heap.size]? = some (.cells #[.int .u64 0, .int .u64 0, .int .u64 0, .int .u64 0, .slice none 0 0] 69 (0, 0)) → W.cell? ⟨w.heap.size, 0, none⟩ = some (.int .u64 0) ∧ W.cell? ⟨w.heap.size, 1, none⟩ = some (.int .u64 0) ∧ W.cell? ⟨w.heap.size, 2, none⟩ = some (.int .u64 0) ∧ W.cell? ⟨w.heap.size, 3, none⟩ = some (.int .u64 0) ∧ W.cell? ⟨w.heap.size, 4, none⟩ = some (.slice none 0 0) ∧ W.frozen? ⟨w.heap.size, 0, none⟩ = false ∧ W.frozen? ⟨w.heap.size, 1, none⟩ = false ∧ W.frozen? ⟨w.heap.size, 2, none⟩ = false ∧ W.frozen? ⟨w.heap.size, 3, none⟩ = false ∧ W.frozen? ⟨w.heap.size, 4, none⟩ = false ∧
      ∀ v0 v1 v2 v3 v4, (((((W.setCell ⟨w.heap.size, 0, none⟩ v0).setCell ⟨w.heap.size, 1, none⟩ v1).setCell ⟨w.heap.size, 2, none⟩ v2).setCell ⟨w.heap.size, 3, none⟩ v3).setCell ⟨w.heap.size, 4, none⟩ v4).heap[w.heap.size]? = some (.cells #[v0, v1, v2, v3, v4] 69 (0, 0)) ∧ Below w.heap.size w (((((W.setCell ⟨w.heap.size, 0, none⟩ v0).setCell ⟨w.heap.size, 1, none⟩ v1).setCell ⟨w.heap.size, 2, none⟩ v2).setCell ⟨w.heap.size, 3, none⟩ v3).setCell ⟨w.heap.size, 4, none⟩ v4) := fun W hW hh => by
    obtain ⟨q0, q1, q2, q3, q4, qz⟩ := cells5 hh
    refine ⟨q0, q1, q2, q3, q4, qz 0, qz 1, qz 2, qz 3, qz 4, fun v0 v1 v2 v3 v4 => ⟨set5_block hh v0 v1 v2 v3 v4, hW.trans ((set5_chg W w.heap.size v0 v1 v2 v3 v4).below (fun b q => by omega) hW.size)⟩⟩
  have HFIN : Hid _ := fin
  clear fin
  by_cases hfe : fe ≠ 0
  · rw [if_pos hfe] at hT
    subst hT
    have hne : (((fe : Nat) : Int) != 0) = true := by simp; omega
    go_enter Try.func37, Try.ntmps37
    go_wp2_with fail
    refine htf.mono ?_
    rintro e w1 ⟨v1, v2, rfl, ho1, ho2, hap, hb1⟩
    have hB1 := hb0.trans (hb1.mono (by omega))
    have hR1 := (hb1.block w.heap.size (by omega)).trans hR0
    obtain ⟨r0, r1, r2, r3, r4, z0, z1, z2, z3, z4, hset⟩ := HFIN.out w1 hB1 hR1
    obtain ⟨hS, hBz⟩ := hset (.int .u64 0) (.int .u64 0) (.int .u64 0) (.int .u64 0) (.slice none 0 0)
    have HSZ : Hid _ := And.intro hS hBz
    clear hset hS hBz
    go_wp2_with fail
    obtain ⟨hS, hBz⟩ := HSZ.out
    generalize (((((w1.setCell ⟨w.heap.size, 0, none⟩ (.int .u64 0)).setCell ⟨w.heap.size, 1, none⟩ (.int .u64 0)).setCell ⟨w.heap.size, 2, none⟩ (.int .u64 0)).setCell ⟨w.heap.size, 3, none⟩ (.int .u64 0)).setCell ⟨w.heap.size, 4, none⟩ (.slice none 0 0)) = wz at *
    obtain ⟨k0, k1, k2, k3, k4, _⟩ := cells5 hS
    refine bodyPost_ret (v := .tuple #[.agg #[.int .u64 0, .int .u64 0, .int .u64 0, .int .u64 0, .slice none 0 0], .int .i64 (fe : Int)]) (by simp [results, Try.results37, go_sem, k0, k1, k2, k3, k4]; try rfl) rfl ?_
    exact ⟨_, rfl, Ow.nil _ _, hBz⟩
  · rw [if_neg hfe] at hT
    obtain rfl : fe = 0 := by omega
    clear hfe
    have htr := fun (W : World) (v : Value) (ho : Rd W v body) => takerow_any ho htfl
    have htr5 : ∀ f ∈ (M.tr body).1, f.length ≤ 1099511627776 := by
      intro f hf
      by_cases h : (M.tr body).2 = 0
      · have h1 := M.tr_form body h
        have h2 : f.length ≤ (M.rowB (M.tr body).1).length := by
          obtain ⟨i, hi, rfl⟩ := List.getElem_of_mem hf
          have := M.rowB_field (M.tr body).1 i hi
          omega
        have h3 := congrArg List.length h1
        simp only [M.row, List.length_append] at h3
        omega
      · have : (M.tr body).1 = [] := by
          unfold M.tr at h ⊢
          repeat' split
          all_goals first | rfl | (exfalso; apply h; simp_all)
        rw [this] at hf
        cases hf
    generalize M.tr body = G at *
    obtain ⟨fs, ge⟩ := G
    simp only [] at *
    by_cases hge : ge ≠ 0
    · rw [if_pos hge] at hT
      subst hT
      have hne : (((ge : Nat) : Int) != 0) = true := by simp; omega
      go_enter Try.func37, Try.ntmps37
      go_wp2_with fail
      refine htf.mono ?_
      rintro e w1 ⟨v1, v2, rfl, ho1, ho2, hap, hb1⟩
      go_wp2_with fail
      refine (htr w1 v1 ho1.rd).mono ?_
      rintro e w2 ⟨v3, us, rfl, ho3, hb2⟩
      have hs1 := hb1.size
      have hBE : Below w.heap.size w w2 := hb0.trans ((hb1.trans (hb2.mono hs1)).mono (by omega))
      have hRE := ((hb1.trans (hb2.mono hs1)).block w.heap.size (by omega)).trans hR0
      obtain ⟨r0, r1, r2, r3, r4, z0, z1, z2, z3, z4, hset⟩ := HFIN.out w2 hBE hRE
      obtain ⟨hS, hBz⟩ := hset (.int .u64 0) (.int .u64 0) (.int .u64 0) (.int .u64 0) (.slice none 0 0)
      have HSZ : Hid _ := And.intro hS hBz
      clear hset hS hBz
      go_wp2_with fail
      obtain ⟨hS, hBz⟩ := HSZ.out
      generalize (((((w2.setCell ⟨w.heap.size, 0, none⟩ (.int .u64 0)).setCell ⟨w.heap.size, 1, none⟩ (.int .u64 0)).setCell ⟨w.heap.size, 2, none⟩ (.int .u64 0)).setCell ⟨w.heap.size, 3, none⟩ (.int .u64 0)).setCell ⟨w.heap.size, 4, none⟩ (.slice none 0 0)) = wz at *
      obtain ⟨k0, k1, k2, k3, k4, _⟩ := cells5 hS
      refine bodyPost_ret (v := .tuple #[.agg #[.int .u64 0, .int .u64 0, .int .u64 0, .int .u64 0, .slice none 0 0], .int .i64 (ge : Int)]) (by simp [results, Try.results37, go_sem, k0, k1, k2, k3, k4]; try rfl) rfl ?_
      exact ⟨_, rfl, Ow.nil _ _, hBz⟩
    · rw [if_neg hge] at hT
      obtain rfl : ge = 0 := by omega
      clear hge
      by_cases hbe : 0 < beh.length
      · rw [if_pos hbe] at hT
        subst hT
        have hbi : (0 : Int) < (beh.length : Int) := by omega
        go_enter Try.func37, Try.ntmps37
        go_wp2_with fail
        refine htf.mono ?_
        rintro e w1 ⟨v1, v2, rfl, ho1, ho2, hap, hb1⟩
        go_wp2_with fail
        refine (htr w1 v1 ho1.rd).mono ?_
        rintro e w2 ⟨v3, us, rfl, ho3, hb2⟩
        have hs1 := hb1.size
        obtain ⟨a2, d2, rfl⟩ := ho2.shape
        have hBE : Below w.heap.size w w2 := hb0.trans ((hb1.trans (hb2.mono hs1)).mono (by omega))
        have hRE := ((hb1.trans (hb2.mono hs1)).block w.heap.size (by omega)).trans hR0
        obtain ⟨r0, r1, r2, r3, r4, z0, z1, z2, z3, z4, hset⟩ := HFIN.out w2 hBE hRE
        obtain ⟨hS, hBz⟩ := hset (.int .u64 0) (.int .u64 0) (.int .u64 0) (.int .u64 0) (.slice none 0 0)
        have HSZ : Hid _ := And.intro hS hBz
        clear hset hS hBz
        go_wp2_with fail
        obtain ⟨hS, hBz⟩ := HSZ.out
        generalize (((((w2.setCell ⟨w.heap.size, 0, none⟩ (.int .u64 0)).setCell ⟨w.heap.size, 1, none⟩ (.int .u64 0)).setCell ⟨w.heap.size, 2, none⟩ (.int .u64 0)).setCell ⟨w.heap.size, 3, none⟩ (.int .u64 0)).setCell ⟨w.heap.size, 4, none⟩ (.slice none 0 0)) = wz at *
        obtain ⟨k0, k1, k2, k3, k4, _⟩ := cells5 hS
        refine bodyPost_ret (v := .tuple #[.agg #[.int .u64 0, .int .u64 0, .int .u64 0, .int .u64 0, .slice none 0 0], .int .i64 12]) (by simp [results, Try.results37, go_sem, k0, k1, k2, k3, k4]; try rfl) rfl ?_
        exact ⟨_, rfl, Ow.nil _ _, hBz⟩
      · rw [if_neg hbe] at hT
        have hbi : ¬ (0 : Int) < (beh.length : Int) := by omega
        by_cases h5 : fs.length ≠ 5
        · have hT' : T = (pk0, 12) := by rw [← hT]; unfold pkF; rw [if_pos h5]
          subst hT'
          clear hT
          have hni : (((fs.length : Nat) : Int) != 5) = true := by simp; omega
          have H5 : Hid _ := h5
          clear h5
          go_enter Try.func37, Try.ntmps37
          go_wp2_with fail
          refine htf.mono ?_
          rintro e w1 ⟨v1, v2, rfl, ho1, ho2, hap, hb1⟩
          go_wp2_with fail
          refine (htr w1 v1 ho1.rd).mono ?_
          rintro e w2 ⟨v3, us, rfl, ho3, hb2⟩
          have hs1 := hb1.size
          obtain ⟨a2, d2, rfl⟩ := ho2.shape
          obtain ⟨a3, d3, rfl, _⟩ := ho3.rds
          have hBE : Below w.heap.size w w2 := hb0.trans ((hb1.trans (hb2.mono hs1)).mono (by omega))
          have hRE := ((hb1.trans (hb2.mono hs1)).block w.heap.size (by omega)).trans hR0
          obtain ⟨r0, r1, r2, r3, r4, z0, z1, z2, z3, z4, hset⟩ := HFIN.out w2 hBE hRE
          obtain ⟨hS, hBz⟩ := hset (.int .u64 0) (.int .u64 0) (.int .u64 0) (.int .u64 0) (.slice none 0 0)
          have HSZ : Hid _ := And.intro hS hBz
          clear hset hS hBz
          go_wp2_with fail
          obtain ⟨hS, hBz⟩ := HSZ.out
          generalize (((((w2.setCell ⟨w.heap.size, 0, none⟩ (.int .u64 0)).setCell ⟨w.heap.size, 1, none⟩ (.int .u64 0)).setCell ⟨w.heap.size, 2, none⟩ (.int .u64 0)).setCell ⟨w.heap.size, 3, none⟩ (.int .u64 0)).setCell ⟨w.heap.size, 4, none⟩ (.slice none 0 0)) = wz at *
          obtain ⟨k0, k1, k2, k3, k4, _⟩ := cells5 hS
          refine bodyPost_ret (v := .tuple #[.agg #[.int .u64 0, .int .u64 0, .int .u64 0, .int .u64 0, .slice none 0 0], .int .i64 12]) (by simp [results, Try.results37, go_sem, k0, k1, k2, k3, k4]; try rfl) rfl ?_
          exact ⟨_, rfl, Ow.nil _ _, hBz⟩
        · have h5' : fs.length = 5 := by omega
          have hpk : ∀ k, k < 4 → pkN (fs.getD k []) = false → T = (pk0, 12) := fun k hk hf => by
            rw [← hT]
            unfold pkF
            rw [if_neg h5, if_neg]
            match k, hk with
            | 0, _ => rw [hf]; simp
            | 1, _ => rw [hf]; simp
            | 2, _ => rw [hf]; simp
            | 3, _ => rw [hf]; simp
          have hok : (∀ k, k < 4 → pkN (fs.getD k []) = true) → T = if (M.tv (fs.getD 2 [])).1 ≤ (M.tv (fs.getD 3 [])).1 then (pk0, 12) else (((M.tv (fs.getD 0 [])).1, (M.tv (fs.getD 1 [])).1, (M.tv (fs.getD 2 [])).1, (M.tv (fs.getD 3 [])).1, fs.getD 4 []), 0) := fun h => by
            rw [← hT]
            unfold pkF
            rw [if_neg h5, if_pos (by rw [h 0 (by omega), h 1 (by omega), h 2 (by omega), h 3 (by omega)]; rfl)]
          have HT : Hid _ := And.intro hpk hok
          clear hpk hok hT
          go_enter Try.func37, Try.ntmps37
          go_wp2_with fail
          refine htf.mono ?_
          rintro e w1 ⟨v1, v2, rfl, ho1, ho2, hap, hb1⟩
          go_wp2_with fail
          refine (htr w1 v1 ho1.rd).mono ?_
          rintro e w2 ⟨v3, us, rfl, ho3, hb2⟩
          have hs1 := hb1.size
          have hs2 := hb2.size
          obtain ⟨a2, d2, rfl⟩ := ho2.shape
          have hul : us.length = 5 := by rw [ho3.len]; exact h5'
          have hB2 : Below w.heap.size w w2 := hb0.trans ((hb1.trans (hb2.mono hs1)).mono (by omega))
          have hR2 := ((hb1.trans (hb2.mono hs1)).block w.heap.size (by omega)).trans hR0
          obtain ⟨g, cap, hv3, hgc, hg5, hg6, hcl⟩ : ∃ g cap, v3 = .slice (some ⟨g, 0, none⟩) 5 cap ∧ w1.heap.size ≤ g ∧ 5 ≤ cap ∧ cap ≤ 9223372036854775807 ∧ ∀ j u, us[j]? = some u → w2.cell? ⟨g, j, none⟩ = some u := by
            have hrow := ho3.row
            rcases hrow.2 with ⟨_, q⟩ | ⟨g, cap, cur, q, hg, hh, q1, q2, q3, q4⟩
            · omega
            · subst q
              refine ⟨g, cap, by rw [hul], hg, by omega, by unfold maxLen at q2; omega, fun j u e => ?_⟩
              rw [hrow.cellAt j (by have := (List.getElem?_eq_some_iff.1 e).1; omega)]
              exact e
          subst hv3
          have hel : ∀ j, j < 5 → ∃ u, us[j]? = some u ∧ Ow w1.heap.size w2 u (fs.getD j []) := fun j hj => by
            have hju : j < us.length := by omega
            have hjf : j < fs.length := by omega
            refine ⟨us[j], by simp [hju], ?_⟩
            have := ho3.el j us[j] (fs.getD j []) (by simp [hju]) (by simp [hjf])
            exact this
          obtain ⟨u4, hu4, ho4⟩ := hel 4 (by omega)
          have hc4 := hcl 4 u4 hu4
          generalize hf4 : fs.getD 4 [] = f4 at ho4
          obtain ⟨a4, d4, e4⟩ := ho4.shape
          subst e4
          have H4 : Hid (Ow w1.heap.size w2 (.slice a4 f4.length d4) f4 ∧ fs.getD 4 [] = f4) := And.intro ho4 hf4
          clear hu4 ho4 hf4
          have HEL : Hid _ := And.intro hel hcl
          have hR2l : w.heap.size < w2.heap.size := (Array.getElem?_eq_some_iff.1 hR2).1
          have hgl : g < w2.heap.size := World.block_lt_of_cell? w2 _ hc4
          have p1 := pk_al w2 (.cells #[.int .u64 0, .int .u64 0, .int .u64 0, .int .u64 0, .slice a4 f4.length d4] 69)
          have n1 := pk_new w2 (.cells #[.int .u64 0, .int .u64 0, .int .u64 0, .int .u64 0, .slice a4 f4.length d4] 69)
          have z1 : (w2.alloc (.cells #[.int .u64 0, .int .u64 0, .int .u64 0, .int .u64 0, .slice a4 f4.length d4] 69)).heap.size = w2.heap.size + 1 := by simp
          have p2 := pk_al (w2.alloc (.cells #[.int .u64 0, .int .u64 0, .int .u64 0, .int .u64 0, .slice a4 f4.length d4] 69)) (.cells #[.pointer (some ⟨w2.heap.size, 0, none⟩), .pointer (some ⟨w2.heap.size, 1, none⟩), .pointer (some ⟨w2.heap.size, 2, none⟩), .pointer (some ⟨w2.heap.size, 3, none⟩)] 98)
          have n2 := pk_new (w2.alloc (.cells #[.int .u64 0, .int .u64 0, .int .u64 0, .int .u64 0, .slice a4 f4.length d4] 69)) (.cells #[.pointer (some ⟨w2.heap.size, 0, none⟩), .pointer (some ⟨w2.heap.size, 1, none⟩), .pointer (some ⟨w2.heap.size, 2, none⟩), .pointer (some ⟨w2.heap.size, 3, none⟩)] 98)
          have n1' := (p2.block w2.heap.size (by omega)).trans n1
          rw [z1] at n2
          have p3 := p1.trans (p2.mono (by omega))
          have HP : Hid _ := And.intro n1' (And.intro n2 p3)
          clear hel hcl p1 n1 p2 n2 n1' p3 z1
          go_wp2_with fail
          obtain ⟨n1, n2, p3⟩ := HP.out
          generalize ((w2.alloc (.cells #[.int .u64 0, .int .u64 0, .int .u64 0, .int .u64 0, .slice a4 f4.length d4] 69)).alloc (.cells #[.pointer (some ⟨w2.heap.size, 0, none⟩), .pointer (some ⟨w2.heap.size, 1, none⟩), .pointer (some ⟨w2.heap.size, 2, none⟩), .pointer (some ⟨w2.heap.size, 3, none⟩)] 98)) = w3 at *
          clear HP
          go_loopw [9, 10, 11, 12, 13, 54] (fun _ _ _ _ _ x wr => ∃ k : Nat, k ≤ 4 ∧ x = .int .i64 k ∧ Hid (∀ j, j < k → pkN (fs.getD j []) = true) ∧ wr.heap[w2.heap.size]? = some (.cells #[tkC fs k 0, tkC fs k 1, tkC fs k 2, tkC fs k 3, .slice a4 f4.length d4] 69 (0, 0)) ∧ wr.heap[w2.heap.size + 1]? = some (.cells #[.pointer (some ⟨w2.heap.size, 0, none⟩), .pointer (some ⟨w2.heap.size, 1, none⟩), .pointer (some ⟨w2.heap.size, 2, none⟩), .pointer (some ⟨w2.heap.size, 3, none⟩)] 98 (0, 0)) ∧ Below w2.heap.size w2 wr) (fun _ _ _ _ _ x _ => 4 - (intOf x).toNat)
          case atStart => exact ⟨0, by omega, rfl, fun j hj => absurd hj (by omega), n1, n2, p3⟩
          case round =>
            obtain ⟨k, hk, rfl, HN, hp, hq, hbr⟩ := hrel
            clear n1 n2 p3
            have hRr := (hbr.block w.heap.size hR2l).trans hR2
            have hBr : Below w.heap.size w wr := hB2.trans (hbr.mono (by omega))
            by_cases hlt : k < 4
            · have hlt' : (k : Int) < 4 := by omega
              have hk5 : (k : Int) < 5 := by omega
              have hk5' : k < 5 := by omega
              obtain ⟨uk, huk, hok⟩ := HEL.out.1 k (by omega)
              have hck : wr.cell? ⟨g, k, none⟩ = some uk := by rw [hbr.cell hgl]; exact HEL.out.2 k uk huk
              have hpk : wr.cell? ⟨w2.heap.size + 1, k, none⟩ = some (.pointer (some ⟨w2.heap.size, k, none⟩)) := by rw [cell_of_row _ _ _ _ _ _ hq]; exact tkP_at _ k hlt
              have hrk := hok.rd.below hbr (Nat.le_refl _)
              have hlk : (fs.getD k []).length ≤ 1099511627776 := htr5 _ (by
                have : k < fs.length := by omega
                have e : fs.getD k [] = fs[k] := by simp [this]
                rw [e]; exact List.getElem_mem this)
              obtain ⟨ak, dk, ek⟩ := hok.shape
              subst ek
              have htv := takeV_any hrk (by omega)
              have hpn : ∀ b, pkN (fs.getD k []) = b → (decide ((M.tv (fs.getD k [])).2.2 = 0) && decide ((M.tv (fs.getD k [])).2.1.length = 0)) = b := fun b h => h
              have hsetk := tkC_set fs k hlt (.slice a4 f4.length d4)
              generalize hfk : fs.getD k [] = fk at *
              generalize hX : M.tv fk = X at *
              obtain ⟨nk, rk, ek⟩ := X
              simp only [] at *
              have HPN : Hid _ := And.intro hpn (And.intro hsetk (And.intro hfk hX))
              clear hpn hsetk hfk hX huk hok hrk
              by_cases hek : ek = 0
              · subst hek
                by_cases hrk0 : rk.length < 1
                · have hrki : ¬ (0 : Int) < (rk.length : Int) := by omega
                  go_wp2_with fail
                  refine htv.mono ?_
                  rintro e w4 ⟨v5, rfl, ho5, hb5⟩
                  obtain ⟨a5, d5, rfl⟩ := ho5.shape
                  have hlp := (Array.getElem?_eq_some_iff.1 hp).1
                  have hlq := (Array.getElem?_eq_some_iff.1 hq).1
                  have hp4 := (hb5.block w2.heap.size hlp).trans hp
                  have hq4 := (hb5.block (w2.heap.size + 1) hlq).trans hq
                  have kc : w4.cell? ⟨w2.heap.size, k, none⟩ = some (.int .u64 0) := by rw [cell_of_row _ _ _ _ _ _ hp4]; exact tkC_at fs k hlt _
                  have kz : w4.frozen? ⟨w2.heap.size, k, none⟩ = false := frozen_of_row _ _ _ _ _ hp4
                  have hch : Chg (fun b => b = w2.heap.size) w4 (w4.setCell ⟨w2.heap.size, k, none⟩ (.int .u64 (nk : Int))) := (Chg.refl (fun b => b = w2.heap.size) w4).put w2.heap.size k _ rfl
                  have hp5 := heap_setCell_same _ _ k _ _ (.int .u64 (nk : Int)) hp4
                  rw [HPN.out.2.1] at hp5
                  have HP5 : Hid _ := hp5
                  clear hp5
                  go_wp2_with fail
                  refine ⟨⟨k + 1, by omega, by go_num, fun j hj => ?_, HP5.out, ?_, (hbr.trans (hb5.mono hbr.size)).trans (hch.below (fun b e => by omega) (by have := hb5.size; omega))⟩, by simp [intOf]; omega⟩
                  · by_cases e : j < k
                    · exact HN.out j e
                    · obtain rfl : j = k := by omega
                      rw [HPN.out.2.2.1]
                      unfold pkN
                      rw [HPN.out.2.2.2]
                      have h0 : rk.length = 0 := by omega
                      simp only [h0]
                      rfl
                  · rw [hch.block (w2.heap.size + 1) (by have := hb5.size; omega) (by omega)]
                    exact hq4
                · have hrki : (0 : Int) < (rk.length : Int) := by omega
                  have hTT : T = (pk0, 12) := HT.out.1 k hlt (by
                    rw [HPN.out.2.2.1]; unfold pkN; rw [HPN.out.2.2.2]; have h0 : ¬ rk.length = 0 := by omega
                    simp only [h0]; rfl)
                  subst hTT
                  go_wp2_with fail
                  refine htv.mono ?_
                  rintro e w4 ⟨v5, rfl, ho5, hb5⟩
                  obtain ⟨a5, d5, rfl⟩ := ho5.shape
                  have hRE := (hb5.block w.heap.size (by have := hbr.size; omega)).trans hRr
                  have hBE : Below w.heap.size w w4 := hBr.trans (hb5.mono hBr.size)
                  obtain ⟨r0, r1, r2, r3, r4, z0, z1, z2, z3, z4, hset⟩ := HFIN.out w4 hBE hRE
                  obtain ⟨hS, hBz⟩ := hset (.int .u64 0) (.int .u64 0) (.int .u64 0) (.int .u64 0) (.slice none 0 0)
                  have HSZ : Hid _ := And.intro hS hBz
                  clear hset hS hBz
                  go_wp2_with fail
                  obtain ⟨hS, hBz⟩ := HSZ.out
                  generalize (((((w4.setCell ⟨w.heap.size, 0, none⟩ (.int .u64 0)).setCell ⟨w.heap.size, 1, none⟩ (.int .u64 0)).setCell ⟨w.heap.size, 2, none⟩ (.int .u64 0)).setCell ⟨w.heap.size, 3, none⟩ (.int .u64 0)).setCell ⟨w.heap.size, 4, none⟩ (.slice none 0 0)) = wz at *
                  obtain ⟨k0, k1, k2, k3, k4, _⟩ := cells5 hS
                  refine bodyPost_ret (v := .tuple #[.agg #[.int .u64 0, .int .u64 0, .int .u64 0, .int .u64 0, .slice none 0 0], .int .i64 12]) (by simp [results, Try.results37, go_sem, k0, k1, k2, k3, k4]; try rfl) rfl ?_
                  exact ⟨_, rfl, Ow.nil _ _, hBz⟩
              · have hne : (((ek : Nat) : Int) != 0) = true := by simp; omega
                have hTT : T = (pk0, 12) := HT.out.1 k hlt (by
                  rw [HPN.out.2.2.1]; unfold pkN; rw [HPN.out.2.2.2]; simp [hek])
                subst hTT
                go_wp2_with fail
                refine htv.mono ?_
                rintro e w4 ⟨v5, rfl, ho5, hb5⟩
                have hRE := (hb5.block w.heap.size (by have := hbr.size; omega)).trans hRr
                have hBE : Below w.heap.size w w4 := hBr.trans (hb5.mono hBr.size)
                obtain ⟨r0, r1, r2, r3, r4, z0, z1, z2, z3, z4, hset⟩ := HFIN.out w4 hBE hRE
                obtain ⟨hS, hBz⟩ := hset (.int .u64 0) (.int .u64 0) (.int .u64 0) (.int .u64 0) (.slice none 0 0)
                have HSZ : Hid _ := And.intro hS hBz
                clear hset hS hBz
                go_wp2_with fail
                obtain ⟨hS, hBz⟩ := HSZ.out
                generalize (((((w4.setCell ⟨w.heap.size, 0, none⟩ (.int .u64 0)).setCell ⟨w.heap.size, 1, none⟩ (.int .u64 0)).setCell ⟨w.heap.size, 2, none⟩ (.int .u64 0)).setCell ⟨w.heap.size, 3, none⟩ (.int .u64 0)).setCell ⟨w.heap.size, 4, none⟩ (.slice none 0 0)) = wz at *
                obtain ⟨k0, k1, k2, k3, k4, _⟩ := cells5 hS
                refine bodyPost_ret (v := .tuple #[.agg #[.int .u64 0, .int .u64 0, .int .u64 0, .int .u64 0, .slice none 0 0], .int .i64 12]) (by simp [results, Try.results37, go_sem, k0, k1, k2, k3, k4]; try rfl) rfl ?_
                exact ⟨_, rfl, Ow.nil _ _, hBz⟩
            · obtain rfl : k = 4 := by omega
              have hTT := HT.out.2 HN.out
              rw [H4.out.2] at hTT
              have e0 : tkC fs 4 0 = .int .u64 ((M.tv (fs.getD 0 [])).1 : Int) := rfl
              have e1 : tkC fs 4 1 = .int .u64 ((M.tv (fs.getD 1 [])).1 : Int) := rfl
              have e2 : tkC fs 4 2 = .int .u64 ((M.tv (fs.getD 2 [])).1 : Int) := rfl
              have e3 : tkC fs 4 3 = .int .u64 ((M.tv (fs.getD 3 [])).1 : Int) := rfl
              rw [e0, e1, e2, e3] at hp
              clear e0 e1 e2 e3
              generalize (M.tv (fs.getD 0 [])).1 = x0 at *
              generalize (M.tv (fs.getD 1 [])).1 = x1 at *
              generalize (M.tv (fs.getD 2 [])).1 = x2 at *
              generalize (M.tv (fs.getD 3 [])).1 = x3 at *
              obtain ⟨y0, y1, y2, y3, y4, yz⟩ := cells5 hp
              by_cases hge : x2 ≤ x3
              · rw [if_pos hge] at hTT
                subst hTT
                have hgei : (x2 : Int) ≤ (x3 : Int) := by omega
                have hRE := hRr
                have hBE := hBr
                obtain ⟨r0, r1, r2, r3, r4, z0, z1, z2, z3, z4, hset⟩ := HFIN.out wr hBE hRE
                obtain ⟨hS, hBz⟩ := hset (.int .u64 0) (.int .u64 0) (.int .u64 0) (.int .u64 0) (.slice none 0 0)
                have HSZ : Hid _ := And.intro hS hBz
                clear hset hS hBz
                go_wp2_with fail
                obtain ⟨hS, hBz⟩ := HSZ.out
                generalize (((((wr.setCell ⟨w.heap.size, 0, none⟩ (.int .u64 0)).setCell ⟨w.heap.size, 1, none⟩ (.int .u64 0)).setCell ⟨w.heap.size, 2, none⟩ (.int .u64 0)).setCell ⟨w.heap.size, 3, none⟩ (.int .u64 0)).setCell ⟨w.heap.size, 4, none⟩ (.slice none 0 0)) = wz at *
                obtain ⟨k0, k1, k2, k3, k4, _⟩ := cells5 hS
                refine bodyPost_ret (v := .tuple #[.agg #[.int .u64 0, .int .u64 0, .int .u64 0, .int .u64 0, .slice none 0 0], .int .i64 12]) (by simp [results, Try.results37, go_sem, k0, k1, k2, k3, k4]; try rfl) rfl ?_
                exact ⟨_, rfl, Ow.nil _ _, hBz⟩
              · rw [if_neg hge] at hTT
                subst hTT
                have hgei : ¬ (x2 : Int) ≤ (x3 : Int) := by omega
                obtain ⟨r0, r1, r2, r3, r4, z0, z1, z2, z3, z4, hset⟩ := HFIN.out wr hBr hRr
                obtain ⟨hS, hBz⟩ := hset (.int .u64 (x0 : Int)) (.int .u64 (x1 : Int)) (.int .u64 (x2 : Int)) (.int .u64 (x3 : Int)) (.slice a4 f4.length d4)
                have hoz : Ow w.heap.size (((((wr.setCell ⟨w.heap.size, 0, none⟩ (.int .u64 (x0 : Int))).setCell ⟨w.heap.size, 1, none⟩ (.int .u64 (x1 : Int))).setCell ⟨w.heap.size, 2, none⟩ (.int .u64 (x2 : Int))).setCell ⟨w.heap.size, 3, none⟩ (.int .u64 (x3 : Int))).setCell ⟨w.heap.size, 4, none⟩ (.slice a4 f4.length d4)) (.slice a4 f4.length d4) f4 :=
                  ((H4.out.1.below hbr (Nat.le_refl _)).keptC (set5_chg wr w.heap.size _ _ _ _ _) (fun b e q => by have := (World.ownsRow.lt H4.out.1 b e).1; omega)).mono (by omega)
                have HSZ : Hid _ := And.intro hS (And.intro hBz hoz)
                clear hset hS hBz hoz
                go_wp2_with fail
                obtain ⟨hS, hBz, hoz⟩ := HSZ.out
                generalize (((((wr.setCell ⟨w.heap.size, 0, none⟩ (.int .u64 (x0 : Int))).setCell ⟨w.heap.size, 1, none⟩ (.int .u64 (x1 : Int))).setCell ⟨w.heap.size, 2, none⟩ (.int .u64 (x2 : Int))).setCell ⟨w.heap.size, 3, none⟩ (.int .u64 (x3 : Int))).setCell ⟨w.heap.size, 4, none⟩ (.slice a4 f4.length d4)) = wz at *
                obtain ⟨k0, k1, k2, k3, k4, _⟩ := cells5 hS
                refine bodyPost_ret (v := .tuple #[.agg #[.int .u64 (x0 : Int), .int .u64 (x1 : Int), .int .u64 (x2 : Int), .int .u64 (x3 : Int), .slice a4 f4.length d4], .int .i64 0]) (by simp [results, Try.results37, go_sem, k0, k1, k2, k3, k4]; try rfl) rfl ?_
                exact ⟨_, rfl, hoz, hBz⟩
end Go.Proofs.Ytlajncjamafomaa
