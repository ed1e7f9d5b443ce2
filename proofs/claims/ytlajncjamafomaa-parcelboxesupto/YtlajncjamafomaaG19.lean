/- What readField and TakeRow answer of any bytes. -/
import Derived.Test.YtlajncjamafomaaG14
namespace Go.Proofs.Ytlajncjamafomaa
open Go.RowKit
set_option linter.unusedVariables false
set_option maxRecDepth 100000

theorem Try.info22 : (Try.prog.info? 22).map (fun i => (i.zero, i.size, i.bytes)) = some (some (.slice none 0 0), 1, 24) := by kernel_rfl

theorem part_drop (l : List UInt8) (n : Nat) : (M.part l n).2.1.length ≤ l.length := by
  unfold M.part; split <;> simp

theorem rfield_any {v : Value} {l : List UInt8} {w : World} (hr : Rd w v l) :
    Calls Try.prog 51 #[v] w fun e w' => ∃ v1 v2, e = .returned (.tuple #[v1, v2, .int .i64 (M.fd l).2.2]) ∧ (∀ w0, Rd w0 v l → Rd w0 v1 (M.fd l).1 ∧ Rd w0 v2 (M.fd l).2.1) ∧ ∃ k, w' = w.drewN k := by
  have hrv := rvar_any2 hr
  have htl := tv_lt l
  unfold M.fd
  generalize M.tv l = r at *
  obtain ⟨n, rest, er⟩ := r
  simp only [] at *
  by_cases her : er ≠ 0
  · rw [if_pos her]
    have hne : (((er : Nat) : Int) != 0) = true := by simp; omega
    go_enter Try.func51, Try.ntmps51
    go_wp2_with (go_at_call 47; refine hrv.mono ?_; rintro e w1 ⟨v2, rfl, hr2, k1, rfl⟩)
    go_ret3
    exact ⟨_, _, rfl, fun _ _ => ⟨Rd.nil _, Rd.nil _⟩, _, rfl⟩
  · rw [if_neg her]
    obtain rfl : er = 0 := by omega
    generalize hP : M.part rest n = P
    have HP : Hid _ := hP
    clear hP
    go_enter Try.func51, Try.ntmps51
    go_wp2_with fail
    refine hrv.mono ?_
    rintro e w1 ⟨v2, rfl, hr2, k1, rfl⟩
    go_wp2_with fail
    refine (part_any2 ((hr2 _ hr).drewN k1) htl).mono ?_
    rintro e w2 ⟨u1, u2, rfl, hu, k2, rfl⟩
    rw [HP.out] at hu ⊢
    go_wp2_with fail
    go_ret3
    exact ⟨_, _, rfl, fun w0 h0 => hu w0 (hr2 w0 h0), k1 + k2, rfl⟩

set_option maxHeartbeats 2000000 in
theorem takerow_any {v : Value} {l : List UInt8} {w : World} (hr : Rd w v l) (hl : l.length ≤ 1099511627776) :
    Calls Try.prog 30 #[v] w fun e w' => ∃ v' us, e = .returned (.tuple #[v', .int .i64 (M.tr l).2]) ∧ Ows w.heap.size w' v' (M.tr l).1 us ∧ Below w.heap.size w w' := by
  have hrv := rvar_any hr
  have htl := tv_lt l
  have hll := tv_len l
  by_cases her : (M.tv l).2.2 ≠ 0
  · have e : M.tr l = ([], (M.tv l).2.2) := by unfold M.tr; rw [if_pos her]
    rw [e]
    generalize M.tv l = r at *
    obtain ⟨n, rest, er⟩ := r
    simp only [] at *
    have hne : (((er : Nat) : Int) != 0) = true := by simp; omega
    clear e
    go_enter Try.func30, Try.ntmps30
    go_wp2_with (go_at_call 47; refine hrv.mono ?_; rintro e w1 ⟨v2, rfl, hr2, k1, rfl⟩)
    go_ret2
    exact ⟨_, _, rfl, Ows.nil _ _, Below.dN _ _⟩
  · have her' : (M.tv l).2.2 = 0 := by simpa using her
    by_cases hsh : (M.tv l).2.1.length < (M.tv l).1
    · have e : M.tr l = ([], 12) := by unfold M.tr; rw [if_neg her, if_pos hsh]
      rw [e]
      clear e her
      generalize M.tv l = r at *
      obtain ⟨n, rest, er⟩ := r
      simp only [] at *
      subst her'
      go_enter Try.func30, Try.ntmps30
      go_wp2_with fail
      refine hrv.mono ?_
      rintro e w1 ⟨v2, rfl, hr2, k1, rfl⟩
      obtain ⟨ao, c, rfl, g1, g2, g3, g4⟩ := hr2
      clear g3 g4
      unfold maxLen at g2
      go_wp2_with fail
      go_ret2
      exact ⟨_, _, rfl, Ows.nil _ _, Below.dN _ _⟩
    · have e := M.tr_rfA l her' (by omega)
      generalize M.tr l = T at *
      have HT : Hid _ := e
      clear e her
      generalize M.tv l = r at *
      obtain ⟨n, rest, er⟩ := r
      simp only [] at *
      subst her'
      go_enter Try.func30, Try.ntmps30
      go_wp2_with fail
      refine hrv.mono ?_
      rintro e w1 ⟨v2, rfl, hr2, k1, rfl⟩
      have hr2' := hr2
      obtain ⟨ao, c, rfl, g1, g2, g3, g4⟩ := hr2
      clear g3 g4
      unfold maxLen at g2
      go_wp2_with fail
      go_loopw [0, 6, 7, 8, 9, 25] (fun b fields _ _ _ i wr => ∃ (k : Nat) (fs : List (List UInt8)) (l2 : List UInt8) (us : List Value), k ≤ n ∧ i = .int .u64 k ∧ fs.length = k ∧ Rd w b l2 ∧ l2.length ≤ rest.length ∧ Hid (M.rfA (n - k) fs l2 = M.rfA n [] rest) ∧ Ows w.heap.size wr fields fs us ∧ Below w.heap.size w wr) (fun _ _ _ _ _ i _ => n - (intOf i).toNat)
      case atStart => exact ⟨0, [], rest, [], Nat.zero_le _, rfl, rfl, hr2', Nat.le_refl _, rfl, Ows.nil _ _, Below.dN _ _⟩
      case round =>
        obtain ⟨k, fs, l2, us, hk, rfl, hfl, hrb, hl2, HE, hos, hb⟩ := hrel
        clear hr2'
        have hB := hb.size
        by_cases hlt : k < n
        · have hfd := M.fd_len l2 (tv_len l2)
          have HF : Hid (if (M.fd l2).2.2 ≠ 0 then T = ([], (M.fd l2).2.2) else M.rfA (n - (k + 1)) (fs ++ [(M.fd l2).1]) (M.fd l2).2.1 = M.rfA n [] rest) := by
            have h1 := HE.out
            obtain ⟨q, hq⟩ : ∃ q, n - k = q + 1 := ⟨n - k - 1, by omega⟩
            rw [hq, M.rfA] at h1
            by_cases h2 : (M.fd l2).2.2 ≠ 0
            · rw [if_pos h2] at h1
              have h3 := HT.out
              rw [← h1] at h3
              show ite _ _ _
              rw [if_pos h2, h3, if_pos h2]
            · rw [if_neg h2] at h1
              show ite _ _ _
              rw [if_neg h2, show n - (k + 1) = q by omega]
              exact h1
          have hrb' := hrb.below hb (Nat.le_refl _)
          have hfield := rfield_any hrb'
          have hlf : fs.length ≤ 1099511627776 := by omega
          have hrb2 := hrb
          obtain ⟨ab, cb, rfl, b1, b2, _, _⟩ := hrb
          unfold maxLen at b2
          generalize M.fd l2 = F at *
          obtain ⟨f1, f2, fe⟩ := F
          simp only [] at *
          clear HE
          by_cases hfe : fe ≠ 0
          · have hT : T = ([], fe) := by
              have := HF.out; rw [if_pos hfe] at this; exact this
            subst hT
            have hne : (((fe : Nat) : Int) != 0) = true := by simp; omega
            clear HF HT
            go_wp2_with fail
            refine hfield.mono ?_
            rintro e w2 ⟨u1, u2, rfl, hu, k2, rfl⟩
            go_wp2_with fail
            go_ret2
            exact ⟨_, rfl, ⟨_, Ows.nil _ _⟩, hb.trans ((Below.dN wr k2).mono hB)⟩
          · obtain rfl : fe = 0 := by omega
            have HG : Hid (M.rfA (n - (k + 1)) (fs ++ [f1]) f2 = M.rfA n [] rest) := by
              have := HF.out; rw [if_neg hfe] at this; exact this
            clear HF hfe
            go_wp2_with fail
            refine hfield.mono ?_
            rintro e w2 ⟨u1, u2, rfl, hu, k2, rfl⟩
            have hos2 := hos.below (Below.dN wr k2) (Nat.le_refl _)
            have hu1 := (hu _ hrb').1
            have hu2 := (hu _ hrb2).2
            clear hu
            go_wp2_with fail
            refine (clone_any (hu1.drewN k2) (by omega)).mono ?_
            rintro e w3 ⟨u3, rfl, ho3, hb3⟩
            have hos3 := hos2.below hb3 (Nat.le_refl _)
            have hB3 : w.heap.size ≤ w3.heap.size := Nat.le_trans hB hb3.size
            have hul := hos.len
            have h24 := Try.info22
            obtain ⟨a3, c3, e3⟩ := ho3.shape
            subst e3
            go_wp2_with (first | (at_builtin; (refine wpList_app1 rfl _ _ 26 rfl w.heap.size 22 (.slice none 0 0) 24 Try.underlying26 h24 rfl _ us.length us rfl (World.ownsRow.alloc hos3.row _) _ _ _ rfl (cell_new1 _ _ _) rfl ?hmx ?hmy ?hmz ?_; rotate_right; intro v4 w4 ho4 hg4 hw4)) | fail)
            case hmx => unfold maxLen; omega
            case hmy => omega
            case hmz => rw [World.size_alloc]; omega
            have hos4 : Ows w.heap.size w4 v4 (fs ++ [f1]) (us ++ [.slice a3 f1.length c3]) := hos2.snoc hb3 (Nat.le_refl _) ho3 hB ho4 hg4 hw4
            have hb4 : Below w.heap.size w w4 := ((hb.trans ((Below.dN wr k2).mono hB)).trans (hb3.mono hB)).trans (((Below.refl w.heap.size w3).alloc hB3 _).trans ((Below.refl w.heap.size _).grown hg4 (by rw [World.size_alloc]; omega) (fun k hk => (World.ownsRow.lt hos3.row k hk).1)))
            refine ⟨⟨k + 1, fs ++ [f1], f2, us ++ [.slice a3 f1.length c3], by omega, by go_num, by simp [hfl], ?_, by omega, HG, hos4, hb4⟩, by simp [intOf]; omega⟩
            exact hu2
        · obtain rfl : k = n := by omega
          have hT : T = if l2.length ≠ 0 then ([], 12) else (fs, 0) := by
            have h1 := HT.out
            rw [← HE.out, Nat.sub_self] at h1
            simpa [M.rfA] using h1
          clear HT HE
          obtain ⟨ab, cb, rfl, b1, b2, _, _⟩ := hrb
          unfold maxLen at b2
          by_cases h0 : l2.length ≠ 0
          · rw [if_pos h0] at hT
            subst hT
            go_wp2_with fail
            go_ret2
            exact ⟨_, rfl, ⟨_, Ows.nil _ _⟩, hb⟩
          · rw [if_neg h0] at hT
            subst hT
            go_wp2_with fail
            go_ret2
            exact ⟨_, rfl, ⟨_, hos⟩, hb⟩
end Go.Proofs.Ytlajncjamafomaa
