/- What the document's own TakeRow answers of any bytes. -/
import Derived.Test.YtlajncjamafomaaG19
import Derived.Test.YtlajncjamafomaaG14
namespace Go.Proofs.Ytlajncjamafomaa
open Go.RowKit
set_option linter.unusedVariables false
set_option maxRecDepth 100000

theorem piece_own {a1 : Option Addr} {p : Prop} [Decidable p] {m n c n' c' b : Nat} (h : (Value.slice (if p then a1 else a1.map (fun a => a.add m)) n c).ownBlock = some b) : (Value.slice a1 n' c').ownBlock = some b := by
  cases a1 with
  | none => split at h <;> cases h
  | some a =>
    split at h
    · exact h
    · simpa [Value.ownBlock, add_block] using h

set_option maxHeartbeats 2000000 in
theorem rtakerow_any {v : Value} {l : List UInt8} {w : World} (hr : Rd w v l) (hl : l.length ≤ 1099511627776) :
    Calls Try.prog 40 #[v] w fun e w' => ∃ v' us, e = .returned (.tuple #[v', .int .i64 (M.tr l).2]) ∧ Ows w.heap.size w' v' (M.tr l).1 us ∧ Below w.heap.size w w' := by
  have hrv := rtakeV_any hr (by omega)
  have htl := tv_lt l
  have hll := tv_len l
  by_cases her : (M.tv l).2.2 ≠ 0
  · have e : M.tr l = ([], (M.tv l).2.2) := by unfold M.tr; rw [if_pos her]
    rw [e]
    generalize M.tv l = r at *
    obtain ⟨n, rest, er⟩ := r
    simp only [] at *
    have hne : (((er : Nat) : Int) != 0) = true := by simp; omega
    clear e
    go_enter Try.func40, Try.ntmps40
    go_wp2_with fail
    refine hrv.mono ?_
    rintro e w1 ⟨v2, rfl, hr2, hb1⟩
    go_wp2_with fail
    go_ret2
    exact ⟨_, _, rfl, Ows.nil _ _, hb1⟩
  · have her' : (M.tv l).2.2 = 0 := by simpa using her
    by_cases hsh : (M.tv l).2.1.length < (M.tv l).1
    · have e : M.tr l = ([], 12) := by unfold M.tr; rw [if_neg her, if_pos hsh]
      rw [e]
      clear e her
      generalize M.tv l = r at *
      obtain ⟨n, rest, er⟩ := r
      simp only [] at *
      subst her'
      go_enter Try.func40, Try.ntmps40
      go_wp2_with fail
      refine hrv.mono ?_
      rintro e w1 ⟨v2, rfl, hr2, hb1⟩
      obtain ⟨ao, c, rfl, g1, g2, g3, g4⟩ := hr2.rd
      clear g3 g4
      unfold maxLen at g2
      go_wp2_with fail
      go_ret2
      exact ⟨_, _, rfl, Ows.nil _ _, hb1⟩
    · have e := M.tr_rfA l her' (by omega)
      generalize M.tr l = T at *
      have HT : Hid _ := e
      clear e her
      generalize M.tv l = r at *
      obtain ⟨n, rest, er⟩ := r
      simp only [] at *
      subst her'
      go_enter Try.func40, Try.ntmps40
      go_wp2_with fail
      refine hrv.mono ?_
      rintro e w1 ⟨v2, rfl, hr2, hb1⟩
      have hr2' := hr2.rd
      obtain ⟨ao, c, rfl, g1, g2, g3, g4⟩ := hr2.rd
      clear g3 g4
      unfold maxLen at g2
      go_wp2_with fail
      go_loopw [5, 7, 8, 9, 10, 11] (fun b fields i _ _ _ wr => ∃ (k : Nat) (fs : List (List UInt8)) (l2 : List UInt8) (us : List Value), k ≤ n ∧ i = .int .i64 k ∧ fs.length = k ∧ Rd wr b l2 ∧ l2.length ≤ rest.length ∧ Hid (M.rfA (n - k) fs l2 = M.rfA n [] rest) ∧ Ows w.heap.size wr fields fs us ∧ Below w.heap.size w wr) (fun _ _ i _ _ _ _ => n - (intOf i).toNat)
      case atStart => exact ⟨0, [], rest, [], Nat.zero_le _, rfl, rfl, hr2', Nat.le_refl _, rfl, Ows.nil _ _, hb1⟩
      case round =>
        obtain ⟨k, fs, l2, us, hk, rfl, hfl, hrb, hl2, HE, hos, hb⟩ := hrel
        clear hr2' hr2 hb1 hrv
        have hB := hb.size
        by_cases hlt : k < n
        · have htv := tv_len l2
          have htl2 := tv_lt l2
          have HF : Hid (if (M.tv l2).2.2 ≠ 0 then T = ([], (M.tv l2).2.2) else if (M.tv l2).2.1.length < (M.tv l2).1 then T = ([], 10) else M.rfA (n - (k + 1)) (fs ++ [(M.tv l2).2.1.take (M.tv l2).1]) ((M.tv l2).2.1.drop (M.tv l2).1) = M.rfA n [] rest) := by
            have h1 := HE.out
            obtain ⟨q, hq⟩ : ∃ q, n - k = q + 1 := ⟨n - k - 1, by omega⟩
            have h3 := HT.out
            rw [hq, M.rfA] at h1
            show ite _ _ _
            by_cases h2 : (M.tv l2).2.2 ≠ 0
            · have ef : M.fd l2 = ([], [], (M.tv l2).2.2) := by unfold M.fd; rw [if_pos h2]
              rw [ef, if_pos h2] at h1
              rw [← h1] at h3
              rw [if_pos h2, h3, if_pos h2]
            · rw [if_neg h2]
              by_cases h4 : (M.tv l2).2.1.length < (M.tv l2).1
              · have ef : M.fd l2 = ([], [], 10) := by unfold M.fd M.part; rw [if_neg h2, if_pos h4]
                rw [ef, if_pos (by decide)] at h1
                rw [← h1] at h3
                rw [if_pos h4, h3]
                rfl
              · have ef : M.fd l2 = ((M.tv l2).2.1.take (M.tv l2).1, (M.tv l2).2.1.drop (M.tv l2).1, 0) := by unfold M.fd M.part; rw [if_neg h2, if_neg h4]
                rw [ef, if_neg (by simp)] at h1
                rw [if_neg h4, show n - (k + 1) = q by omega]
                exact h1
          have hfield := rtakeV_any hrb (by omega)
          have hlf : fs.length ≤ 1099511627776 := by omega
          obtain ⟨ab, cb, rfl, b1, b2, _, _⟩ := hrb
          unfold maxLen at b2
          generalize M.tv l2 = F at *
          obtain ⟨m, nx, fe⟩ := F
          simp only [] at *
          clear HE
          by_cases hfe : fe ≠ 0
          · have hT : T = ([], fe) := by
              have := HF.out; rw [if_pos hfe] at this; exact this
            subst hT
            have hne : (((fe : Nat) : Int) != 0) = true := by simp; omega
            clear HF HT
            go_wp2_with fail
            refine hfield.mono ?_
            rintro e w2 ⟨u1, rfl, hu1, hb2⟩
            go_wp2_with fail
            go_ret2
            exact ⟨_, rfl, ⟨_, Ows.nil _ _⟩, hb.trans (hb2.mono hB)⟩
          · obtain rfl : fe = 0 := by omega
            by_cases hm : nx.length < m
            · have hT : T = ([], 10) := by
                have := HF.out; rw [if_neg hfe, if_pos hm] at this; exact this
              subst hT
              clear HF HT hfe
              go_wp2_with fail
              refine hfield.mono ?_
              rintro e w2 ⟨u1, rfl, hu1, hb2⟩
              obtain ⟨a1, c1, rfl, d1, d2, _, _⟩ := hu1.rd
              unfold maxLen at d2
              go_wp2_with fail
              go_ret2
              exact ⟨_, rfl, ⟨_, Ows.nil _ _⟩, hb.trans (hb2.mono hB)⟩
            · have HG : Hid (M.rfA (n - (k + 1)) (fs ++ [nx.take m]) (nx.drop m) = M.rfA n [] rest) := by
                have := HF.out; rw [if_neg hfe, if_neg hm] at this; exact this
              clear HF hfe
              go_wp2_with fail
              refine hfield.mono ?_
              rintro e w2 ⟨u1, rfl, hu1, hb2⟩
              have hur := hu1.rd
              have hub : ∀ b, u1.ownBlock = some b → wr.heap.size ≤ b ∧ b < w2.heap.size := fun b e => World.ownsRow.lt hu1 b e
              obtain ⟨a1, c1, rfl, d1, d2, _, _⟩ := hu1.rd
              unfold maxLen at d2
              have hos2 := hos.below hb2 (Nat.le_refl _)
              have hB2 : w.heap.size ≤ w2.heap.size := Nat.le_trans hB hb2.size
              have hvl := fun b e => (World.ownsRow.lt hos.row b e).2
              have hpre := hur.pre m (by omega)
              have htk : (nx.take m).length ≤ 140737488355328 := by rw [List.length_take]; omega
              have HD : Hid _ := hur.post m (by omega) (if c1 = m then a1 else a1.map (fun a => a.add m)) ⟨fun h => by rw [if_pos h], fun h => by rw [if_neg h]⟩
              have HBK : Hid (∀ b, (Value.slice (if c1 = m then a1 else a1.map (fun a => a.add m)) (nx.length - m) (c1 - m)).ownBlock = some b → wr.heap.size ≤ b ∧ b < w2.heap.size) := by
                exact fun b e => hub b (piece_own e)
              generalize nx.take m = TK at *
              clear hub
              go_wp2_with fail
              refine (copy_any hpre htk).mono ?_
              rintro e w3 ⟨u3, rfl, ho3, hb3⟩
              have hos3 := hos2.below hb3 (Nat.le_refl _)
              have hB3 : w.heap.size ≤ w3.heap.size := Nat.le_trans hB2 hb3.size
              have hul := hos.len
              have h24 := Try.info22
              obtain ⟨a3, c3, e3⟩ := ho3.shape
              subst e3
              by_cases hc1 : c1 = m
              all_goals
                go_wp2_with (first | (at_builtin; (refine wpList_app1 rfl _ _ 26 rfl w.heap.size 22 (.slice none 0 0) 24 Try.underlying26 h24 rfl _ us.length us rfl (World.ownsRow.alloc hos3.row _) _ _ _ rfl (cell_new1 _ _ _) rfl ?hmx ?hmy ?hmz ?_; rotate_right; intro v4 w4 ho4 hg4 hw4)) | fail)
                case hmx => unfold maxLen; omega
                case hmy => omega
                case hmz => rw [World.size_alloc]; omega
                have hos4 : Ows w.heap.size w4 v4 (fs ++ [TK]) (us ++ [.slice a3 TK.length c3]) := hos2.snoc hb3 (Nat.le_refl _) ho3 hB2 ho4 hg4 hw4
                have hb4 : Below w.heap.size w w4 := ((hb.trans (hb2.mono hB)).trans (hb3.mono hB2)).trans (((Below.refl w.heap.size w3).alloc hB3 _).trans ((Below.refl w.heap.size _).grown hg4 (by rw [World.size_alloc]; omega) (fun k hk => (World.ownsRow.lt hos3.row k hk).1)))
                have hd4 := ((Rd.below HD.out hb3 (Nat.le_refl _)).alloc (.cells #[.slice a3 TK.length c3] 22)).grown hg4 (fun b e q => by have := HBK.out b e; have := hvl b q; omega)
                refine ⟨⟨k + 1, fs ++ [TK], nx.drop m, us ++ [.slice a3 TK.length c3], by omega, by go_num, by simp [hfl], ?_, by rw [List.length_drop]; omega, HG, hos4, hb4⟩, by simp [intOf]; omega⟩
                first | (rw [if_pos hc1] at hd4; exact Rd.cong hd4 rfl rfl (by omega)) | (rw [if_neg hc1] at hd4; exact hd4)
        · obtain rfl : k = n := by omega
          have hT : T = if l2.length ≠ 0 then ([], 12) else (fs, 0) := by
            have h1 := HT.out
            rw [← HE.out, Nat.sub_self] at h1
            simpa [M.rfA] using h1
          clear HT HE
          obtain ⟨ab, cb, rfl, b1, b2, _, _⟩ := hrb
          unfold maxLen at b2
          by_cases h0 : l2.length ≠ 0
          · rw [if_pos h0] at hT
            subst hT
            go_wp2_with fail
            go_ret2
            exact ⟨_, rfl, ⟨_, Ows.nil _ _⟩, hb⟩
          · rw [if_neg h0] at hT
            subst hT
            go_wp2_with fail
            go_ret2
            exact ⟨_, rfl, ⟨_, hos⟩, hb⟩
end Go.Proofs.Ytlajncjamafomaa
