/- What Row answers of any fields. -/
import Derived.Test.YtnenfflkldpbgaaG4
import Derived.Test.YtnenfflkldpbgaaG3
import Derived.Deep.RegionHeld3
namespace Go.Proofs.Ytnenfflkldpbgaa
open Go.RowKit
set_option linter.unusedVariables false
set_option maxRecDepth 100000

set_option maxHeartbeats 1000000 in
theorem row_any {v : Value} {ls : List (List UInt8)} {w : World} (hr : Rds w v ls) (hl : (M.row ls).length ≤ 1099511627776) (hn : ls.length ≤ 1099511627776) :
    Calls Try.prog 41 #[v] w fun e w' => ∃ v', e = .returned v' ∧ Ow w.heap.size w' v' (M.row ls) ∧ Below w.heap.size w w' := by
  obtain ⟨ao, c, rfl, h1, h2, h4⟩ := hr
  unfold maxLen at h2
  have hvl := vi_len ls.length
  have hrl : (M.rowB ls).length ≤ 1099511627776 := by simp [M.row] at hl; omega
  clear hl
  go_enter Try.func41, Try.ntmps41
  go_wp2_with fail
  refine (varint_any ls.length _ (by omega)).mono ?_
  rintro e w1 ⟨v1, rfl, ho1, hb1⟩
  go_wp2_with fail
  go_loopw [3, 5, 12] (fun out _ i wr => ∃ k : Nat, k ≤ ls.length ∧ i = .int .i64 k ∧ Ow w.heap.size wr out (M.vi ls.length ++ M.rowB (ls.take k)) ∧ Below w.heap.size w wr) (fun _ _ i _ => ls.length - (intOf i).toNat)
  case atStart => exact ⟨0, Nat.zero_le _, rfl, by simpa [M.rowB] using ho1, hb1⟩
  case round =>
    obtain ⟨k, hk, rfl, ho, hb⟩ := hrel
    clear ho1 hb1
    have hB := hb.size
    by_cases hlt : k < ls.length
    · obtain ⟨a, u, rfl, hc, hru⟩ := h4 k hlt
      have hcx : wr.cell? (a.add k) = some u := by rw [hb.cell (World.block_lt_of_cell? w _ hc)]; exact hc
      have hfl := M.rowB_field ls k hlt
      have hvf := vi_len ls[k].length
      have hsn := M.rowB_snoc ls k hlt
      have HSN : Hid _ := hsn
      have hru' := hru
      obtain ⟨au, cu, rfl, u1, u2, _, _⟩ := hru
      unfold maxLen at u2
      have hdl : (M.vi ls.length ++ M.rowB (ls.take k)).length + (M.vi ls[k].length).length + ls[k].length ≤ 1099511628000 := by simp only [List.length_append]; omega
      generalize hcur : M.vi ls.length ++ M.rowB (ls.take k) = cur at *
      generalize hfk : ls[k] = fk at *
      have HC : Hid _ := And.intro hcur hfk
      clear hcur hsn hfl hc h4
      go_wp2_with fail
      refine (varint_any fk.length _ (by omega)).mono ?_
      rintro e w2 ⟨v2, rfl, ho2, hb2⟩
      have ho' := ho.below hb2 (Nat.le_refl _)
      have hb' : Below w.heap.size w w2 := hb.trans (hb2.mono hB)
      have hB2 := hb'.size
      go_wp2_with (first | (at_builtin; refine wpList_app rfl _ _ rfl w.heap.size _ cur rfl ho' _ (M.vi fk.length) rfl ho2.rd hB2 (by omega) ?_; intro v3 w3 ho3 hb3 hg3) | (at_builtin; refine wpList_app rfl _ _ rfl w.heap.size _ (cur ++ M.vi fk.length) rfl ho3 _ fk rfl ?r1 ?r2 ?r3 ?_; rotate_right; intro v4 w4 ho4 hb4 hg4) | fail)
      case r1 => exact hru'.below (hb'.trans hb3) (Nat.le_refl _)
      case r2 => exact (hb'.trans hb3).size
      case r3 => rw [List.length_append]; omega
      refine ⟨⟨k + 1, by omega, by go_num, ?_, (hb'.trans hb3).trans hb4⟩, by simp [intOf]; omega⟩
      have e : M.vi ls.length ++ M.rowB (ls.take (k + 1)) = cur ++ M.vi fk.length ++ fk := by
        rw [HSN.out, ← HC.out.1]; simp
      rw [e]; exact ho4
    · obtain rfl : k = ls.length := by omega
      go_wp2_with fail
      go_ret
      refine ⟨_, rfl, ?_, hb⟩
      rw [List.take_of_length_le (Nat.le_refl _)] at ho
      exact ho
end Go.Proofs.Ytnenfflkldpbgaa

/- What readField and TakeRow answer of any bytes. -/
namespace Go.Proofs.Ytnenfflkldpbgaa
open Go.RowKit
set_option linter.unusedVariables false
set_option maxRecDepth 100000

theorem Try.info23 : (Try.prog.info? 23).map (fun i => (i.zero, i.size, i.bytes)) = some (some (.slice none 0 0), 1, 24) := by kernel_rfl

theorem part_drop (l : List UInt8) (n : Nat) : (M.part l n).2.1.length ≤ l.length := by
  unfold M.part; split <;> simp

theorem rfield_any {v : Value} {l : List UInt8} {w : World} (hr : Rd w v l) :
    Calls Try.prog 70 #[v] w fun e w' => ∃ v1 v2, e = .returned (.tuple #[v1, v2, .int .i64 (M.fd l).2.2]) ∧ (∀ w0, Rd w0 v l → Rd w0 v1 (M.fd l).1 ∧ Rd w0 v2 (M.fd l).2.1) ∧ ∃ k, w' = w.drewN k := by
  have hrv := rvar_any2 hr
  have htl := tv_lt l
  unfold M.fd
  generalize M.tv l = r at *
  obtain ⟨n, rest, er⟩ := r
  simp only [] at *
  by_cases her : er ≠ 0
  · rw [if_pos her]
    have hne : (((er : Nat) : Int) != 0) = true := by simp; omega
    go_enter Try.func70, Try.ntmps70
    go_wp2_with (go_at_call 69; refine hrv.mono ?_; rintro e w1 ⟨v2, rfl, hr2, k1, rfl⟩)
    go_ret3
    exact ⟨_, _, rfl, fun _ _ => ⟨Rd.nil _, Rd.nil _⟩, _, rfl⟩
  · rw [if_neg her]
    obtain rfl : er = 0 := by omega
    generalize hP : M.part rest n = P
    have HP : Hid _ := hP
    clear hP
    go_enter Try.func70, Try.ntmps70
    go_wp2_with fail
    refine hrv.mono ?_
    rintro e w1 ⟨v2, rfl, hr2, k1, rfl⟩
    go_wp2_with fail
    refine (part_any2 ((hr2 _ hr).drewN k1) htl).mono ?_
    rintro e w2 ⟨u1, u2, rfl, hu, k2, rfl⟩
    rw [HP.out] at hu ⊢
    go_wp2_with fail
    go_ret3
    exact ⟨_, _, rfl, fun w0 h0 => hu w0 (hr2 w0 h0), k1 + k2, rfl⟩

set_option maxHeartbeats 2000000 in
theorem takerow_any {v : Value} {l : List UInt8} {w : World} (hr : Rd w v l) (hl : l.length ≤ 1099511627776) :
    Calls Try.prog 42 #[v] w fun e w' => ∃ v' us, e = .returned (.tuple #[v', .int .i64 (M.tr l).2]) ∧ Ows w.heap.size w' v' (M.tr l).1 us ∧ Below w.heap.size w w' := by
  have hrv := rvar_any hr
  have htl := tv_lt l
  have hll := tv_len l
  by_cases her : (M.tv l).2.2 ≠ 0
  · have e : M.tr l = ([], (M.tv l).2.2) := by unfold M.tr; rw [if_pos her]
    rw [e]
    generalize M.tv l = r at *
    obtain ⟨n, rest, er⟩ := r
    simp only [] at *
    have hne : (((er : Nat) : Int) != 0) = true := by simp; omega
    clear e
    go_enter Try.func42, Try.ntmps42
    go_wp2_with (go_at_call 69; refine hrv.mono ?_; rintro e w1 ⟨v2, rfl, hr2, k1, rfl⟩)
    go_ret2
    exact ⟨_, _, rfl, Ows.nil _ _, Below.dN _ _⟩
  · have her' : (M.tv l).2.2 = 0 := by simpa using her
    by_cases hsh : (M.tv l).2.1.length < (M.tv l).1
    · have e : M.tr l = ([], 12) := by unfold M.tr; rw [if_neg her, if_pos hsh]
      rw [e]
      clear e her
      generalize M.tv l = r at *
      obtain ⟨n, rest, er⟩ := r
      simp only [] at *
      subst her'
      go_enter Try.func42, Try.ntmps42
      go_wp2_with fail
      refine hrv.mono ?_
      rintro e w1 ⟨v2, rfl, hr2, k1, rfl⟩
      obtain ⟨ao, c, rfl, g1, g2, g3, g4⟩ := hr2
      clear g3 g4
      unfold maxLen at g2
      go_wp2_with fail
      go_ret2
      exact ⟨_, _, rfl, Ows.nil _ _, Below.dN _ _⟩
    · have e := M.tr_rfA l her' (by omega)
      generalize M.tr l = T at *
      have HT : Hid _ := e
      clear e her
      generalize M.tv l = r at *
      obtain ⟨n, rest, er⟩ := r
      simp only [] at *
      subst her'
      go_enter Try.func42, Try.ntmps42
      go_wp2_with fail
      refine hrv.mono ?_
      rintro e w1 ⟨v2, rfl, hr2, k1, rfl⟩
      have hr2' := hr2
      obtain ⟨ao, c, rfl, g1, g2, g3, g4⟩ := hr2
      clear g3 g4
      unfold maxLen at g2
      go_wp2_with fail
      go_loopw [0, 6, 7, 8, 9, 25] (fun b fields _ _ _ i wr => ∃ (k : Nat) (fs : List (List UInt8)) (l2 : List UInt8) (us : List Value), k ≤ n ∧ i = .int .u64 k ∧ fs.length = k ∧ Rd w b l2 ∧ l2.length ≤ rest.length ∧ Hid (M.rfA (n - k) fs l2 = M.rfA n [] rest) ∧ Ows w.heap.size wr fields fs us ∧ Below w.heap.size w wr) (fun _ _ _ _ _ i _ => n - (intOf i).toNat)
      case atStart => exact ⟨0, [], rest, [], Nat.zero_le _, rfl, rfl, hr2', Nat.le_refl _, rfl, Ows.nil _ _, Below.dN _ _⟩
      case round =>
        obtain ⟨k, fs, l2, us, hk, rfl, hfl, hrb, hl2, HE, hos, hb⟩ := hrel
        clear hr2'
        have hB := hb.size
        by_cases hlt : k < n
        · have hfd := M.fd_len l2 (tv_len l2)
          have HF : Hid (if (M.fd l2).2.2 ≠ 0 then T = ([], (M.fd l2).2.2) else M.rfA (n - (k + 1)) (fs ++ [(M.fd l2).1]) (M.fd l2).2.1 = M.rfA n [] rest) := by
            have h1 := HE.out
            obtain ⟨q, hq⟩ : ∃ q, n - k = q + 1 := ⟨n - k - 1, by omega⟩
            rw [hq, M.rfA] at h1
            by_cases h2 : (M.fd l2).2.2 ≠ 0
            · rw [if_pos h2] at h1
              have h3 := HT.out
              rw [← h1] at h3
              show ite _ _ _
              rw [if_pos h2, h3, if_pos h2]
            · rw [if_neg h2] at h1
              show ite _ _ _
              rw [if_neg h2, show n - (k + 1) = q by omega]
              exact h1
          have hrb' := hrb.below hb (Nat.le_refl _)
          have hfield := rfield_any hrb'
          have hlf : fs.length ≤ 1099511627776 := by omega
          have hrb2 := hrb
          obtain ⟨ab, cb, rfl, b1, b2, _, _⟩ := hrb
          unfold maxLen at b2
          generalize M.fd l2 = F at *
          obtain ⟨f1, f2, fe⟩ := F
          simp only [] at *
          clear HE
          by_cases hfe : fe ≠ 0
          · have hT : T = ([], fe) := by
              have := HF.out; rw [if_pos hfe] at this; exact this
            subst hT
            have hne : (((fe : Nat) : Int) != 0) = true := by simp; omega
            clear HF HT
            go_wp2_with fail
            refine hfield.mono ?_
            rintro e w2 ⟨u1, u2, rfl, hu, k2, rfl⟩
            go_wp2_with fail
            go_ret2
            exact ⟨_, rfl, ⟨_, Ows.nil _ _⟩, hb.trans ((Below.dN wr k2).mono hB)⟩
          · obtain rfl : fe = 0 := by omega
            have HG : Hid (M.rfA (n - (k + 1)) (fs ++ [f1]) f2 = M.rfA n [] rest) := by
              have := HF.out; rw [if_neg hfe] at this; exact this
            clear HF hfe
            go_wp2_with fail
            refine hfield.mono ?_
            rintro e w2 ⟨u1, u2, rfl, hu, k2, rfl⟩
            have hos2 := hos.below (Below.dN wr k2) (Nat.le_refl _)
            have hu1 := (hu _ hrb').1
            have hu2 := (hu _ hrb2).2
            clear hu
            go_wp2_with fail
            refine (clone_any (hu1.drewN k2) (by omega)).mono ?_
            rintro e w3 ⟨u3, rfl, ho3, hb3⟩
            have hos3 := hos2.below hb3 (Nat.le_refl _)
            have hB3 : w.heap.size ≤ w3.heap.size := Nat.le_trans hB hb3.size
            have hul := hos.len
            have h24 := Try.info23
            obtain ⟨a3, c3, e3⟩ := ho3.shape
            subst e3
            go_wp2_with (first | (at_builtin; (refine wpList_app1 rfl _ _ 53 rfl w.heap.size 23 (.slice none 0 0) 24 Try.underlying53 h24 rfl _ us.length us rfl (World.ownsRow.alloc hos3.row _) _ _ _ rfl (cell_new1 _ _ _) rfl ?hmx ?hmy ?hmz ?_; rotate_right; intro v4 w4 ho4 hg4 hw4)) | fail)
            case hmx => unfold maxLen; omega
            case hmy => omega
            case hmz => rw [World.size_alloc]; omega
            have hos4 : Ows w.heap.size w4 v4 (fs ++ [f1]) (us ++ [.slice a3 f1.length c3]) := hos2.snoc hb3 (Nat.le_refl _) ho3 hB ho4 hg4 hw4
            have hb4 : Below w.heap.size w w4 := ((hb.trans ((Below.dN wr k2).mono hB)).trans (hb3.mono hB)).trans (((Below.refl w.heap.size w3).alloc hB3 _).trans ((Below.refl w.heap.size _).grown hg4 (by rw [World.size_alloc]; omega) (fun k hk => (World.ownsRow.lt hos3.row k hk).1)))
            refine ⟨⟨k + 1, fs ++ [f1], f2, us ++ [.slice a3 f1.length c3], by omega, by go_num, by simp [hfl], ?_, by omega, HG, hos4, hb4⟩, by simp [intOf]; omega⟩
            exact hu2
        · obtain rfl : k = n := by omega
          have hT : T = if l2.length ≠ 0 then ([], 12) else (fs, 0) := by
            have h1 := HT.out
            rw [← HE.out, Nat.sub_self] at h1
            simpa [M.rfA] using h1
          clear HT HE
          obtain ⟨ab, cb, rfl, b1, b2, _, _⟩ := hrb
          unfold maxLen at b2
          by_cases h0 : l2.length ≠ 0
          · rw [if_pos h0] at hT
            subst hT
            go_wp2_with fail
            go_ret2
            exact ⟨_, rfl, ⟨_, Ows.nil _ _⟩, hb⟩
          · rw [if_neg h0] at hT
            subst hT
            go_wp2_with fail
            go_ret2
            exact ⟨_, rfl, ⟨_, hos⟩, hb⟩
end Go.Proofs.Ytnenfflkldpbgaa

/- What the document's own TakeRow answers of any bytes. -/
namespace Go.Proofs.Ytnenfflkldpbgaa
open Go.RowKit
set_option linter.unusedVariables false
set_option maxRecDepth 100000

theorem piece_own {a1 : Option Addr} {p : Prop} [Decidable p] {m n c n' c' b : Nat} (h : (Value.slice (if p then a1 else a1.map (fun a => a.add m)) n c).ownBlock = some b) : (Value.slice a1 n' c').ownBlock = some b := by
  cases a1 with
  | none => split at h <;> cases h
  | some a =>
    split at h
    · exact h
    · simpa [Value.ownBlock, add_block] using h

set_option maxHeartbeats 2000000 in
theorem rtakerow_any {v : Value} {l : List UInt8} {w : World} (hr : Rd w v l) (hl : l.length ≤ 1099511627776) :
    Calls Try.prog 54 #[v] w fun e w' => ∃ v' us, e = .returned (.tuple #[v', .int .i64 (M.tr l).2]) ∧ Ows w.heap.size w' v' (M.tr l).1 us ∧ Below w.heap.size w w' := by
  have hrv := rtakeV_any hr (by omega)
  have htl := tv_lt l
  have hll := tv_len l
  by_cases her : (M.tv l).2.2 ≠ 0
  · have e : M.tr l = ([], (M.tv l).2.2) := by unfold M.tr; rw [if_pos her]
    rw [e]
    generalize M.tv l = r at *
    obtain ⟨n, rest, er⟩ := r
    simp only [] at *
    have hne : (((er : Nat) : Int) != 0) = true := by simp; omega
    clear e
    go_enter Try.func54, Try.ntmps54
    go_wp2_with fail
    refine hrv.mono ?_
    rintro e w1 ⟨v2, rfl, hr2, hb1⟩
    go_wp2_with fail
    go_ret2
    exact ⟨_, _, rfl, Ows.nil _ _, hb1⟩
  · have her' : (M.tv l).2.2 = 0 := by simpa using her
    by_cases hsh : (M.tv l).2.1.length < (M.tv l).1
    · have e : M.tr l = ([], 12) := by unfold M.tr; rw [if_neg her, if_pos hsh]
      rw [e]
      clear e her
      generalize M.tv l = r at *
      obtain ⟨n, rest, er⟩ := r
      simp only [] at *
      subst her'
      go_enter Try.func54, Try.ntmps54
      go_wp2_with fail
      refine hrv.mono ?_
      rintro e w1 ⟨v2, rfl, hr2, hb1⟩
      obtain ⟨ao, c, rfl, g1, g2, g3, g4⟩ := hr2.rd
      clear g3 g4
      unfold maxLen at g2
      go_wp2_with fail
      go_ret2
      exact ⟨_, _, rfl, Ows.nil _ _, hb1⟩
    · have e := M.tr_rfA l her' (by omega)
      generalize M.tr l = T at *
      have HT : Hid _ := e
      clear e her
      generalize M.tv l = r at *
      obtain ⟨n, rest, er⟩ := r
      simp only [] at *
      subst her'
      go_enter Try.func54, Try.ntmps54
      go_wp2_with fail
      refine hrv.mono ?_
      rintro e w1 ⟨v2, rfl, hr2, hb1⟩
      have hr2' := hr2.rd
      obtain ⟨ao, c, rfl, g1, g2, g3, g4⟩ := hr2.rd
      clear g3 g4
      unfold maxLen at g2
      go_wp2_with fail
      go_loopw [5, 7, 8, 9, 10, 11] (fun b fields i _ _ _ wr => ∃ (k : Nat) (fs : List (List UInt8)) (l2 : List UInt8) (us : List Value), k ≤ n ∧ i = .int .i64 k ∧ fs.length = k ∧ Rd wr b l2 ∧ l2.length ≤ rest.length ∧ Hid (M.rfA (n - k) fs l2 = M.rfA n [] rest) ∧ Ows w.heap.size wr fields fs us ∧ Below w.heap.size w wr) (fun _ _ i _ _ _ _ => n - (intOf i).toNat)
      case atStart => exact ⟨0, [], rest, [], Nat.zero_le _, rfl, rfl, hr2', Nat.le_refl _, rfl, Ows.nil _ _, hb1⟩
      case round =>
        obtain ⟨k, fs, l2, us, hk, rfl, hfl, hrb, hl2, HE, hos, hb⟩ := hrel
        clear hr2' hr2 hb1 hrv
        have hB := hb.size
        by_cases hlt : k < n
        · have htv := tv_len l2
          have htl2 := tv_lt l2
          have HF : Hid (if (M.tv l2).2.2 ≠ 0 then T = ([], (M.tv l2).2.2) else if (M.tv l2).2.1.length < (M.tv l2).1 then T = ([], 10) else M.rfA (n - (k + 1)) (fs ++ [(M.tv l2).2.1.take (M.tv l2).1]) ((M.tv l2).2.1.drop (M.tv l2).1) = M.rfA n [] rest) := by
            have h1 := HE.out
            obtain ⟨q, hq⟩ : ∃ q, n - k = q + 1 := ⟨n - k - 1, by omega⟩
            have h3 := HT.out
            rw [hq, M.rfA] at h1
            show ite _ _ _
            by_cases h2 : (M.tv l2).2.2 ≠ 0
            · have ef : M.fd l2 = ([], [], (M.tv l2).2.2) := by unfold M.fd; rw [if_pos h2]
              rw [ef, if_pos h2] at h1
              rw [← h1] at h3
              rw [if_pos h2, h3, if_pos h2]
            · rw [if_neg h2]
              by_cases h4 : (M.tv l2).2.1.length < (M.tv l2).1
              · have ef : M.fd l2 = ([], [], 10) := by unfold M.fd M.part; rw [if_neg h2, if_pos h4]
                rw [ef, if_pos (by decide)] at h1
                rw [← h1] at h3
                rw [if_pos h4, h3]
                rfl
              · have ef : M.fd l2 = ((M.tv l2).2.1.take (M.tv l2).1, (M.tv l2).2.1.drop (M.tv l2).1, 0) := by unfold M.fd M.part; rw [if_neg h2, if_neg h4]
                rw [ef, if_neg (by simp)] at h1
                rw [if_neg h4, show n - (k + 1) = q by omega]
                exact h1
          have hfield := rtakeV_any hrb (by omega)
          have hlf : fs.length ≤ 1099511627776 := by omega
          obtain ⟨ab, cb, rfl, b1, b2, _, _⟩ := hrb
          unfold maxLen at b2
          generalize M.tv l2 = F at *
          obtain ⟨m, nx, fe⟩ := F
          simp only [] at *
          clear HE
          by_cases hfe : fe ≠ 0
          · have hT : T = ([], fe) := by
              have := HF.out; rw [if_pos hfe] at this; exact this
            subst hT
            have hne : (((fe : Nat) : Int) != 0) = true := by simp; omega
            clear HF HT
            go_wp2_with fail
            refine hfield.mono ?_
            rintro e w2 ⟨u1, rfl, hu1, hb2⟩
            go_wp2_with fail
            go_ret2
            exact ⟨_, rfl, ⟨_, Ows.nil _ _⟩, hb.trans (hb2.mono hB)⟩
          · obtain rfl : fe = 0 := by omega
            by_cases hm : nx.length < m
            · have hT : T = ([], 10) := by
                have := HF.out; rw [if_neg hfe, if_pos hm] at this; exact this
              subst hT
              clear HF HT hfe
              go_wp2_with fail
              refine hfield.mono ?_
              rintro e w2 ⟨u1, rfl, hu1, hb2⟩
              obtain ⟨a1, c1, rfl, d1, d2, _, _⟩ := hu1.rd
              unfold maxLen at d2
              go_wp2_with fail
              go_ret2
              exact ⟨_, rfl, ⟨_, Ows.nil _ _⟩, hb.trans (hb2.mono hB)⟩
            · have HG : Hid (M.rfA (n - (k + 1)) (fs ++ [nx.take m]) (nx.drop m) = M.rfA n [] rest) := by
                have := HF.out; rw [if_neg hfe, if_neg hm] at this; exact this
              clear HF hfe
              go_wp2_with fail
              refine hfield.mono ?_
              rintro e w2 ⟨u1, rfl, hu1, hb2⟩
              have hur := hu1.rd
              have hub : ∀ b, u1.ownBlock = some b → wr.heap.size ≤ b ∧ b < w2.heap.size := fun b e => World.ownsRow.lt hu1 b e
              obtain ⟨a1, c1, rfl, d1, d2, _, _⟩ := hu1.rd
              unfold maxLen at d2
              have hos2 := hos.below hb2 (Nat.le_refl _)
              have hB2 : w.heap.size ≤ w2.heap.size := Nat.le_trans hB hb2.size
              have hvl := fun b e => (World.ownsRow.lt hos.row b e).2
              have hpre := hur.pre m (by omega)
              have htk : (nx.take m).length ≤ 140737488355328 := by rw [List.length_take]; omega
              have HD : Hid _ := hur.post m (by omega) (if c1 = m then a1 else a1.map (fun a => a.add m)) ⟨fun h => by rw [if_pos h], fun h => by rw [if_neg h]⟩
              have HBK : Hid (∀ b, (Value.slice (if c1 = m then a1 else a1.map (fun a => a.add m)) (nx.length - m) (c1 - m)).ownBlock = some b → wr.heap.size ≤ b ∧ b < w2.heap.size) := by
                exact fun b e => hub b (piece_own e)
              generalize nx.take m = TK at *
              clear hub
              go_wp2_with fail
              refine (copy_any hpre htk).mono ?_
              rintro e w3 ⟨u3, rfl, ho3, hb3⟩
              have hos3 := hos2.below hb3 (Nat.le_refl _)
              have hB3 : w.heap.size ≤ w3.heap.size := Nat.le_trans hB2 hb3.size
              have hul := hos.len
              have h24 := Try.info23
              obtain ⟨a3, c3, e3⟩ := ho3.shape
              subst e3
              by_cases hc1 : c1 = m
              all_goals
                go_wp2_with (first | (at_builtin; (refine wpList_app1 rfl _ _ 53 rfl w.heap.size 23 (.slice none 0 0) 24 Try.underlying53 h24 rfl _ us.length us rfl (World.ownsRow.alloc hos3.row _) _ _ _ rfl (cell_new1 _ _ _) rfl ?hmx ?hmy ?hmz ?_; rotate_right; intro v4 w4 ho4 hg4 hw4)) | fail)
                case hmx => unfold maxLen; omega
                case hmy => omega
                case hmz => rw [World.size_alloc]; omega
                have hos4 : Ows w.heap.size w4 v4 (fs ++ [TK]) (us ++ [.slice a3 TK.length c3]) := hos2.snoc hb3 (Nat.le_refl _) ho3 hB2 ho4 hg4 hw4
                have hb4 : Below w.heap.size w w4 := ((hb.trans (hb2.mono hB)).trans (hb3.mono hB2)).trans (((Below.refl w.heap.size w3).alloc hB3 _).trans ((Below.refl w.heap.size _).grown hg4 (by rw [World.size_alloc]; omega) (fun k hk => (World.ownsRow.lt hos3.row k hk).1)))
                have hd4 := ((Rd.below HD.out hb3 (Nat.le_refl _)).alloc (.cells #[.slice a3 TK.length c3] 23)).grown hg4 (fun b e q => by have := HBK.out b e; have := hvl b q; omega)
                refine ⟨⟨k + 1, fs ++ [TK], nx.drop m, us ++ [.slice a3 TK.length c3], by omega, by go_num, by simp [hfl], ?_, by rw [List.length_drop]; omega, HG, hos4, hb4⟩, by simp [intOf]; omega⟩
                first | (rw [if_pos hc1] at hd4; exact Rd.cong hd4 rfl rfl (by omega)) | (rw [if_neg hc1] at hd4; exact hd4)
        · obtain rfl : k = n := by omega
          have hT : T = if l2.length ≠ 0 then ([], 12) else (fs, 0) := by
            have h1 := HT.out
            rw [← HE.out, Nat.sub_self] at h1
            simpa [M.rfA] using h1
          clear HT HE
          obtain ⟨ab, cb, rfl, b1, b2, _, _⟩ := hrb
          unfold maxLen at b2
          by_cases h0 : l2.length ≠ 0
          · rw [if_pos h0] at hT
            subst hT
            go_wp2_with fail
            go_ret2
            exact ⟨_, rfl, ⟨_, Ows.nil _ _⟩, hb⟩
          · rw [if_neg h0] at hT
            subst hT
            go_wp2_with fail
            go_ret2
            exact ⟨_, rfl, ⟨_, hos⟩, hb⟩
end Go.Proofs.Ytnenfflkldpbgaa

/- What TakeVarint answers of any bytes. -/
namespace Go.Proofs.Ytnenfflkldpbgaa
open Go.RowKit
set_option linter.unusedVariables false
set_option maxRecDepth 100000

theorem takeV_any {v : Value} {l : List UInt8} {w : World} (hr : Rd w v l) (hl : l.length ≤ 140737488355000) :
    Calls Try.prog 71 #[v] w fun e w' => ∃ v2, e = .returned (.tuple #[.int .u64 (M.tv l).1, v2, .int .i64 (M.tv l).2.2]) ∧ Ow w.heap.size w' v2 (M.tv l).2.1 ∧ Below w.heap.size w w' := by
  have hle := tv_len l
  go_enter Try.func71, Try.ntmps71
  go_wp2_with fail
  refine (rvar_any hr).mono ?_
  rintro e w1 ⟨v1, rfl, hr1, k1, rfl⟩
  go_wp2_with fail
  refine (clone_any (hr1.drewN k1) (by omega)).mono ?_
  rintro e w2 ⟨v2, rfl, ho2, hb2⟩
  go_wp2_with fail
  go_ret3
  exact ⟨_, rfl, ho2, Below.tr (Below.dN w k1) hb2⟩
end Go.Proofs.Ytnenfflkldpbgaa

/- Plain facts of what is read of a row. -/
namespace Go.Proofs.Ytnenfflkldpbgaa
open Go.RowKit
set_option linter.unusedVariables false
set_option maxRecDepth 100000

theorem nF_none (fs : List (List UInt8)) (k : Nat) (acc : List UInt64) (f : List UInt8) (hf : fs[k]? = some f) (h : M.nF fs = (M.nF (fs.drop k)).map (acc ++ ·)) (hn : ¬ ((M.tv f).2.2 = 0 ∧ (M.tv f).2.1 = [])) : M.nF fs = none := by
  obtain ⟨hk, e⟩ := List.getElem?_eq_some_iff.1 hf
  rw [h, List.drop_eq_getElem_cons hk, M.nF, e, if_neg hn]; rfl
theorem nF_step (fs : List (List UInt8)) (k : Nat) (acc : List UInt64) (f : List UInt8) (hf : fs[k]? = some f) (h : M.nF fs = (M.nF (fs.drop k)).map (acc ++ ·)) (hn : (M.tv f).2.2 = 0 ∧ (M.tv f).2.1 = []) : M.nF fs = (M.nF (fs.drop (k + 1))).map ((acc ++ [UInt64.ofNat (M.tv f).1]) ++ ·) := by
  obtain ⟨hk, e⟩ := List.getElem?_eq_some_iff.1 hf
  rw [h, List.drop_eq_getElem_cons hk, M.nF, e, if_pos hn]
  cases M.nF (fs.drop (k + 1)) <;> simp

theorem tr_len (l : List UInt8) : (M.tr l).1.length ≤ l.length := by
  unfold M.tr
  have h1 := tv_len l
  have h3 : ∀ (k : Nat) (m : List UInt8), (M.rf k m).1.length ≤ k := by
    intro k
    induction k with
    | zero => intro m; simp [M.rf]
    | succ k ih =>
      intro m
      rw [M.rf]
      split
      · simp
      · split
        · simp
        · split
          · simp
          · simp only [List.length_cons]; have := ih ((M.tv m).2.1.drop (M.tv m).1); omega
  split
  · simp
  · split
    · simp
    · split
      · simp
      · split
        · simp
        · have := h3 (M.tv l).1 (M.tv l).2.1; simp only []; omega

theorem rf_mem (k : Nat) : ∀ (m : List UInt8) (f : List UInt8), f ∈ (M.rf k m).1 → f.length ≤ m.length := by
  induction k with
  | zero => intro m f hf; simp [M.rf] at hf
  | succ k ih =>
    intro m f hf
    have h1 := tv_len m
    rw [M.rf] at hf
    split at hf
    · simp at hf
    · split at hf
      · simp at hf
      · split at hf
        · simp at hf
        · simp only [List.mem_cons] at hf
          rcases hf with rfl | hf
          · rw [List.length_take]; omega
          · have := ih _ f hf; rw [List.length_drop] at this; omega
theorem tr_mem (l f : List UInt8) (hf : f ∈ (M.tr l).1) : f.length ≤ l.length := by
  have h1 := tv_len l
  unfold M.tr at hf
  split at hf
  · simp at hf
  · split at hf
    · simp at hf
    · split at hf
      · simp at hf
      · split at hf
        · simp at hf
        · have := rf_mem _ _ f hf; omega
end Go.Proofs.Ytnenfflkldpbgaa

/- Plain mathematics of a region's bytes. -/
namespace Go.Proofs.Ytnenfflkldpbgaa
set_option linter.unusedVariables false
set_option maxRecDepth 100000

/-- The bytes of a peer. -/
def pnc (p : Pe) : List UInt8 := M.row [M.vi p.1.toNat, M.vi p.2.1.toNat, M.vi (if p.2.2 then 1 else 0)]
/-- A region: its number, its range, its epoch, its peers. -/
abbrev Rg := UInt64 × List UInt8 × List UInt8 × UInt64 × UInt64 × List Pe
def noRg : Rg := (0, [], [], 0, 0, [])
def flds (r : Rg) : List (List UInt8) := [M.vi r.1.toNat, r.2.1, r.2.2.1, M.vi r.2.2.2.1.toNat, M.vi r.2.2.2.2.1.toNat] ++ r.2.2.2.2.2.map pnc
def rnc (r : Rg) : List UInt8 := M.row (flds r)
/-- Three numbers read as a peer. -/
def p3 : List UInt64 → Option Pe
  | [x, y, z] => if y.toNat ≤ 2147483647 ∧ z.toNat ≤ 1 then some (x, (y.toNat : Int), decide (z.toNat = 1)) else none
  | _ => none
/-- Bytes read as a peer. -/
def pdc (b : List UInt8) : Option Pe := if (M.tr b).2 = 0 ∧ (M.tr b).1.length = 3 then (M.nF (M.tr b).1).bind p3 else none
def psdc : List (List UInt8) → Option (List Pe)
  | [] => some []
  | f :: r => (pdc f).bind fun p => (psdc r).map (p :: ·)
def rg3 (s e : List UInt8) (X : Option (List Pe)) : List UInt64 → Option Rg
  | [id, cf, vr] => X.map fun ps => (id, s, e, cf, vr, ps)
  | _ => none
def rd5 : List (List UInt8) → Option Rg
  | f0 :: s :: e :: f3 :: f4 :: r => (M.nF [f0, f3, f4]).bind (rg3 s e (psdc r))
  | _ => none
/-- Bytes read as a region. -/
def rdc (b : List UInt8) : Option Rg := if (M.tr b).2 = 0 then rd5 (M.tr b).1 else none

def okPe (p : Pe) : Prop := 0 ≤ p.2.1 ∧ p.2.1 < 2147483648
theorem nF_three (a b c : Nat) (ha : a < 18446744073709551616) (hb : b < 18446744073709551616) (hc : c < 18446744073709551616) : M.nF [M.vi a, M.vi b, M.vi c] = some [UInt64.ofNat a, UInt64.ofNat b, UInt64.ofNat c] := by
  have h := M.nF_back [UInt64.ofNat a, UInt64.ofNat b, UInt64.ofNat c]
  simp only [M.vis, List.map_cons, List.map_nil, UInt64.toNat_ofNat', Nat.mod_eq_of_lt ha, Nat.mod_eq_of_lt hb, Nat.mod_eq_of_lt hc] at h
  exact h
theorem vi10 (n : Nat) : (M.vi n).length ≤ 10 := M.viF_length 9 _
theorem pnc_len (p : Pe) : (pnc p).length ≤ 70 := by
  have := M.row_len [M.vi p.1.toNat, M.vi p.2.1.toNat, M.vi (if p.2.2 then 1 else 0)] 10 (fun f hf => by
    simp only [List.mem_cons, List.not_mem_nil, or_false] at hf
    rcases hf with rfl | rfl | rfl <;> exact vi10 _)
  unfold pnc
  simpa using this
theorem pnc_tr (p : Pe) : M.tr (pnc p) = ([M.vi p.1.toNat, M.vi p.2.1.toNat, M.vi (if p.2.2 then 1 else 0)], 0) := M.tr_row _ (by simp) (fun f hf => by
    simp only [List.mem_cons, List.not_mem_nil, or_false] at hf
    rcases hf with rfl | rfl | rfl
    · have := vi10 p.1.toNat; omega
    · have := vi10 p.2.1.toNat; omega
    · have := vi10 (if p.2.2 then 1 else 0); omega)
theorem pdc_back (p : Pe) (h : okPe p) : pdc (pnc p) = some p := by
  unfold pdc
  rw [pnc_tr, if_pos ⟨rfl, rfl⟩, nF_three _ _ _ p.1.toNat_lt (by have := h.1; have := h.2; omega) (by split <;> omega)]
  obtain ⟨a, b, c⟩ := p
  obtain ⟨h1, h2⟩ := h
  simp only at h1 h2
  have e1 : (UInt64.ofNat b.toNat).toNat = b.toNat := by rw [UInt64.toNat_ofNat']; omega
  have e2 : (UInt64.ofNat (if c then 1 else 0)).toNat = if c then 1 else 0 := by cases c <;> rfl
  simp only [Option.bind_some, p3, UInt64.ofNat_toNat]
  rw [e1, e2, if_pos ⟨by omega, by split <;> omega⟩]
  congr 2
  cases c <;> simp <;> omega
theorem psdc_back (ps : List Pe) (h : ∀ p ∈ ps, okPe p) : psdc (ps.map pnc) = some ps := by
  induction ps with
  | nil => rfl
  | cons p r ih =>
    rw [List.map_cons, psdc, pdc_back p (h p (List.mem_cons_self ..)), ih (fun q hq => h q (List.mem_cons_of_mem _ hq))]
    rfl
theorem flds_len (r : Rg) : (flds r).length = r.2.2.2.2.2.length + 5 := by simp [flds]
theorem flds_mem (r : Rg) (m : Nat) (h1 : r.2.1.length ≤ m) (h2 : r.2.2.1.length ≤ m) (hm : 70 ≤ m) : ∀ f ∈ flds r, f.length ≤ m := by
  intro f hf
  simp only [flds, List.mem_append, List.mem_cons, List.not_mem_nil, or_false, List.mem_map] at hf
  rcases hf with (rfl | rfl | rfl | rfl | rfl) | ⟨p, _, rfl⟩
  · have := vi10 r.1.toNat; omega
  · exact h1
  · exact h2
  · have := vi10 r.2.2.2.1.toNat; omega
  · have := vi10 r.2.2.2.2.1.toNat; omega
  · have := pnc_len p; omega
theorem rnc_tr (r : Rg) (h1 : r.2.1.length < 1099511627776) (h2 : r.2.2.1.length < 1099511627776) (h3 : r.2.2.2.2.2.length < 1099511627776) : M.tr (rnc r) = (flds r, 0) :=
  M.tr_row _ (by rw [flds_len]; omega) (fun f hf => by have := flds_mem r 1099511627776 (by omega) (by omega) (by omega) f hf; omega)
theorem rdc_back (r : Rg) (h1 : r.2.1.length < 1099511627776) (h2 : r.2.2.1.length < 1099511627776) (h3 : r.2.2.2.2.2.length < 1099511627776) (hp : ∀ p ∈ r.2.2.2.2.2, okPe p) : rdc (rnc r) = some r := by
  unfold rdc
  rw [rnc_tr r h1 h2 h3, if_pos rfl]
  obtain ⟨id, s, e, cf, vr, ps⟩ := r
  simp only [flds, List.cons_append, List.nil_append, rd5]
  rw [nF_three _ _ _ id.toNat_lt cf.toNat_lt vr.toNat_lt, psdc_back ps hp]
  simp only [Option.bind_some, rg3, Option.map_some, UInt64.ofNat_toNat]
theorem rnc_len (r : Rg) (m : Nat) (h1 : r.2.1.length ≤ m) (h2 : r.2.2.1.length ≤ m) (hm : 70 ≤ m) : (rnc r).length ≤ (r.2.2.2.2.2.length + 5) * (m + 10) + 10 := by
  have := M.row_len (flds r) m (flds_mem r m h1 h2 hm)
  rw [flds_len] at this
  exact this
theorem rowB_len2 (ps : List Pe) : (M.rowB (ps.map pnc)).length ≤ ps.length * 80 := by
  have := M.rowB_len (ps.map pnc) 70 (fun f hf => by obtain ⟨p, _, rfl⟩ := List.mem_map.1 hf; exact pnc_len p)
  simpa using this
theorem rnc_len2 (r : Rg) : (rnc r).length ≤ r.2.1.length + r.2.2.1.length + 80 * r.2.2.2.2.2.length + 100 := by
  have h1 := rowB_len2 r.2.2.2.2.2
  have h2 : (M.rowB (flds r)).length ≤ r.2.1.length + r.2.2.1.length + 80 * r.2.2.2.2.2.length + 90 := by
    have v1 := vi10 r.1.toNat
    have v2 := vi10 (M.vi r.1.toNat).length
    have v3 := vi10 r.2.1.length
    have v4 := vi10 r.2.2.1.length
    have v5 := vi10 r.2.2.2.1.toNat
    have v6 := vi10 (M.vi r.2.2.2.1.toNat).length
    have v7 := vi10 r.2.2.2.2.1.toNat
    have v8 := vi10 (M.vi r.2.2.2.2.1.toNat).length
    rw [flds, M.rowB_app, List.length_append]
    simp only [M.rowB, List.length_append, List.length_nil]
    omega
  have v0 := vi10 (flds r).length
  unfold rnc M.row
  rw [List.length_append]
  omega
theorem rdc_more (r : Rg) (x : UInt8) (h1 : r.2.1.length < 1099511627776) (h2 : r.2.2.1.length < 1099511627776) (h3 : r.2.2.2.2.2.length < 1099511627776) : rdc (rnc r ++ [x]) = none := by
  have e : M.tr (rnc r ++ [x]) = ([], 12) := M.tr_more _ _ (by simp) (by rw [flds_len]; omega) (fun f hf => by have := flds_mem r 1099511627776 (by omega) (by omega) (by omega) f hf; omega)
  unfold rdc
  rw [e, if_neg (by decide)]
theorem rnc_pos (r : Rg) : 1 ≤ (rnc r).length := by
  have := M.vi_pos (flds r).length
  unfold rnc M.row
  rw [List.length_append]
  omega
theorem rdc_less (r : Rg) (h1 : r.2.1.length < 1099511627776) (h2 : r.2.2.1.length < 1099511627776) (h3 : r.2.2.2.2.2.length < 1099511627776) : rdc ((rnc r).take ((rnc r).length - 1)) = none := by
  have hl := rnc_len2 r
  have hp := rnc_pos r
  unfold rdc
  by_cases h0 : (M.tr ((rnc r).take ((rnc r).length - 1))).2 = 0
  · exfalso
    have hf := M.tr_form _ h0
    generalize (M.tr ((rnc r).take ((rnc r).length - 1))).1 = fs at hf
    have hlen : (M.row fs).length < 1099511627776000 := by rw [hf, List.length_take]; omega
    have hrow : (M.vi fs.length).length + (M.rowB fs).length = (M.row fs).length := by simp [M.row]
    have hfl := M.rowB_pos fs
    have hsp : rnc r = M.row fs ++ (rnc r).drop ((rnc r).length - 1) := by rw [hf, List.take_append_drop]
    have hm := M.tr_more fs ((rnc r).drop ((rnc r).length - 1)) (by rw [List.length_drop]; omega) (by omega) (fun f hf => by have := M.mem_rowB fs f hf; omega)
    rw [← hsp, rnc_tr r h1 h2 h3] at hm
    have := congrArg Prod.snd hm
    simp at this
  · rw [if_neg h0]
theorem rnc_inj (a b : Rg) (a1 : a.2.1.length < 1099511627776) (a2 : a.2.2.1.length < 1099511627776) (a3 : a.2.2.2.2.2.length < 1099511627776) (ap : ∀ p ∈ a.2.2.2.2.2, okPe p) (b1 : b.2.1.length < 1099511627776) (b2 : b.2.2.1.length < 1099511627776) (b3 : b.2.2.2.2.2.length < 1099511627776) (bp : ∀ p ∈ b.2.2.2.2.2, okPe p) : rnc a = rnc b ↔ a = b := by
  refine ⟨fun e => ?_, fun e => by rw [e]⟩
  have h1 := rdc_back a a1 a2 a3 ap
  rw [e, rdc_back b b1 b2 b3 bp] at h1
  exact (Option.some.inj h1).symm
theorem rnc_dec {id cf vr id' cf' vr' : UInt64} {s e t f : List UInt8} {ps qs : List Pe} (h : rnc (id, s, e, cf, vr, ps) = rnc (id', t, f, cf', vr', qs) ↔ ((id, s, e, cf, vr, ps) : Rg) = (id', t, f, cf', vr', qs)) : decide (rnc (id, s, e, cf, vr, ps) = rnc (id', t, f, cf', vr', qs)) = decide (id = id' ∧ s = t ∧ e = f ∧ cf = cf' ∧ vr = vr' ∧ ps = qs) := by
  rw [decide_eq_decide, h]
  simp only [Prod.mk.injEq]
end Go.Proofs.Ytnenfflkldpbgaa

/- encodePeer: the bytes of a peer; a list of texts of which some are not the call's own. -/
namespace Go.Proofs.Ytnenfflkldpbgaa
open Go.RowKit
set_option linter.unusedVariables false
set_option maxRecDepth 100000

/-- A slice of texts whose row is the call's own; the texts lie anywhere else. -/
structure OwF (B : Nat) (w : World) (v : Value) (ls : List (List UInt8)) (us : List Value) : Prop where
  row : w.ownsRow B 23 1 v us.length us
  len : us.length = ls.length
  el : ∀ (i : Nat) (u : Value) (l : List UInt8), us[i]? = some u → ls[i]? = some l → Rd w u l
  off : ∀ (i : Nat) (u : Value) (l : List UInt8), us[i]? = some u → ls[i]? = some l → l ≠ [] → ∀ b, u.ownBlock = some b → v.ownBlock ≠ some b
theorem OwF.below {B C : Nat} {w w' : World} {v : Value} {ls : List (List UInt8)} {us : List Value} (h : OwF B w v ls us) (hb : Below C w w') (hC : w.heap.size ≤ C) : OwF B w' v ls us :=
  ⟨ownsRow_bel h.row hb hC, h.len, fun i u l e1 e2 => (h.el i u l e1 e2).below hb hC, h.off⟩
theorem rd_nil_any {w w' : World} {v : Value} (h : Rd w v []) : Rd w' v [] := by
  obtain ⟨ao, c, rfl, h1, h2, h3, h4⟩ := h
  exact ⟨ao, c, rfl, h1, h2, h3, fun i hi => absurd hi (by simp)⟩
theorem rd_lt {w : World} {v : Value} {l : List UInt8} (h : Rd w v l) (hl : l ≠ []) (b : Nat) (e : v.ownBlock = some b) : b < w.heap.size := by
  obtain ⟨ao, c, rfl, h1, h2, h3, h4⟩ := h
  obtain ⟨a, rfl, hc⟩ := h4 0 (by cases l with | nil => exact absurd rfl hl | cons => simp)
  have := World.block_lt_of_cell? w _ hc
  rw [add_block] at this
  have e2 : a.block = b := by simpa [Value.ownBlock] using e
  omega
theorem OwF.snoc {B : Nat} {w w' : World} {v v' u : Value} {ls : List (List UInt8)} {us : List Value} {l : List UInt8} (h : OwF B w v ls us) (hu : Rd w u l) (hun : l ≠ [] → ∀ b, u.ownBlock = some b → v.ownBlock ≠ some b)
    (hrow : w'.ownsRow B 23 1 v' (us.length + 1) (us ++ [u])) (hg : w.grownBy w' v.ownBlock) (hv : v'.ownBlock = v.ownBlock ∨ v'.ownBlock = some w.heap.size) : OwF B w' v' (ls ++ [l]) (us ++ [u]) := by
  have hlen := h.len
  have kp : ∀ (x : Value) (m : List UInt8), Rd w x m → (m ≠ [] → ∀ b, x.ownBlock = some b → v.ownBlock ≠ some b) → Rd w' x m ∧ (m ≠ [] → ∀ b, x.ownBlock = some b → v'.ownBlock ≠ some b) := by
    intro x m hx hn
    by_cases hm : m = []
    · subst hm
      exact ⟨rd_nil_any hx, fun q => absurd rfl q⟩
    · refine ⟨hx.grown hg (fun b e q => hn hm b e q), fun _ b e q => ?_⟩
      rcases hv with hv | hv
      · exact hn hm b e (hv ▸ q)
      · have h1 := rd_lt hx hm b e
        rw [hv] at q
        have := Option.some.inj q
        omega
  have key : ∀ (i : Nat) (x : Value) (m : List UInt8), (us ++ [u])[i]? = some x → (ls ++ [l])[i]? = some m → Rd w x m ∧ (m ≠ [] → ∀ b, x.ownBlock = some b → v.ownBlock ≠ some b) := by
    intro i x m e1 e2
    by_cases hi : i < us.length
    · rw [List.getElem?_append_left hi] at e1
      rw [List.getElem?_append_left (by omega)] at e2
      exact ⟨h.el i x m e1 e2, fun q => h.off i x m e1 e2 q⟩
    · rw [List.getElem?_append_right (by omega)] at e1
      rw [List.getElem?_append_right (by omega), ← hlen] at e2
      rw [List.getElem?_singleton] at e1 e2
      split at e1
      · rename_i h0
        rw [if_pos h0] at e2
        obtain rfl := Option.some.inj e1
        obtain rfl := Option.some.inj e2
        exact ⟨hu, hun⟩
      · cases e1
  refine ⟨by simpa using hrow, by simp [hlen], fun i x m e1 e2 => ?_, fun i x m e1 e2 => ?_⟩
  · obtain ⟨q1, q2⟩ := key i x m e1 e2
    exact (kp x m q1 q2).1
  · obtain ⟨q1, q2⟩ := key i x m e1 e2
    exact (kp x m q1 q2).2
theorem OwF.rds {B : Nat} {w : World} {v : Value} {ls : List (List UInt8)} {us : List Value} (h : OwF B w v ls us) : Rds w v ls := by
  have hlen := h.len
  have hrow := h.row
  rcases hrow.2 with ⟨hv, h0⟩ | ⟨g, cap, cur, hv, hg, hh, hn, hcap, hsz, htake⟩
  · have : ls = [] := List.length_eq_zero_iff.1 (by omega)
    subst this
    exact ⟨none, 0, hv, by simp, by simp, fun i hi => by simp at hi⟩
  · refine ⟨some ⟨g, 0, none⟩, cap, by rw [hv, hlen], by omega, hcap, fun i hi => ?_⟩
    have hiu : i < us.length := by omega
    refine ⟨⟨g, 0, none⟩, us[i], rfl, ?_, h.el i us[i] ls[i] (by simp [hiu]) (by simp [hi])⟩
    rw [Addr.add_lit, Nat.zero_add]
    subst hv
    rw [hrow.cellAt i (by omega)]
    simp [hiu]

theorem rds3 {w : World} {x y z : Value} {a b c : List UInt8} (h1 : Rd w x a) (h2 : Rd w y b) (h3 : Rd w z c) (t : TypeId) (g : Nat) (hg : g = w.heap.size) : Rds (w.alloc (.cells #[x, y, z] t)) (.slice (some ⟨g, 0, none⟩) 3 3) [a, b, c] := by
  subst hg
  have hb := u_al w (.cells #[x, y, z] t)
  have hc : ∀ j u, #[x, y, z][j]? = some u → (w.alloc (.cells #[x, y, z] t)).cell? ⟨w.heap.size, j, none⟩ = some u := fun j u e => by
    rw [World.cell?_alloc_at _ _ _ _ rfl]; exact e
  refine ⟨some ⟨w.heap.size, 0, none⟩, 3, rfl, by simp, by simp [maxLen], fun i hi => ?_⟩
  match i, hi with
  | 0, _ => exact ⟨_, x, rfl, hc 0 x rfl, h1.below hb (Nat.le_refl _)⟩
  | 1, _ => exact ⟨_, y, rfl, hc 1 y rfl, h2.below hb (Nat.le_refl _)⟩
  | 2, _ => exact ⟨_, z, rfl, hc 2 z rfl, h3.below hb (Nat.le_refl _)⟩
/-- The learner's number. -/
def lrn (b : Bool) : Nat := if b then 1 else 0
theorem pnc_at (p0 : UInt64) (m : Nat) (b : Bool) : pnc (p0, (m : Int), b) = M.row [M.vi p0.toNat, M.vi m, M.vi (lrn b)] := by
  unfold pnc lrn
  rw [Int.toNat_natCast]

set_option maxHeartbeats 2000000 in
theorem encp_any {p0 : UInt64} {m : Nat} {p2 : Bool} {w : World} (hm : m < 2147483648) :
    Calls Try.prog 40 #[.agg #[.int .u64 (p0.toNat : Int), .int .i64 (m : Int), .bool p2]] w fun e w' => ∃ v', e = .returned v' ∧ Ow w.heap.size w' v' (pnc (p0, (m : Int), p2)) ∧ Below w.heap.size w w' := by
  have hnl := pnc_len (p0, (m : Int), p2)
  rw [pnc_at] at hnl ⊢
  have hw : IntKind.u64.wrap (m : Int) = (m : Int) := by rw [IntKind.wrap_u64]; omega
  have hB0 : Below w.heap.size w (w.alloc (.cells #[.int .u64 (p0.toNat : Int), .int .i64 (m : Int), .bool p2] 31)) := u_al w _
  have hz0 : (w.alloc (.cells #[.int .u64 (p0.toNat : Int), .int .i64 (m : Int), .bool p2] 31)).heap.size = w.heap.size + 1 := by simp
  have kc : ∀ W, Below (w.heap.size + 1) (w.alloc (.cells #[.int .u64 (p0.toNat : Int), .int .i64 (m : Int), .bool p2] 31)) W → W.cell? ⟨w.heap.size, 0, none⟩ = some (.int .u64 (p0.toNat : Int)) ∧ W.cell? ⟨w.heap.size, 1, none⟩ = some (.int .i64 (m : Int)) ∧ W.cell? ⟨w.heap.size, 2, none⟩ = some (.bool p2) := fun W hW => box3 hW rfl
  have n1 : ∀ W, Calls Try.prog 39 #[.int .u64 (p0.toNat : Int)] W fun e w' => ∃ v', e = .returned v' ∧ Ow W.heap.size w' v' (M.vi p0.toNat) ∧ Below W.heap.size W w' := fun W => varint_any p0.toNat W p0.toNat_lt
  have n2 : ∀ W, Calls Try.prog 39 #[.int .u64 (m : Int)] W fun e w' => ∃ v', e = .returned v' ∧ Ow W.heap.size w' v' (M.vi m) ∧ Below W.heap.size W w' := fun W => varint_any m W (by omega)
  have n3 : ∀ W, Calls Try.prog 39 #[.int .u64 (lrn p2 : Int)] W fun e w' => ∃ v', e = .returned v' ∧ Ow W.heap.size w' v' (M.vi (lrn p2)) ∧ Below W.heap.size W w' := fun W => varint_any (lrn p2) W (by unfold lrn; split <;> omega)
  have fin : ∀ (W0 w1 w2 w3 : World) (p q r : Value), Below w.heap.size w W0 → Below W0.heap.size W0 w1 → Below w1.heap.size w1 w2 → Below w2.heap.size w2 w3 → Ow W0.heap.size w1 p (M.vi p0.toNat) → Ow w1.heap.size w2 q (M.vi m) → Ow w2.heap.size w3 r (M.vi (lrn p2)) →
      Calls Try.prog 41 #[.slice (some ⟨w3.heap.size, 0, none⟩) 3 3] (w3.alloc (.cells #[p, q, r] 23)) fun e w' => ∃ v', e = .returned v' ∧ Ow w.heap.size w' v' (M.row [M.vi p0.toNat, M.vi m, M.vi (lrn p2)]) ∧ Below w.heap.size w w' ∧ Below W0.heap.size W0 w' := fun W0 w1 w2 w3 p q r hB0 g1 g2 g3 o1 o2 o3 => by
    have b3 : Below w.heap.size w w3 := (hB0.trans (g1.mono hB0.size)).trans ((g2.mono (Nat.le_trans hB0.size g1.size)).trans (g3.mono (Nat.le_trans (Nat.le_trans hB0.size g1.size) g2.size)))
    refine (row_any (rds3 (o1.below (g2.trans (g3.mono g2.size)) (Nat.le_refl _)).rd (o2.below g3 (Nat.le_refl _)).rd o3.rd 23 _ rfl) (by omega) (by simp)).mono ?_
    rintro e w' ⟨v', rfl, ho, hb⟩
    have s3 := b3.size
    have b0 : Below W0.heap.size W0 w3 := g1.trans ((g2.mono g1.size).trans (g3.mono (Nat.le_trans g1.size g2.size)))
    have s0 := b0.size
    exact ⟨v', rfl, ho.mono (by simp; omega), b3.trans (((Below.refl w.heap.size w3).alloc s3 _).trans (hb.mono (by simp; omega))), b0.trans (((Below.refl W0.heap.size w3).alloc s0 _).trans (hb.mono (by simp; omega)))⟩
  have HF : Hid _ := fin
  clear fin
  generalize M.vi m = vm at *
  generalize M.vi p0.toNat = vp at *
  generalize hlr : lrn p2 = ln at *
  generalize M.vi ln = vl at *
  have HLR : Hid _ := hlr
  clear hlr
  have main : ∀ W0 : World, W0 = w.alloc (.cells #[.int .u64 (p0.toNat : Int), .int .i64 (m : Int), .bool p2] 31) → True := fun _ _ => trivial
  clear main
  go_enter Try.func40, Try.ntmps40
  obtain ⟨c0, c1, c2⟩ := kc _ (Below.refl _ _)
  cases p2 with
  | true =>
    obtain rfl : ln = 1 := HLR.out.symm
    go_wp2_with fail
    generalize (w.alloc (.cells #[.int .u64 (p0.toNat : Int), .int .i64 (m : Int), .bool true] 31)) = W0 at *
    rw [← hz0] at kc
    go_region_held3 (fun w' => w'.cell? ⟨w.heap.size, 0, none⟩ = some (.int .u64 (p0.toNat : Int)) ∧ w'.cell? ⟨w.heap.size, 1, none⟩ = some (.int .i64 (m : Int))) (go_keep) (first
      | (go_at_call 41; refine (HF.out W0 w1 w2 w3 _ _ _ hB0 hb1 hb2 hb3 ho1 ho2 ho3).mono ?_; rintro e w4 ⟨v4, rfl, ho4, hb4, hz4⟩; obtain ⟨q0, q1, q2⟩ := kc w4 hz4)
      | (go_at_call 39; refine (n3 w2).mono ?_; rintro e w3 ⟨v3, rfl, ho3, hb3⟩; obtain ⟨a3, d3, rfl⟩ := ho3.shape; obtain ⟨u0, u1, u2⟩ := kc w3 (hB2.trans (hb3.mono hB2.size)))
      | (go_at_call 39; refine (n2 w1).mono ?_; rintro e w2 ⟨v2, rfl, ho2, hb2⟩; obtain ⟨a2, d2, rfl⟩ := ho2.shape; have hB2 := hb1.trans (hb2.mono hb1.size); obtain ⟨t0, t1, t2⟩ := kc w2 hB2)
      | (go_at_call 39; refine (n1 W0.drew).mono ?_; rintro e w1 ⟨v1, rfl, ho1, hb1'⟩; have hb1 : Below W0.heap.size W0 w1 := (u_drew W0).trans hb1'; obtain ⟨a1, d1, rfl⟩ := ho1.shape; obtain ⟨s0, s1, s2⟩ := kc w1 hb1)
      | fail)
    go_wp2_with fail
    go_ret
    exact ⟨_, rfl, ho4, hb4⟩
  | false =>
    obtain rfl : ln = 0 := HLR.out.symm
    go_wp2_with fail
    generalize (w.alloc (.cells #[.int .u64 (p0.toNat : Int), .int .i64 (m : Int), .bool false] 31)) = W0 at *
    rw [← hz0] at kc
    go_region_held3 (fun w' => w'.cell? ⟨w.heap.size, 0, none⟩ = some (.int .u64 (p0.toNat : Int)) ∧ w'.cell? ⟨w.heap.size, 1, none⟩ = some (.int .i64 (m : Int))) (go_keep) (first
      | (go_at_call 41; refine (HF.out W0 w1 w2 w3 _ _ _ hB0 hb1 hb2 hb3 ho1 ho2 ho3).mono ?_; rintro e w4 ⟨v4, rfl, ho4, hb4, hz4⟩; obtain ⟨q0, q1, q2⟩ := kc w4 hz4)
      | (go_at_call 39; refine (n3 w2).mono ?_; rintro e w3 ⟨v3, rfl, ho3, hb3⟩; obtain ⟨a3, d3, rfl⟩ := ho3.shape; obtain ⟨u0, u1, u2⟩ := kc w3 (hB2.trans (hb3.mono hB2.size)))
      | (go_at_call 39; refine (n2 w1).mono ?_; rintro e w2 ⟨v2, rfl, ho2, hb2⟩; obtain ⟨a2, d2, rfl⟩ := ho2.shape; have hB2 := hb1.trans (hb2.mono hb1.size); obtain ⟨t0, t1, t2⟩ := kc w2 hB2)
      | (go_at_call 39; refine (n1 W0.drew).mono ?_; rintro e w1 ⟨v1, rfl, ho1, hb1'⟩; have hb1 : Below W0.heap.size W0 w1 := (u_drew W0).trans hb1'; obtain ⟨a1, d1, rfl⟩ := ho1.shape; obtain ⟨s0, s1, s2⟩ := kc w1 hb1)
      | fail)
    go_wp2_with fail
    go_ret
    exact ⟨_, rfl, ho4, hb4⟩
end Go.Proofs.Ytnenfflkldpbgaa

/- takeNumbers: a number of each field. -/
namespace Go.Proofs.Ytnenfflkldpbgaa
open Go.RowKit
set_option linter.unusedVariables false
set_option maxRecDepth 100000

set_option maxHeartbeats 2000000 in
theorem taken_any {v : Value} {fs : List (List UInt8)} {w : World} (hr : Rds w v fs) (hm : ∀ f ∈ fs, f.length ≤ 1099511627776) (hn : fs.length ≤ 1099511627776) :
    Calls Try.prog 43 #[v] w fun e w' => ∃ v' : Value, e = .returned (.tuple #[v', .bool (M.nF fs).isSome]) ∧ Ou w.heap.size w' v' ((M.nF fs).getD []) ∧ Below w.heap.size w w' := by
  have hrds := hr
  obtain ⟨ao, c, rfl, h1, h2, h4⟩ := hr
  unfold maxLen at h2
  generalize hR : M.nF fs = R
  have HR : Hid _ := hR
  clear hR
  go_enter Try.func43, Try.ntmps43
  go_wp2_with fail
  go_loopw [4, 6, 7, 8, 9, 12] (fun lv _ _ _ _ i wr => ∃ (k : Nat) (acc : List UInt64), k ≤ fs.length ∧ i = .int .i64 k ∧ acc.length = k ∧ Hid (R = (M.nF (fs.drop k)).map (acc ++ ·)) ∧ Ou w.heap.size wr lv acc ∧ Below w.heap.size w wr) (fun _ _ _ _ _ i _ => fs.length - (intOf i).toNat)
  case atStart => exact ⟨0, [], Nat.zero_le _, rfl, rfl, by show R = _; rw [← HR.out]; simp, Ou.nil _ _, Below.refl _ _⟩
  case round =>
    obtain ⟨k, acc, hk, rfl, hal, HA, hou, hb⟩ := hrel
    have hB := hb.size
    have hrd := hrds.below hb (Nat.le_refl _)
    clear hrds h4
    by_cases hlt : k < fs.length
    · have HRD : Hid _ := hrd
      obtain ⟨ao', c', e0, _, _, h4⟩ := hrd
      simp only [Value.slice.injEq, true_and] at e0
      obtain ⟨rfl, rfl⟩ := e0
      obtain ⟨a, u, rfl, hc, hru⟩ := h4 k hlt
      clear h4
      have hf : fs[k]? = some fs[k] := List.getElem?_eq_getElem hlt
      have hfl : fs[k].length ≤ 1099511627776 := hm fs[k] (List.getElem_mem hlt)
      have HN : Hid (¬ ((M.tv fs[k]).2.2 = 0 ∧ (M.tv fs[k]).2.1 = []) → R = none) := fun hn => by rw [← HR.out]; exact nF_none fs k acc _ hf (HR.out.trans HA.out) hn
      have HS : Hid ((M.tv fs[k]).2.2 = 0 ∧ (M.tv fs[k]).2.1 = [] → R = (M.nF (fs.drop (k + 1))).map ((acc ++ [UInt64.ofNat (M.tv fs[k]).1]) ++ ·)) := fun hn => by rw [← HR.out]; exact nF_step fs k acc _ hf (HR.out.trans HA.out) hn
      have htv := takeV_any hru (by omega)
      have htl := tv_lt fs[k]
      obtain ⟨au, cu, rfl, u1, u2, hx1, hx2⟩ := hru
      clear hx1 hx2
      generalize M.tv fs[k] = F at *
      generalize fs[k].length = fl at *
      clear hf HA hm
      obtain ⟨n, rest, fe⟩ := F
      simp only [] at *
      by_cases hfe : fe ≠ 0
      · have hne : (((fe : Nat) : Int) != 0) = true := by simp; omega
        obtain rfl := HN.out (fun q => hfe q.1)
        clear HN HS
        go_wp2_with fail
        refine htv.mono ?_
        rintro e w2 ⟨u2, rfl, hu2, hb2⟩
        go_wp2_with fail
        go_ret2
        exact ⟨_, rfl, Ou.nil _ _, hb.trans (hb2.mono hB)⟩
      · obtain rfl : fe = 0 := by omega
        by_cases hre : rest = []
        · subst hre
          have HS2 : Hid _ := HS.out ⟨rfl, rfl⟩
          clear HN HS
          go_wp2_with fail
          refine htv.mono ?_
          rintro e w2 ⟨u2, rfl, hu2, hb2⟩
          obtain ⟨a2, c2, rfl⟩ := hu2.shape
          have hou2 := hou.below hb2 (Nat.le_refl _)
          have hb3 := hb.trans (hb2.mono hB)
          have hB3 := hb3.size
          go_wp2_with (first | (at_builtin; refine wpList_appU rfl _ _ rfl w.heap.size _ acc rfl (hou2.alloc _) _ [UInt64.ofNat n] rfl (ru_one _ _ _ ?e1 _ _ rfl) ?e2 ?e3 ?_; rotate_right; intro v4 w4 ho4 hg4 hw4) | fail)
          case e1 => simp; omega
          case e2 => simp; omega
          case e3 => simp; omega
          have hbz : Below w.heap.size w w4 := hb3.trans (((Below.refl w.heap.size w2).alloc hB3 _).trans ((Below.refl w.heap.size _).grown hg4 (by simp; omega) (fun k hk => (hou2.lt k hk).1)))
          refine ⟨⟨k + 1, acc ++ [UInt64.ofNat n], by omega, by go_num, by simp [hal], HS2, ho4, hbz⟩, by simp [intOf]; omega⟩
        · obtain rfl := HN.out (fun q => hre q.2)
          have hrl : 0 < rest.length := by cases rest with | nil => exact absurd rfl hre | cons => simp
          clear HN HS
          go_wp2_with fail
          refine htv.mono ?_
          rintro e w2 ⟨u2, rfl, hu2, hb2⟩
          obtain ⟨a2, c2, rfl⟩ := hu2.shape
          go_wp2_with fail
          go_ret2
          exact ⟨_, rfl, Ou.nil _ _, hb.trans (hb2.mono hB)⟩
    · obtain rfl : k = fs.length := by omega
      have hR2 : R = some acc := by rw [HA.out]; simp [M.nF]
      subst hR2
      go_wp2_with fail
      go_ret2
      exact ⟨_, rfl, hou, hb⟩
end Go.Proofs.Ytnenfflkldpbgaa

/- decodePeer: any bytes read as a peer, or refused. -/
namespace Go.Proofs.Ytnenfflkldpbgaa
open Go.RowKit
set_option linter.unusedVariables false
set_option maxRecDepth 100000

theorem nF_len (fs : List (List UInt8)) (ns : List UInt64) (h : M.nF fs = some ns) : ns.length = fs.length := by
  induction fs generalizing ns with
  | nil => simp [M.nF] at h; subst h; rfl
  | cons f r ih =>
    rw [M.nF] at h
    split at h
    · cases hr : M.nF r with
      | none => rw [hr] at h; simp at h
      | some m => rw [hr] at h; simp at h; subst h; simp [ih m hr]
    · simp at h
theorem wrap_small (n : Nat) (h : n ≤ 2147483647) : IntKind.i64.wrap (n : Int) = (n : Int) := by
  have : (n : Int) ≤ 2147483647 := by omega
  rw [IntKind.wrap_i64]; omega

set_option maxHeartbeats 4000000 in
theorem decp_any {v : Value} {l : List UInt8} {w : World} (hr : Rd w v l) (hl : l.length ≤ 1099511627776) :
    Calls Try.prog 44 #[v] w fun e w' => e = .returned (.tuple #[peV ((pdc l).getD noPe), .bool (pdc l).isSome]) ∧ Below w.heap.size w w' := by
  have htr := takerow_any (hr.alloc (.cells #[.int .u64 0, .int .i64 0, .bool false] 31)) hl
  have hb0 : Below w.heap.size w (w.alloc (.cells #[.int .u64 0, .int .i64 0, .bool false] 31)) := (Below.refl w.heap.size w).alloc (Nat.le_refl _) _
  have hk0 : (w.alloc (.cells #[.int .u64 0, .int .i64 0, .bool false] 31)).heap[w.heap.size]? = some (.cells #[.int .u64 0, .int .i64 0, .bool false] 31 (0, 0)) := heap_alloc_new w _
  have hlen := tr_len l
  have hmem := tr_mem l
  unfold pdc
  generalize M.tr l = T at *
  obtain ⟨fs, er⟩ := T
  simp only [] at *
  have HB0 : Hid (Below w.heap.size w (w.alloc (.cells #[.int .u64 0, .int .i64 0, .bool false] 31)) ∧ (w.alloc (.cells #[.int .u64 0, .int .i64 0, .bool false] 31)).heap[w.heap.size]? = some (.cells #[.int .u64 0, .int .i64 0, .bool false] 31 (0, 0))) := ⟨hb0, hk0⟩
  clear hb0 hk0
  -- a peer that is answered
  have out : ∀ (w1 : World) (a : Int) (b : Int) (c : Bool), Below (w.alloc (.cells #[.int .u64 0, .int .i64 0, .bool false] 31)).heap.size (w.alloc (.cells #[.int .u64 0, .int .i64 0, .bool false] 31)) w1 → ((w1.cell? ⟨w.heap.size, 0, none⟩ = some (.int .u64 0) ∧ w1.cell? ⟨w.heap.size, 1, none⟩ = some (.int .i64 0) ∧ w1.cell? ⟨w.heap.size, 2, none⟩ = some (.bool false) ∧ w1.frozen? ⟨w.heap.size, 0, none⟩ = false ∧ w1.frozen? ⟨w.heap.size, 1, none⟩ = false ∧ w1.frozen? ⟨w.heap.size, 2, none⟩ = false) ∧ ∀ W2, W2 = ((w1.setCell ⟨w.heap.size, 0, none⟩ (.int .u64 a)).setCell ⟨w.heap.size, 1, none⟩ (.int .i64 b)).setCell ⟨w.heap.size, 2, none⟩ (.bool c) → (W2.cell? ⟨w.heap.size, 0, none⟩ = some (.int .u64 a) ∧ W2.cell? ⟨w.heap.size, 1, none⟩ = some (.int .i64 b) ∧ W2.cell? ⟨w.heap.size, 2, none⟩ = some (.bool c)) ∧ Below w.heap.size w W2) := fun w1 a b c h1 => by
    have hk1 := (h1.block _ (Array.getElem?_eq_some_iff.1 HB0.out.2).1).trans HB0.out.2
    obtain ⟨q0, q1, q2, qz⟩ := cells3 hk1
    refine ⟨⟨q0, q1, q2, qz 0, qz 1, qz 2⟩, fun W2 e => ?_⟩
    subst e
    obtain ⟨r0, r1, r2, _⟩ := cells3 (set3_block hk1 (.int .u64 a) (.int .i64 b) (.bool c))
    have hB1 : Below w.heap.size w w1 := HB0.out.1.trans (h1.mono HB0.out.1.size)
    exact ⟨⟨r0, r1, r2⟩, hB1.trans ((set3_chg w1 w.heap.size _ _ _).below (fun b q => by omega) hB1.size)⟩
  have HO : Hid _ := out
  clear out
  by_cases her : er = 0
  · subst her
    by_cases hf3 : fs.length = 3
    · rw [if_pos ⟨rfl, hf3⟩]
      have HF3 : Hid (fs.length = 3) := hf3
      clear hf3
      have hns := nF_len fs
      have HTN : Hid (∀ W2 u, Rds W2 u fs → Calls Try.prog 43 #[u] W2 fun e w' => ∃ v' : Value, e = .returned (.tuple #[v', .bool (M.nF fs).isSome]) ∧ Ou W2.heap.size w' v' ((M.nF fs).getD []) ∧ Below W2.heap.size W2 w') := fun W2 u h => taken_any h (fun f hf => by have := hmem f hf; omega) (by have := HF3.out; omega)
      generalize M.nF fs = R at *
      cases R with
      | none =>
        simp only [Option.bind_none, Option.getD_none, Option.isSome_none]
        go_enter Try.func44, Try.ntmps44
        go_wp2_with fail
        refine htr.mono ?_
        rintro e w1 ⟨v1, us, rfl, hos, hb1⟩
        have HRD : Hid (Rds w1 v1 fs) := hos.rds
        obtain ⟨ao, c, rfl, h1, h2, h4⟩ := hos.rds
        have hq : Calls Try.prog 43 #[.slice ao fs.length c] w1 _ := HTN.out w1 _ HRD.out
        rw [HF3.out] at hq ⊢
        clear h4 hos h1
        go_wp2_with fail
        refine hq.mono ?_
        rintro e w2 ⟨v2, rfl, ho2, hb2⟩
        obtain ⟨a2, c2, rfl⟩ := ho2.shape
        obtain ⟨⟨q0, q1, q2, z0, z1, z2⟩, hz⟩ := HO.out w2 0 0 false (hb1.trans (hb2.mono hb1.size))
        go_wp2_with fail
        obtain ⟨⟨k0, k1, k2⟩, hbz⟩ := hz _ rfl
        clear hz
        generalize (((w2.setCell ⟨w.heap.size, 0, none⟩ (.int .u64 0)).setCell ⟨w.heap.size, 1, none⟩ (.int .i64 0)).setCell ⟨w.heap.size, 2, none⟩ (.bool false)) = wz at *
        refine bodyPost_ret (v := .tuple #[.agg #[.int .u64 0, .int .i64 0, .bool false], .bool false]) (by simp [results, Try.results44, go_sem, k0, k1, k2]; try rfl) rfl ?_
        exact ⟨rfl, hbz⟩
      | some ns =>
        have hn3 := hns ns rfl
        rw [HF3.out] at hn3
        obtain ⟨x, y, z, rfl⟩ : ∃ x y z, ns = [x, y, z] := by
          match ns, hn3 with
          | [x, y, z], _ => exact ⟨x, y, z, rfl⟩
        clear hn3 hns
        simp only [Option.bind_some, Option.getD_some, Option.isSome_some, p3] at *
        by_cases hy : y.toNat ≤ 2147483647
        · by_cases hz1 : z.toNat ≤ 1
          · rw [if_pos ⟨hy, hz1⟩]
            simp only [Option.getD_some, Option.isSome_some]
            have hw := wrap_small y.toNat hy
            have hy' : ¬ (2147483647 : Int) < (y.toNat : Int) := by omega
            have hz' : ¬ (1 : Int) < (z.toNat : Int) := by omega
            have hze : ((z.toNat : Int) == 1) = decide (z.toNat = 1) := by
              by_cases q : z.toNat = 1
              · rw [q]; rfl
              · rw [decide_eq_false q]; exact beq_eq_false_iff_ne.2 (by omega)
            go_enter Try.func44, Try.ntmps44
            go_wp2_with fail
            refine htr.mono ?_
            rintro e w1 ⟨v1, us, rfl, hos, hb1⟩
            have HRD : Hid (Rds w1 v1 fs) := hos.rds
            obtain ⟨ao, c, rfl, h1, h2, h4⟩ := hos.rds
            have hq : Calls Try.prog 43 #[.slice ao fs.length c] w1 _ := HTN.out w1 _ HRD.out
            rw [HF3.out] at hq ⊢
            clear h4 hos h1
            go_wp2_with fail
            refine hq.mono ?_
            rintro e w2 ⟨v2, rfl, ho2, hb2⟩
            obtain ⟨a2, c2, rfl, u1, u2, _, u4⟩ := ho2.ru
            obtain ⟨ad, rfl, n0⟩ := u4 0 (by simp)
            obtain ⟨_, e1, n1⟩ := u4 1 (by simp)
            obtain rfl := Option.some.inj e1
            obtain ⟨_, e2, n2⟩ := u4 2 (by simp)
            obtain rfl := Option.some.inj e2
            clear e1 e2 u4
            simp only [List.getElem_cons_zero, List.getElem_cons_succ, List.length_cons, List.length_nil, Nat.zero_add, Nat.reduceAdd] at n0 n1 n2 u1 u2 ⊢
            obtain ⟨⟨q0, q1, q2, z0, z1, z2⟩, -⟩ := HO.out w2 0 0 false (hb1.trans (hb2.mono hb1.size))
            obtain ⟨-, hz⟩ := HO.out w2 (x.toNat : Int) (y.toNat : Int) (decide (z.toNat = 1)) (hb1.trans (hb2.mono hb1.size))
            unfold maxLen at u2
            have n0' : w2.cell? ad = some (.int .u64 (x.toNat : Int)) := n0
            have n1' : w2.cell? ⟨ad.block, ad.off + 1, none⟩ = some (.int .u64 (y.toNat : Int)) := n1
            have n2' : w2.cell? ⟨ad.block, ad.off + 2, none⟩ = some (.int .u64 (z.toNat : Int)) := n2
            clear n0 n1 n2
            have HZ : Hid _ := hz
            clear hz
            go_wp2_with fail
            go_region
            go_wp2_with fail
            obtain ⟨⟨k0, k1, k2⟩, hbz⟩ := HZ.out _ rfl
            generalize (((w2.setCell ⟨w.heap.size, 0, none⟩ (.int .u64 (x.toNat : Int))).setCell ⟨w.heap.size, 1, none⟩ (.int .i64 (y.toNat : Int))).setCell ⟨w.heap.size, 2, none⟩ (.bool (decide (z.toNat = 1)))) = wz at *
            have k0' : wz.drew.cell? ⟨w.heap.size, 0, none⟩ = _ := k0
            have k1' : wz.drew.cell? ⟨w.heap.size, 1, none⟩ = _ := k1
            have k2' : wz.drew.cell? ⟨w.heap.size, 2, none⟩ = _ := k2
            have hbz' : Below w.heap.size w wz.drew := hbz.trans ((Below.dN wz 1).mono hbz.size)
            generalize wz.drew = wy at *
            refine bodyPost_ret (v := .tuple #[.agg #[.int .u64 (x.toNat : Int), .int .i64 (y.toNat : Int), .bool (decide (z.toNat = 1))], .bool true]) (by simp [results, Try.results44, go_sem, k0', k1', k2']; try rfl) rfl ?_
            exact ⟨rfl, hbz'⟩
          · rw [if_neg (fun q => hz1 q.2)]
            simp only [Option.getD_none, Option.isSome_none]
            have hy' : ¬ (2147483647 : Int) < (y.toNat : Int) := by omega
            have hz' : (1 : Int) < (z.toNat : Int) := by omega
            go_enter Try.func44, Try.ntmps44
            go_wp2_with fail
            refine htr.mono ?_
            rintro e w1 ⟨v1, us, rfl, hos, hb1⟩
            have HRD : Hid (Rds w1 v1 fs) := hos.rds
            obtain ⟨ao, c, rfl, h1, h2, h4⟩ := hos.rds
            have hq : Calls Try.prog 43 #[.slice ao fs.length c] w1 _ := HTN.out w1 _ HRD.out
            rw [HF3.out] at hq ⊢
            clear h4 hos h1
            go_wp2_with fail
            refine hq.mono ?_
            rintro e w2 ⟨v2, rfl, ho2, hb2⟩
            obtain ⟨a2, c2, rfl, u1, u2, _, u4⟩ := ho2.ru
            obtain ⟨ad, rfl, n0⟩ := u4 0 (by simp)
            obtain ⟨_, e1, n1⟩ := u4 1 (by simp)
            obtain rfl := Option.some.inj e1
            obtain ⟨_, e2, n2⟩ := u4 2 (by simp)
            obtain rfl := Option.some.inj e2
            clear e1 e2 u4
            simp only [List.getElem_cons_zero, List.getElem_cons_succ, List.length_cons, List.length_nil, Nat.zero_add, Nat.reduceAdd] at n0 n1 n2 u1 u2 ⊢
            unfold maxLen at u2
            have n0' : w2.cell? ad = some (.int .u64 (x.toNat : Int)) := n0
            have n1' : w2.cell? ⟨ad.block, ad.off + 1, none⟩ = some (.int .u64 (y.toNat : Int)) := n1
            have n2' : w2.cell? ⟨ad.block, ad.off + 2, none⟩ = some (.int .u64 (z.toNat : Int)) := n2
            clear n0 n1 n2
            obtain ⟨⟨q0, q1, q2, z0, z1, z2⟩, hz⟩ := HO.out w2 0 0 false (hb1.trans (hb2.mono hb1.size))
            go_wp2_with fail
            obtain ⟨⟨k0, k1, k2⟩, hbz⟩ := hz _ rfl
            clear hz
            generalize (((w2.setCell ⟨w.heap.size, 0, none⟩ (.int .u64 0)).setCell ⟨w.heap.size, 1, none⟩ (.int .i64 0)).setCell ⟨w.heap.size, 2, none⟩ (.bool false)) = wz at *
            refine bodyPost_ret (v := .tuple #[.agg #[.int .u64 0, .int .i64 0, .bool false], .bool false]) (by simp [results, Try.results44, go_sem, k0, k1, k2]; try rfl) rfl ?_
            exact ⟨rfl, hbz⟩
        · rw [if_neg (fun q => hy q.1)]
          simp only [Option.getD_none, Option.isSome_none]
          have hy' : (2147483647 : Int) < (y.toNat : Int) := by omega
          go_enter Try.func44, Try.ntmps44
          go_wp2_with fail
          refine htr.mono ?_
          rintro e w1 ⟨v1, us, rfl, hos, hb1⟩
          have HRD : Hid (Rds w1 v1 fs) := hos.rds
          obtain ⟨ao, c, rfl, h1, h2, h4⟩ := hos.rds
          have hq : Calls Try.prog 43 #[.slice ao fs.length c] w1 _ := HTN.out w1 _ HRD.out
          rw [HF3.out] at hq ⊢
          clear h4 hos h1
          go_wp2_with fail
          refine hq.mono ?_
          rintro e w2 ⟨v2, rfl, ho2, hb2⟩
          obtain ⟨a2, c2, rfl, u1, u2, _, u4⟩ := ho2.ru
          obtain ⟨ad, rfl, n0⟩ := u4 0 (by simp)
          obtain ⟨_, e1, n1⟩ := u4 1 (by simp)
          obtain rfl := Option.some.inj e1
          obtain ⟨_, e2, n2⟩ := u4 2 (by simp)
          obtain rfl := Option.some.inj e2
          clear e1 e2 u4
          simp only [List.getElem_cons_zero, List.getElem_cons_succ, List.length_cons, List.length_nil, Nat.zero_add, Nat.reduceAdd] at n0 n1 n2 u1 u2 ⊢
          unfold maxLen at u2
          have n0' : w2.cell? ad = some (.int .u64 (x.toNat : Int)) := n0
          have n1' : w2.cell? ⟨ad.block, ad.off + 1, none⟩ = some (.int .u64 (y.toNat : Int)) := n1
          have n2' : w2.cell? ⟨ad.block, ad.off + 2, none⟩ = some (.int .u64 (z.toNat : Int)) := n2
          clear n0 n1 n2
          obtain ⟨⟨q0, q1, q2, z0, z1, z2⟩, hz⟩ := HO.out w2 0 0 false (hb1.trans (hb2.mono hb1.size))
          go_wp2_with fail
          obtain ⟨⟨k0, k1, k2⟩, hbz⟩ := hz _ rfl
          clear hz
          generalize (((w2.setCell ⟨w.heap.size, 0, none⟩ (.int .u64 0)).setCell ⟨w.heap.size, 1, none⟩ (.int .i64 0)).setCell ⟨w.heap.size, 2, none⟩ (.bool false)) = wz at *
          refine bodyPost_ret (v := .tuple #[.agg #[.int .u64 0, .int .i64 0, .bool false], .bool false]) (by simp [results, Try.results44, go_sem, k0, k1, k2]; try rfl) rfl ?_
          exact ⟨rfl, hbz⟩
    · have hne : (((fs.length : Nat) : Int) != 3) = true := by simp; omega
      rw [if_neg (fun q => hf3 q.2)]
      simp only [Option.getD_none, Option.isSome_none]
      clear hf3
      go_enter Try.func44, Try.ntmps44
      go_wp2_with fail
      refine htr.mono ?_
      rintro e w2 ⟨v1, us, rfl, hos, hb1⟩
      obtain ⟨ao, c, rfl, h1, h2, h4⟩ := hos.rds
      clear h4 hos h1
      obtain ⟨⟨q0, q1, q2, z0, z1, z2⟩, hz⟩ := HO.out w2 0 0 false hb1
      go_wp2_with fail
      obtain ⟨⟨k0, k1, k2⟩, hbz⟩ := hz _ rfl
      clear hz
      generalize (((w2.setCell ⟨w.heap.size, 0, none⟩ (.int .u64 0)).setCell ⟨w.heap.size, 1, none⟩ (.int .i64 0)).setCell ⟨w.heap.size, 2, none⟩ (.bool false)) = wz at *
      refine bodyPost_ret (v := .tuple #[.agg #[.int .u64 0, .int .i64 0, .bool false], .bool false]) (by simp [results, Try.results44, go_sem, k0, k1, k2]; try rfl) rfl ?_
      exact ⟨rfl, hbz⟩
  · have hne : (((er : Nat) : Int) != 0) = true := by simp; omega
    rw [if_neg (fun q => her q.1)]
    simp only [Option.getD_none, Option.isSome_none]
    go_enter Try.func44, Try.ntmps44
    go_wp2_with fail
    refine htr.mono ?_
    rintro e w2 ⟨v1, us, rfl, hos, hb1⟩
    obtain ⟨⟨q0, q1, q2, z0, z1, z2⟩, hz⟩ := HO.out w2 0 0 false hb1
    go_wp2_with fail
    obtain ⟨⟨k0, k1, k2⟩, hbz⟩ := hz _ rfl
    clear hz
    generalize (((w2.setCell ⟨w.heap.size, 0, none⟩ (.int .u64 0)).setCell ⟨w.heap.size, 1, none⟩ (.int .i64 0)).setCell ⟨w.heap.size, 2, none⟩ (.bool false)) = wz at *
    refine bodyPost_ret (v := .tuple #[.agg #[.int .u64 0, .int .i64 0, .bool false], .bool false]) (by simp [results, Try.results44, go_sem, k0, k1, k2]; try rfl) rfl ?_
    exact ⟨rfl, hbz⟩
end Go.Proofs.Ytnenfflkldpbgaa

/- The document's number; numbers of three fields. -/
namespace Go.Proofs.Ytnenfflkldpbgaa
open Go.RowKit
set_option linter.unusedVariables false
set_option maxRecDepth 100000

/-- A field that is a number and nothing beside. -/
def nb (f : List UInt8) : Bool := decide ((M.tv f).2.2 = 0) && decide ((M.tv f).2.1.length = 0)
def nv (f : List UInt8) : Nat := (M.tv f).1
theorem nb_iff (f : List UInt8) : nb f = true ↔ (M.tv f).2.2 = 0 ∧ (M.tv f).2.1 = [] := by
  unfold nb
  rw [Bool.and_eq_true, decide_eq_true_eq, decide_eq_true_eq, List.length_eq_zero_iff]
theorem nv_lt (f : List UInt8) : nv f < 18446744073709551616 := tv_lt f
theorem nF_cons (f : List UInt8) (r : List (List UInt8)) : M.nF (f :: r) = if nb f then (M.nF r).map (UInt64.ofNat (nv f) :: ·) else none := by
  rw [M.nF]
  by_cases h : nb f = true
  · rw [if_pos h, if_pos ((nb_iff f).1 h)]; rfl
  · rw [if_neg h, if_neg (fun q => h ((nb_iff f).2 q))]
theorem nF3 (a b c : List UInt8) : M.nF [a, b, c] = if nb a && (nb b && nb c) then some [UInt64.ofNat (nv a), UInt64.ofNat (nv b), UInt64.ofNat (nv c)] else none := by
  rw [nF_cons, nF_cons, nF_cons]
  cases nb a <;> cases nb b <;> cases nb c <;> simp [M.nF]
/-- Are three fields a peer? -/
def ok3 (a b c : List UInt8) : Bool := nb a && (nb b && (nb c && (decide (nv b < 2147483648) && decide (nv c ≤ 1))))
theorem pdc3 (f a b c : List UInt8) (h : M.tr f = ([a, b, c], 0)) : pdc f = if ok3 a b c then some (UInt64.ofNat (nv a), (nv b : Int), decide (nv c = 1)) else none := by
  have hb := nv_lt b
  have hc := nv_lt c
  have e1 : (UInt64.ofNat (nv b)).toNat = nv b := by rw [UInt64.toNat_ofNat']; omega
  have e2 : (UInt64.ofNat (nv c)).toNat = nv c := by rw [UInt64.toNat_ofNat']; omega
  unfold pdc ok3
  rw [h, if_pos ⟨rfl, rfl⟩, nF3]
  cases nb a <;> cases nb b <;> cases nb c <;> simp [p3, e1, e2]
  by_cases h1 : nv b < 2147483648
  · have h1' : nv b ≤ 2147483647 := by omega
    simp [h1, h1']
  · have h1' : ¬ nv b ≤ 2147483647 := by omega
    simp [h1, h1']

set_option maxHeartbeats 1000000 in
theorem rnum_any {v : Value} {l : List UInt8} {w : World} (hr : Rd w v l) (hl : l.length ≤ 1099511627776) :
    Calls Try.prog 55 #[v] w fun e w' => e = .returned (.tuple #[.int .u64 (nv l : Int), .bool (nb l)]) ∧ Below w.heap.size w w' := by
  have htv := rtakeV_any hr (by omega)
  unfold nv nb
  generalize M.tv l = F at *
  obtain ⟨n, rest, fe⟩ := F
  simp only [] at *
  by_cases hfe : fe = 0
  · subst hfe
    by_cases hre : rest.length < 1
    · have h0 : rest.length = 0 := by omega
      have hres : (decide (0 = 0) && decide (rest.length = 0)) = true := by rw [h0]; rfl
      have g1 : (((rest.length : Nat) : Int) == 0) = true := by rw [show ((rest.length : Nat) : Int) = 0 by omega]; rfl
      rw [hres]
      have H0 : Hid _ := h0
      clear h0 hres
      go_enter Try.func55, Try.ntmps55
      go_wp2_with fail
      refine htv.mono ?_
      rintro e w1 ⟨v2, rfl, ho, hb⟩
      obtain ⟨a2, c2, rfl⟩ := ho.shape
      go_wp2_with fail
      go_ret2
      exact ⟨rfl, hb⟩
    · have hres : (decide (0 = 0) && decide (rest.length = 0)) = false := by rw [decide_eq_false (show ¬ rest.length = 0 by omega)]; rfl
      have g1 : (((rest.length : Nat) : Int) == 0) = false := beq_eq_false_iff_ne.2 (by omega)
      rw [hres]
      clear hres
      go_enter Try.func55, Try.ntmps55
      go_wp2_with fail
      refine htv.mono ?_
      rintro e w1 ⟨v2, rfl, ho, hb⟩
      obtain ⟨a2, c2, rfl⟩ := ho.shape
      go_wp2_with fail
      go_ret2
      exact ⟨rfl, hb⟩
  · have hres : (decide (fe = 0) && decide (rest.length = 0)) = false := by rw [decide_eq_false hfe]; rfl
    have g1 : (((fe : Nat) : Int) == 0) = false := beq_eq_false_iff_ne.2 (by omega)
    rw [hres]
    clear hres
    go_enter Try.func55, Try.ntmps55
    go_wp2_with fail
    refine htv.mono ?_
    rintro e w1 ⟨v2, rfl, ho, hb⟩
    go_wp2_with fail
    go_ret2
    exact ⟨rfl, hb⟩
end Go.Proofs.Ytnenfflkldpbgaa
