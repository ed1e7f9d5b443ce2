/- What the document's own TakeBytes and TakeKey answer of any bytes. -/
import Derived.Test.YtbajnekhpnpbbaaRTakes
import Derived.Test.YtbajnekhpnpbbaaOpens2
namespace Go.Proofs.Ytbajnekhpnpbbaa
open Go.RowKit
set_option linter.unusedVariables false
set_option maxRecDepth 100000

theorem tg_short (l : List UInt8) (h : l.length < 9) : M.tg l = ([], 10) := by unfold M.tg; rw [if_pos h]
theorem tg_low (l : List UInt8) (h : 8 < l.length) (h2 : l[8].toNat < 247) : M.tg l = ([], 12) := by
  have eg : l.getD 8 0 = l[8] := by simp [h]
  unfold M.tg; rw [if_neg (by omega), eg, if_pos h2]
theorem tg_bad (l : List UInt8) (h : 8 < l.length) (n : Nat) (h2 : l[8].toNat = 247 + n) (j : Nat) (hj : n ≤ j) (hj8 : j < 8) (hx : (l[j]'(by omega)).toNat ≠ 0) : M.tg l = ([], 12) := by
  have eg : l.getD 8 0 = l[8] := by simp [h]
  unfold M.tg
  rw [if_neg (by omega), eg, if_neg (by omega), h2, show 247 + n - 247 = n by omega, if_neg]
  intro hall
  have hm : (l[j]'(by omega)) ∈ (l.take 8).drop n := by
    rw [List.mem_iff_getElem]
    refine ⟨j - n, by simp; omega, ?_⟩
    simp only [List.getElem_drop, List.getElem_take]
    congr 1
    omega
  have := List.all_eq_true.1 hall _ hm
  simp only [beq_iff_eq] at this
  rw [this] at hx
  exact hx rfl
theorem tg_good (l : List UInt8) (h : 8 < l.length) (n : Nat) (h2 : l[8].toNat = 247 + n) (hz : ∀ q, (hq : q < l.length) → n ≤ q → q < 8 → l[q] = 0) : M.tg l = (l.take n, 0) := by
  have eg : l.getD 8 0 = l[8] := by simp [h]
  unfold M.tg
  rw [if_neg (by omega), eg, if_neg (by omega), h2, show 247 + n - 247 = n by omega, if_pos]
  rw [List.all_eq_true]
  intro x hx
  obtain ⟨q, hq, rfl⟩ := List.getElem_of_mem hx
  simp only [List.length_drop, List.length_take] at hq
  simp only [List.getElem_drop, List.getElem_take, beq_iff_eq]
  exact hz (n + q) (by omega) (by omega) (by omega)

set_option maxHeartbeats 1000000 in
theorem rtakeB_any {v : Value} {l : List UInt8} {w : World} (hr : Rd w v l) (hl : l.length ≤ 140737488355000) :
    Calls Try.prog 34 #[v] w fun e w' => ∃ v1 v2, e = .returned (.tuple #[v1, v2, .int .i64 (M.tb l).2.2]) ∧ Ow w.heap.size w' v1 (M.tb l).1 ∧ Ow w.heap.size w' v2 (M.tb l).2.1 ∧ Apart v1 v2 ∧ Below w.heap.size w w' := by
  generalize hT : M.tb l = T
  have HT : Hid (M.tbA (l.length + 1) [] l = T) := hT
  clear hT
  have hr' := hr
  obtain ⟨ao, c, rfl, h1, h2, h3, h4⟩ := hr
  unfold maxLen at h2
  clear h3
  go_enter Try.func34, Try.ntmps34
  go_wp2
  go_loopw [5, 6, 7, 8] (fun out i _ _ wr => ∃ (k p : Nat) (acc : List UInt8), p ≤ l.length ∧ i = .int .i64 p ∧ l.length - p < k ∧ acc.length ≤ p ∧ Ow w.heap.size wr out acc ∧ M.tbA k acc (l.drop p) = T ∧ Below w.heap.size w wr) (fun _ i _ _ _ => l.length - (intOf i).toNat)
  case atStart => exact ⟨l.length + 1, 0, [], Nat.zero_le _, rfl, by omega, by simp, Ow.nil _ _, HT.out, Below.refl _ _⟩
  case round =>
    obtain ⟨k, p, acc, hp, rfl, hk, hacc, ho, hd, hb⟩ := hrel
    obtain ⟨k, rfl⟩ : ∃ k', k = k' + 1 := ⟨k - 1, by omega⟩
    clear HT
    rw [M.tbA] at hd
    have hB := hb.size
    have hDl : (l.drop p).length = l.length - p := by simp
    have hDg : ∀ j, (h : j < (l.drop p).length) → (h2 : p + j < l.length) → (l.drop p)[j] = l[p + j] := fun j h h2 => by simp
    have hDd : (l.drop p).drop 9 = l.drop (p + 9) := by rw [List.drop_drop]
    generalize l.drop p = D at *
    have HDL : Hid _ := And.intro hDl (And.intro hDg hDd)
    clear hDl hDg hDd
    have HD : Hid _ := hd
    clear hd
    by_cases h9 : l.length - p < 9
    · have eT : T = ([], [], 10) := by
        rw [← HD.out, tg_short D (by have := HDL.out.1; omega)]; rfl
      subst eT
      clear h4 hr' HD
      go_wp2
      go_ret3
      exact ⟨_, _, rfl, Ow.nil _ _, Ow.nil _ _, .inl rfl, hb⟩
    · obtain ⟨a, rfl, hc8⟩ := h4 (p + 8) (by omega)
      have hc8' : wr.cell? (a.add (p + 8)) = some (.int .u8 ((l[p + 8]'(by omega)).toNat : Int)) := by
        rw [hb.cell (World.block_lt_of_cell? w _ hc8)]; exact hc8
      have hc8s : wr.cell? ⟨a.block, a.off + (p + 8), none⟩ = some (.int .u8 ((l[p + 8]'(by omega)).toNat : Int)) := by
        rw [← hc8']; congr 1
      clear hc8 hc8'
      have hx8 := (l[p + 8]'(by omega)).toNat_lt
      have hD8 : 8 < D.length := by have := HDL.out.1; omega
      have e8 : D[8] = l[p + 8]'(by omega) := HDL.out.2.1 8 hD8 (by omega)
      by_cases hlow : (l[p + 8]'(by omega)).toNat < 247
      · have eT : T = ([], [], 12) := by
          rw [← HD.out, tg_low D hD8 (by rw [e8]; exact hlow)]; rfl
        subst eT
        clear h4 hr' HD e8
        go_wp2
        go_ret3
        exact ⟨_, _, rfl, Ow.nil _ _, Ow.nil _ _, .inl rfl, hb⟩
      · obtain ⟨n, hn⟩ : ∃ n, (l[p + 8]'(by omega)).toNat = 247 + n := ⟨(l[p + 8]'(by omega)).toNat - 247, by omega⟩
        rw [hn] at hc8s hx8
        have hn8 : n ≤ 8 := by omega
        have HN : Hid (D[8].toNat = 247 + n) := by show _ = _; rw [e8, hn]
        clear hn hlow hx8 e8
        have b13 : decide ((l.length : Int) - (p : Int) < 9) = false := by simp; omega
        have b22 : decide (247 + (n : Int) - 247 < 0) = false := by simp; omega
        go_wp2_with fail
        go_loopw [5, 8] (fun out i wx => ∃ j : Nat, j ≤ 8 ∧ i = .int .i64 j ∧ Ow w.heap.size wx out (acc ++ D.take (min j n)) ∧ (∀ q, (hq : q < D.length) → n ≤ q → q < j → D[q] = 0) ∧ Below w.heap.size w wx) (fun _ i _ => 8 - (intOf i).toNat)
        case atStart => exact ⟨0, Nat.zero_le _, rfl, by simpa using ho, fun q _ _ hq => by omega, hb⟩
        case round =>
          obtain ⟨j, hj, rfl, hox, hz, hbx⟩ := hrel
          have hBx := hbx.size
          have HZ : Hid _ := hz
          clear hz ho hb hc8s
          have hxl : (acc ++ D.take (min j n)).length ≤ p + 8 := by simp; omega
          generalize hcur : acc ++ D.take (min j n) = cur at *
          have HC : Hid _ := hcur
          clear hcur
          by_cases hj8 : j < 8
          · obtain ⟨a', ea, hc⟩ := h4 (p + j) (by omega)
            obtain rfl := Option.some.inj ea
            have hcx : wr.cell? (a.add (p + j)) = some (.int .u8 ((l[p + j]'(by omega)).toNat : Int)) := by
              rw [hbx.cell (World.block_lt_of_cell? w _ hc)]; exact hc
            have hxb := (l[p + j]'(by omega)).toNat_lt
            clear hc ea
            have eDj : D[j]'(by omega) = l[p + j]'(by omega) := HDL.out.2.1 j (by omega) (by omega)
            have HJ : Hid _ := eDj
            clear eDj
            by_cases hjn : j < n
            · go_wp2_with (first | (at_builtin; refine wpList_app rfl _ _ rfl w.heap.size _ _ rfl (hox.alloc _) _ [l[p + j]'(by omega)] rfl (rd_one _ _ _ rfl _) ?q2 ?q3 ?_; rotate_right; intro v5 w5 ho5 hb5 hg5) | fail)
              case q2 => simp; omega
              case q3 => simp; omega
              have e : acc ++ D.take (min (j + 1) n) = cur ++ [l[p + j]'(by omega)] := by
                rw [← HC.out, Nat.min_eq_left (by omega), Nat.min_eq_left (by omega), take_snoc D j (by omega), HJ.out]
                simp
              rw [← e] at ho5
              have hrelx : ∃ j' : Nat, j' ≤ 8 ∧ Value.int .i64 ((j : Int) + 1) = .int .i64 j' ∧ Ow w.heap.size w5 v5 (acc ++ D.take (min j' n)) ∧ (∀ q, (hq : q < D.length) → n ≤ q → q < j' → D[q] = 0) ∧ Below w.heap.size w w5 :=
                ⟨j + 1, by omega, by go_num, ho5, fun q hq h1 h2 => HZ.out q hq h1 (by omega), (hbx.trans ((Below.refl _ _).alloc hBx _)).trans hb5⟩
              have ead : a.add (p + 8) = ⟨a.block, a.off + (p + 7 + 1), none⟩ := rfl
              refine ⟨?_, by simp [intOf]; omega⟩
              (repeat apply Exists.intro)
              refine ⟨hrelx, ?_⟩
              rw [ead]
            · by_cases hx0 : (l[p + j]'(by omega)).toNat = 0
              · have hne : ((((l[p + j]'(by omega)).toNat : Nat) : Int) != 0) = false := by simp [hx0]
                go_wp2
                have e : acc ++ D.take (min (j + 1) n) = cur := by
                  rw [← HC.out, Nat.min_eq_right (by omega), Nat.min_eq_right (by omega)]
                rw [← e] at hox
                refine ⟨⟨j + 1, by omega, by go_num, hox, fun q hq h1 h2 => ?_, hbx⟩, by simp [intOf]; omega⟩
                by_cases hqj : q < j
                · exact HZ.out q hq h1 hqj
                · obtain rfl : q = j := by omega
                  rw [HJ.out]
                  exact UInt8.toNat_inj.1 (by simpa using hx0)
              · have hne : ((((l[p + j]'(by omega)).toNat : Nat) : Int) != 0) = true := by simp; omega
                have eT : T = ([], [], 12) := by
                  rw [← HD.out, tg_bad D hD8 n HN.out j (by omega) hj8 (by rw [HJ.out]; exact hx0)]; rfl
                subst eT
                clear hr' HD
                go_wp2
                go_ret3
                exact ⟨_, _, rfl, Ow.nil _ _, Ow.nil _ _, .inl rfl, hbx⟩
          · obtain rfl : j = 8 := by omega
            have etg := tg_good D hD8 n HN.out (fun q hq h1 h2 => HZ.out q hq h1 h2)
            have hd := HD.out
            rw [etg] at hd
            simp only [ne_eq, not_true_eq_false, if_false] at hd
            have hcur : acc ++ D.take n = cur := by rw [← HC.out, Nat.min_eq_right (by omega)]
            rw [hcur] at hd
            have hlen : (D.take n).length = n := by simp; omega
            rw [hlen, HDL.out.2.2] at hd
            clear etg hcur hlen
            have HD2 : Hid _ := hd
            clear hd HD
            by_cases hn7 : n < 8
            · have hd := HD2.out
              rw [if_pos hn7] at hd
              subst hd
              clear HD2
              have hpost := hr'.post (p + 9) (by omega) (if c = p + 9 then some a else some (a.add (p + 9))) ⟨fun h => by rw [if_pos h], fun h => by rw [if_neg h]; rfl⟩
              have hdl : (l.drop (p + 9)).length ≤ 140737488355000 := by simp; omega
              have HP : Hid _ := And.intro hpost hdl
              clear hpost hdl hr'
              by_cases hcn : c = p + 9
              all_goals
                go_wp2_with fail
                refine (copy_any (l := l.drop (p + 9)) ?hr (by have := HP.out.2; omega)).mono ?_
                case hr =>
                  refine Rd.cong (Rd.below HP.out.1 hbx (Nat.le_refl _)) ?_ ?_ ?_
                  · first | (rw [if_pos hcn]; done) | (rw [if_pos hcn]; rfl) | (rw [if_neg hcn]; done) | (rw [if_neg hcn]; simp [Addr.add]; done)
                  · first | rfl | omega
                  · first | rfl | omega
                rintro e w2 ⟨v2, rfl, ho2, hb2⟩
                go_wp2_with fail
                go_ret3
                exact ⟨_, _, rfl, hox.below hb2 (Nat.le_refl _), ho2.mono hBx, hox.apart ho2 (Nat.le_refl _), hbx.trans (hb2.mono hBx)⟩
            · have hd := HD2.out
              rw [if_neg hn7] at hd
              have HD3 : Hid _ := hd
              clear hd HD2
              go_wp2
              exact ⟨⟨k, p + 9, cur, by omega, by go_num, by omega, by omega, hox, HD3.out, hbx⟩, by simp [intOf]; omega⟩

theorem tb_len (l : List UInt8) : (M.tb l).1.length ≤ l.length ∧ (M.tb l).2.1.length ≤ l.length := by
  have := M.tbA_len (l.length + 1) [] l
  simpa [M.tb] using this

set_option maxHeartbeats 400000 in
theorem rtakeK_any {v : Value} {l : List UInt8} {w : World} (hr : Rd w v l) (hl : l.length ≤ 140737488355000) :
    Calls Try.prog 35 #[v] w fun e w' => ∃ v1, e = .returned (.tuple #[v1, .int .u64 (M.tk l).2.1, .int .i64 (M.tk l).2.2]) ∧ Ow w.heap.size w' v1 (M.tk l).1 ∧ Below w.heap.size w w' := by
  have HB : Hid _ := rtakeB_any hr hl
  have HC : Hid _ := tk_cases l
  have hlr := (tb_len l).2
  generalize M.tb l = R at *
  obtain ⟨tx, rest, er⟩ := R
  simp only [] at hlr
  generalize M.tk l = T at *
  rcases HC.out with ⟨h1, rfl⟩ | ⟨h1, h2, rfl⟩ | ⟨h1, h2, rfl⟩ | ⟨h1, h2, rfl⟩
  · simp only [] at h1
    have hne : (((er : Nat) : Int) != 0) = true := by simp; omega
    clear h1 HC
    go_enter Try.func35, Try.ntmps35
    go_wp2_with fail
    refine Calls.mono HB.out ?_
    rintro e w1 ⟨v1, v2, rfl, ho1, ho2, _, hb1⟩
    go_wp2_with fail
    go_ret3
    exact ⟨_, rfl, Ow.nil _ _, hb1⟩
  all_goals
    simp only [] at h1 h2
    subst h1
    clear HC
    go_enter Try.func35, Try.ntmps35
    go_wp2_with fail
    refine Calls.mono HB.out ?_
    rintro e w1 ⟨v1, v2, rfl, ho1, ho2, _, hb1⟩
    have HD : Hid _ := rtakeD_any (l := rest) ho2.rd (by omega)
    go_wp2_with fail
    refine Calls.mono HD.out ?_
    rintro e w2 ⟨v3, rfl, ho3, hb2⟩
  · have e : td rest = (0, [], 10) := by unfold td; rw [if_pos h2]
    rw [e]
    go_wp2_with fail
    go_ret3
    exact ⟨_, rfl, Ow.nil _ _, Below.tr hb1 hb2⟩
  · have e : td rest = (18446744073709551615 - M.num (rest.take 8), rest.drop 8, 0) := by unfold td; rw [if_neg (by omega)]
    rw [e] at ho3 ⊢
    have hdl : 0 < (rest.drop 8).length := by simp; omega
    obtain ⟨ao, c, rfl, e1, e2, e3, e4⟩ := ho3.rd
    unfold maxLen at e2
    simp only [] at e1 e2 ⊢
    clear e e3 e4 ho3
    generalize (rest.drop 8).length = m at *
    go_wp2_with fail
    go_ret3
    exact ⟨_, rfl, Ow.nil _ _, Below.tr hb1 hb2⟩
  · have e : td rest = (18446744073709551615 - M.num (rest.take 8), [], 0) := by unfold td; rw [if_neg (by omega), List.drop_eq_nil_of_le (by omega)]
    rw [e] at ho3 ⊢
    obtain ⟨ao, c, rfl, e1, e2, _, _⟩ := ho3.rd
    simp only [List.length_nil] at e1 ⊢
    clear e ho3
    go_wp2_with fail
    go_ret3
    exact ⟨_, rfl, ho1.below hb2 (Nat.le_refl _), Below.tr hb1 hb2⟩
end Go.Proofs.Ytbajnekhpnpbbaa
