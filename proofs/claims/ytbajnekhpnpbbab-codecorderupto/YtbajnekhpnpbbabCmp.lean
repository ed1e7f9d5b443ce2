/- What 'Cmp' of two byte slices answers: -1, 0, 1, byte by byte, the shorter one first. -/
import Derived.Test.YtbajnekhpnpbbabBase
import Derived.Test.YtbajnekhpnpbbabOrdMath
namespace Go.Proofs.Ytbajnekhpnpbbab
open Go.RowKit
set_option linter.unusedVariables false
set_option maxRecDepth 100000

theorem cmpL_step (a b : List UInt8) (k : Nat) (ha : k < a.length) (hb : k < b.length) : M.cmpL (a.drop k) (b.drop k) = if a[k] = b[k] then M.cmpL (a.drop (k + 1)) (b.drop (k + 1)) else if a[k] < b[k] then -1 else 1 := by
  rw [List.drop_eq_getElem_cons ha, List.drop_eq_getElem_cons hb, M.cmpL]

set_option maxHeartbeats 1000000 in
theorem cmp_any {va vb : Value} {la lb : List UInt8} {w : World} (ha : Rd w va la) (hb : Rd w vb lb) :
    Calls Try.prog 15 #[va, vb] w fun e w' => e = .returned (.int .i64 (M.cmpL la lb)) ∧ ∃ n, w' = w.drewN n := by
  obtain ⟨ao, ca, rfl, a1, a2, _, a4⟩ := ha
  obtain ⟨bo, cb, rfl, b1, b2, _, b4⟩ := hb
  unfold maxLen at a2 b2
  generalize hT : M.cmpL la lb = T
  have HT : Hid (M.cmpL (la.drop 0) (lb.drop 0) = T) := hT
  clear hT
  go_enter Try.func15, Try.ntmps15
  go_wp2
  go_loopw [5] (fun i wr => ∃ k : Nat, k ≤ la.length ∧ k ≤ lb.length ∧ i = .int .i64 k ∧ M.cmpL (la.drop k) (lb.drop k) = T ∧ ∃ m, wr = w.drewN m) (fun i _ => la.length - (intOf i).toNat)
  case atStart => exact ⟨0, Nat.zero_le _, Nat.zero_le _, rfl, HT.out, 0, rfl⟩
  case round =>
    obtain ⟨k, hka, hkb, rfl, hd, m, rfl⟩ := hrel
    clear HT
    have HD : Hid _ := hd
    clear hd
    by_cases hlt : k < la.length ∧ k < lb.length
    · obtain ⟨hla, hlb⟩ := hlt
      obtain ⟨a, rfl, hca⟩ := a4 k hla
      obtain ⟨b, rfl, hcb⟩ := b4 k hlb
      have hst := HD.out
      rw [cmpL_step la lb k hla hlb] at hst
      clear a4 b4 HD
      by_cases he : la[k] = lb[k]
      · rw [if_pos he] at hst
        rw [← he] at hcb
        have hne : (((la[k].toNat : Nat) : Int) != ((la[k].toNat : Nat) : Int)) = false := by simp
        have HS : Hid _ := hst
        clear hst he
        go_wp2
        go_region
        all_goals go_wp2
        all_goals exact ⟨⟨k + 1, by omega, by omega, by go_num, HS.out, _, rfl⟩, by simp [intOf]; omega⟩
      · rw [if_neg he] at hst
        have hnn : la[k].toNat ≠ lb[k].toNat := fun e => he (UInt8.toNat_inj.1 e)
        have hne : (((la[k].toNat : Nat) : Int) != ((lb[k].toNat : Nat) : Int)) = true := by simp; omega
        have hlti : (la[k] < lb[k]) ↔ la[k].toNat < lb[k].toNat := UInt8.lt_iff_toNat_lt
        by_cases hl : la[k].toNat < lb[k].toNat
        · rw [if_pos (hlti.2 hl)] at hst
          subst hst
          clear hlti hnn he
          go_wp2
          go_region
          all_goals go_wp2
          all_goals go_region
          all_goals go_wp2
          all_goals go_ret
          all_goals exact ⟨rfl, _, rfl⟩
        · rw [if_neg (fun h => hl (hlti.1 h))] at hst
          subst hst
          clear hlti hnn he
          go_wp2
          go_region
          all_goals go_wp2
          all_goals go_region
          all_goals go_wp2
          all_goals go_ret
          all_goals exact ⟨rfl, _, rfl⟩
    · have hst := HD.out
      clear HD a4 b4
      rcases Nat.lt_trichotomy la.length lb.length with h | h | h
      · obtain rfl : k = la.length := by omega
        have e1 : la.drop la.length = [] := List.drop_length
        have e2 : ∃ x r, lb.drop la.length = x :: r := ⟨_, _, List.drop_eq_getElem_cons h⟩
        obtain ⟨x, r, e2⟩ := e2
        rw [e1, e2] at hst
        have hT : T = -1 := hst.symm
        subst hT
        clear hst e1 e2
        have hq : (((la.length : Nat) : Int) == ((lb.length : Nat) : Int)) = false := by simp; omega
        go_wp2
        all_goals go_ret
        all_goals exact ⟨rfl, _, rfl⟩
      · have hk1 : k = la.length := by omega
        have e1 : la.drop k = [] := by rw [hk1]; exact List.drop_length
        have e2 : lb.drop k = [] := by rw [hk1, h]; exact List.drop_length
        rw [e1, e2] at hst
        have hT : T = 0 := hst.symm
        subst hT
        clear hst e1 e2 hk1
        have hq : (((la.length : Nat) : Int) == ((lb.length : Nat) : Int)) = true := by simp [h]
        have HH : Hid _ := h
        have hge : la.length ≤ k := by omega
        have hge2 : lb.length ≤ k := by omega
        clear h
        go_wp2
        all_goals go_ret
        all_goals exact ⟨rfl, _, rfl⟩
      · have hk1 : k = lb.length := by omega
        have e1 : lb.drop k = [] := by rw [hk1]; exact List.drop_length
        have e2 : ∃ x r, la.drop k = x :: r := ⟨_, _, List.drop_eq_getElem_cons (by omega)⟩
        obtain ⟨x, r, e2⟩ := e2
        rw [e1, e2] at hst
        have hT : T = 1 := hst.symm
        subst hT
        clear hst e1 e2
        have hge : lb.length ≤ k := by omega
        clear hk1
        have hq : (((la.length : Nat) : Int) == ((lb.length : Nat) : Int)) = false := by simp; omega
        go_wp2
        all_goals go_ret
        all_goals exact ⟨rfl, _, rfl⟩
end Go.Proofs.Ytbajnekhpnpbbab
