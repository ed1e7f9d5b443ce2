/- What the document's own Cmp answers: -1, 0, 1, byte by byte, the shorter one first. -/
import Derived.Test.YtlajncjamafomaaG1
import Derived.Test.YtlajncjamafomaaG9
namespace Go.Proofs.Ytlajncjamafomaa
open Go.RowKit
set_option linter.unusedVariables false
set_option maxRecDepth 100000

theorem rcmpL_step (a b : List UInt8) (k : Nat) (ha : k < a.length) (hb : k < b.length) : M.cmpL (a.drop k) (b.drop k) = if a[k] = b[k] then M.cmpL (a.drop (k + 1)) (b.drop (k + 1)) else if a[k] < b[k] then -1 else 1 := by
  rw [List.drop_eq_getElem_cons ha, List.drop_eq_getElem_cons hb, M.cmpL]

set_option maxHeartbeats 1000000 in
theorem rcmp_any {va vb : Value} {la lb : List UInt8} {w : World} (ha : Rd w va la) (hb : Rd w vb lb) :
    Calls Try.prog 42 #[va, vb] w fun e w' => e = .returned (.int .i64 (M.cmpL la lb)) ∧ ∃ n, w' = w.drewN n := by
  obtain ⟨ao, ca, rfl, a1, a2, _, a4⟩ := ha
  obtain ⟨bo, cb, rfl, b1, b2, _, b4⟩ := hb
  unfold maxLen at a2 b2
  generalize hT : M.cmpL la lb = T
  have HT : Hid (M.cmpL (la.drop 0) (lb.drop 0) = T) := hT
  clear hT
  go_enter Try.func42, Try.ntmps42
  go_wp2
  go_loopw [5] (fun i wr => ∃ k : Nat, k ≤ la.length ∧ k ≤ lb.length ∧ i = .int .i64 k ∧ M.cmpL (la.drop k) (lb.drop k) = T ∧ ∃ m, wr = w.drewN m) (fun i _ => la.length - (intOf i).toNat)
  case atStart => exact ⟨0, Nat.zero_le _, Nat.zero_le _, rfl, HT.out, 0, rfl⟩
  case round =>
    obtain ⟨k, hka, hkb, rfl, hd, m, rfl⟩ := hrel
    clear HT
    have HD : Hid _ := hd
    clear hd
    by_cases hlt : k < la.length ∧ k < lb.length
    · obtain ⟨hla, hlb⟩ := hlt
      obtain ⟨a, rfl, hca⟩ := a4 k hla
      obtain ⟨b, rfl, hcb⟩ := b4 k hlb
      have hst := HD.out
      rw [rcmpL_step la lb k hla hlb] at hst
      clear a4 b4 HD
      have hlti : (la[k] < lb[k]) ↔ la[k].toNat < lb[k].toNat := UInt8.lt_iff_toNat_lt
      have hnn : la[k] = lb[k] ↔ la[k].toNat = lb[k].toNat := UInt8.toNat_inj.symm
      rcases Nat.lt_trichotomy la[k].toNat lb[k].toNat with h | h | h
      · rw [if_neg (fun e => by have := hnn.1 e; omega), if_pos (hlti.2 h)] at hst
        subst hst
        clear hlti hnn
        go_wp2
        go_region
        all_goals go_wp2
        all_goals go_ret
        all_goals exact ⟨rfl, _, rfl⟩
      · rw [if_pos (hnn.2 h)] at hst
        have HS : Hid _ := hst
        have h1 : ¬ la[k].toNat < lb[k].toNat := by omega
        have h2 : ¬ lb[k].toNat < la[k].toNat := by omega
        clear hst hlti hnn h
        go_wp2
        go_region
        all_goals go_wp2
        all_goals go_region
        all_goals go_wp2
        all_goals exact ⟨⟨k + 1, by omega, by omega, by go_num, HS.out, _, rfl⟩, by simp [intOf]; omega⟩
      · rw [if_neg (fun e => by have := hnn.1 e; omega), if_neg (fun e => by have := hlti.1 e; omega)] at hst
        subst hst
        have h1 : ¬ la[k].toNat < lb[k].toNat := by omega
        clear hlti hnn
        go_wp2
        go_region
        all_goals go_wp2
        all_goals go_region
        all_goals go_wp2
        all_goals go_ret
        all_goals exact ⟨rfl, _, rfl⟩
    · have hst := HD.out
      clear HD a4 b4
      rcases Nat.lt_trichotomy la.length lb.length with h | h | h
      · obtain rfl : k = la.length := by omega
        have e1 : la.drop la.length = [] := List.drop_length
        have e2 : ∃ x r, lb.drop la.length = x :: r := ⟨_, _, List.drop_eq_getElem_cons h⟩
        obtain ⟨x, r, e2⟩ := e2
        rw [e1, e2] at hst
        have hT : T = -1 := hst.symm
        subst hT
        clear hst e1 e2
        go_wp2
        all_goals go_ret
        all_goals exact ⟨rfl, _, rfl⟩
      · have hk1 : k = la.length := by omega
        have e1 : la.drop k = [] := by rw [hk1]; exact List.drop_length
        have e2 : lb.drop k = [] := by rw [hk1, h]; exact List.drop_length
        rw [e1, e2] at hst
        have hT : T = 0 := hst.symm
        subst hT
        clear hst e1 e2 hk1
        have q1 : ¬ la.length < lb.length := by omega
        have q2 : ¬ lb.length < la.length := by omega
        have HH : Hid _ := h
        have hge : la.length ≤ k := by omega
        have hge2 : lb.length ≤ k := by omega
        clear h
        go_wp2
        all_goals go_ret
        all_goals exact ⟨rfl, _, rfl⟩
      · have hk1 : k = lb.length := by omega
        have e1 : lb.drop k = [] := by rw [hk1]; exact List.drop_length
        have e2 : ∃ x r, la.drop k = x :: r := ⟨_, _, List.drop_eq_getElem_cons (by omega)⟩
        obtain ⟨x, r, e2⟩ := e2
        rw [e1, e2] at hst
        have hT : T = 1 := hst.symm
        subst hT
        clear hst e1 e2
        have hge : lb.length ≤ k := by omega
        have q1 : ¬ la.length < lb.length := by omega
        clear hk1
        go_wp2
        all_goals go_ret
        all_goals exact ⟨rfl, _, rfl⟩
end Go.Proofs.Ytlajncjamafomaa
