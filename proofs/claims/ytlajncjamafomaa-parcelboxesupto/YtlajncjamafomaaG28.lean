/- Put. -/
import Derived.Test.YtlajncjamafomaaG27
namespace Go.Proofs.Ytlajncjamafomaa
open Go.RowKit Go.Maps
set_option linter.unusedVariables false
set_option maxRecDepth 100000

theorem pkR_lt (l : List UInt8) : (pkR l).1.1 < 18446744073709551616 ∧ (pkR l).1.2.1 < 18446744073709551616 ∧ (pkR l).1.2.2.1 < 18446744073709551616 ∧ (pkR l).1.2.2.2.1 < 18446744073709551616 ∧ ((pkR l).2 = 0 → (pkR l).1.2.2.2.1 < (pkR l).1.2.2.1) := by
  have z : ∀ e : Nat, e ≠ 0 → ((pk0, e) : Pc × Nat).1.1 < 18446744073709551616 ∧ ((pk0, e) : Pc × Nat).1.2.1 < 18446744073709551616 ∧ ((pk0, e) : Pc × Nat).1.2.2.1 < 18446744073709551616 ∧ ((pk0, e) : Pc × Nat).1.2.2.2.1 < 18446744073709551616 ∧ (((pk0, e) : Pc × Nat).2 = 0 → ((pk0, e) : Pc × Nat).1.2.2.2.1 < ((pk0, e) : Pc × Nat).1.2.2.1) := fun e he => ⟨Nat.zero_lt_succ _, Nat.zero_lt_succ _, Nat.zero_lt_succ _, Nat.zero_lt_succ _, fun q => absurd q he⟩
  unfold pkR
  split
  · rename_i h; exact z _ h
  · split
    · rename_i h; exact z _ h
    · split
      · exact z 12 (by decide)
      · unfold pkF
        split
        · exact z 12 (by decide)
        · split
          · split
            · exact z 12 (by decide)
            · rename_i h
              exact ⟨tv_lt _, tv_lt _, tv_lt _, tv_lt _, fun _ => by simp only []; omega⟩
          · exact z 12 (by decide)
/-- What Put makes of a box, and answers. -/
def bxPut (s n k : Nat) (ps : List (Nat × List UInt8)) (r : Pc × Nat) : (Nat × List (Nat × List UInt8)) × Nat :=
  if r.2 ≠ 0 then ((k, ps), r.2) else if blg s n k ps r.1.1 r.1.2.1 r.1.2.2.1 r.1.2.2.2.1 r.1.2.2.2.2 = true then ((r.1.2.2.1, putP ps r.1.2.2.2.1 r.1.2.2.2.2), 0) else ((k, ps), 140)
theorem blg_true {s n k : Nat} {ps : List (Nat × List UInt8)} {s' n' m i : Nat} {p : List UInt8} (h : blg s n k ps s' n' m i p = true) : s' = s ∧ n' = n ∧ p.length ≤ n ∧ (0 < k → m = k) ∧ (lkP ps i = none ∨ lkP ps i = some p) := by
  unfold blg at h
  split at h
  · cases h
  · rename_i c1
    split at h
    · cases h
    · rename_i c2
      split at h
      · cases h
      · rename_i c3
        have c1' : s' = s ∧ n' = n := by
          by_cases q : s' = s ∧ n' = n
          · exact q
          · exact absurd q c1
        refine ⟨c1'.1, c1'.2, by omega, fun hk => ?_, ?_⟩
        · by_cases q : m = k
          · exact q
          · exact absurd ⟨hk, q⟩ c3
        · cases hl : lkP ps i with
          | none => exact .inl rfl
          | some q =>
            rw [hl] at h
            exact .inr (by rw [of_decide_eq_true h])

section
variable {B C d : Nat} {s n k : Nat} {ps : List (Nat × List UInt8)} {w w' : World}
set_option maxHeartbeats 4000000 in
theorem put_anyT {T : Nat → Prop} (hT : BxT T B C d s n k ps w) {v : Value} {l : List UInt8} (hr : Rd w v l) (hl : l.length ≤ 1099511627776) (hN : ps.length < 2199023255552) :
    Calls Try.prog 19 #[.pointer (some ⟨d, 0, none⟩), v] w fun e w' => e = .returned (.int .i64 ((bxPut s n k ps (pkR l)).2 : Int)) ∧ BxT (fun b => T b ∨ w.heap.size ≤ b) B C d s n (bxPut s n k ps (pkR l)).1.1 (bxPut s n k ps (pkR l)).1.2 w' ∧ Chg (fun b => B ≤ b ∧ b < C) w w' := by
  have h := hT.bx
  have hTn : ∀ {W : World}, Below w.heap.size w W → BxT (fun b => T b ∨ w.heap.size ≤ b) B C d s n k ps W := fun hW => (hT.below hW (Nat.le_refl _)).mono (fun b _ q => .inl q)
  have HTN : Hid (∀ {W : World}, Below w.heap.size w W → BxT (fun b => T b ∨ w.heap.size ≤ b) B C d s n k ps W) := hTn
  clear hTn
  obtain ⟨l1, l2, l3, l4, l5⟩ := pkR_lt l
  have htk := takep_any hr hl
  unfold TkP at htk
  generalize hX : bxPut s n k ps (pkR l) = X
  unfold bxPut at hX
  generalize pkR l = r at *
  obtain ⟨⟨s', n', m', i', p'⟩, er⟩ := r
  simp only [] at *
  by_cases her : er ≠ 0
  · rw [if_pos her] at hX
    subst hX
    have hne : (((er : Nat) : Int) != 0) = true := by simp; omega
    go_enter Try.func19, Try.ntmps19
    go_wp2_with fail
    refine htk.mono ?_
    rintro e w1 ⟨u, rfl, ho, hb⟩
    obtain ⟨au, cu, rfl⟩ := ho.shape
    have hbz := hb.trans ((pk_al w1 (.cells #[.int .u64 (s' : Int), .int .u64 (n' : Int), .int .u64 (m' : Int), .int .u64 (i' : Int), .slice au p'.length cu] 69)).mono hb.size)
    go_wp2_with fail
    go_ret
    have hC : C ≤ w.heap.size := by obtain ⟨m, D, fv, h⟩ := h; exact h.cw
    exact ⟨rfl, HTN.out hbz, (Chg.of_below hbz).mono (fun b q1 q2 => absurd q1 (Nat.not_lt.2 q2))⟩
  · rw [if_neg her] at hX
    obtain rfl : er = 0 := by omega
    clear her
    have l5' := l5 rfl
    clear l5
    by_cases hbg : blg s n k ps s' n' m' i' p' = true
    · rw [if_pos hbg] at hX
      subst hX
      obtain ⟨rfl, rfl, e3, e4, e5⟩ := blg_true hbg
      have HE : Hid (p'.length ≤ n' ∧ (0 < k → m' = k) ∧ (lkP ps i' = none ∨ lkP ps i' = some p')) := ⟨e3, e4, e5⟩
      clear e3 e4 e5
      go_enter Try.func19, Try.ntmps19
      go_wp2_with fail
      refine htk.mono ?_
      rintro e w1 ⟨u, rfl, ho, hb⟩
      obtain ⟨au, cu, rfl⟩ := ho.shape
      have hz := pk_al w1 (.cells #[.int .u64 (s' : Int), .int .u64 (n' : Int), .int .u64 (m' : Int), .int .u64 (i' : Int), .slice au p'.length cu] 69)
      have hnw := pk_new w1 (.cells #[.int .u64 (s' : Int), .int .u64 (n' : Int), .int .u64 (m' : Int), .int .u64 (i' : Int), .slice au p'.length cu] 69)
      have hbz := hb.trans (hz.mono hb.size)
      have ho2 := ho.below hz (Nat.le_refl _)
      have hb1 := h.below hbz (Nat.le_refl _)
      have hbl := belongs_any hb1 l1 l2 l3 l4 ho2.rd
      rw [hbg] at hbl
      go_wp2_with fail
      refine hbl.mono ?_
      rintro e w2 ⟨rfl, hb2⟩
      have hb3 := hbz.trans (hb2.mono hbz.size)
      have ho3 := ho2.below hb2 (Nat.le_refl _)
      have hnw2 := (hb2.block w1.heap.size (by simp)).trans hnw
      obtain ⟨m, D, fv, h3, hq3⟩ := (hT.below hbz (Nat.le_refl _)).below hb2 (Nat.le_refl _)
      obtain ⟨w3, hst, hB3', hC3⟩ := (h3.below (Below.dN w2 1) (Nat.le_refl _)).storeI HE.out.2.2 l5' HE.out.2.1 l3 HE.out.1 ((ho3.below (Below.dN w2 1) (Nat.le_refl _)).mono (Nat.zero_le _)) hN
      have hB3 : BxT (fun b => T b ∨ w.heap.size ≤ b) B C d s' n' m' (putP ps i' p') w3 := by
        refine ⟨m, _, _, hB3', fun j l e b e2 => ?_⟩
        by_cases q : j = i'
        · simp only [q, if_true] at e2
          exact .inr (World.ownsRow.lt ho b e2).1
        · rw [if_neg q] at e2
          have e' : lkP ps j = some l := by
            unfold putP at e
            cases hlk : lkP ps i' with
            | none =>
              rw [hlk] at e
              simp only [Option.isSome_none, Bool.false_eq_true, if_false] at e
              rw [lkP_ins p' hlk j, if_neg q] at e
              exact e
            | some x =>
              rw [hlk] at e
              simp only [Option.isSome_some, if_true] at e
              exact e
          exact .inl (hq3 j l e' b e2)
      obtain ⟨x0, x1, x2, x3, xz⟩ := h3.cells
      have xz2 := xz 2
      obtain ⟨y0, y1, y2, y3, y4, yz⟩ := cells5 hnw2
      have hnd : w1.heap.size ≠ d := by
        have := h3.hi
        have := h3.cw
        have h0 : C ≤ w.heap.size := by obtain ⟨m, D, fv, h⟩ := h; exact h.cw
        have := hb.size
        omega
      have hnd' : d ≠ w1.heap.size := fun e => hnd e.symm
      replace hst : (Instr.mapUpdate 74 (.map (some m)) (.int .u64 (i' : Int)) (.slice au p'.length cu)).run Try.prog ((w2.setCell ⟨d, 2, none⟩ (.int .u64 (m' : Int))).drew) = .ok () w3 := hst
      have HF : Hid _ := And.intro hB3 (And.intro hC3 hb3)
      clear hB3 hB3' hC3 hb3 h3 hq3 hb1 hb2 ho3 hnw2 htk ho ho2 hbl hnw
      go_wp2_with fail
      go_region
      go_wp2_with fail
      go_ret
      obtain ⟨q1, q2, q3⟩ := HF.out
      exact ⟨rfl, q1, ((Chg.of_below q3).mono (fun b q1 q2 => absurd q1 (Nat.not_lt.2 q2))).trans (((Chg.of_below (Below.dN w2 1)).mono (fun b q1 q2 => absurd q1 (Nat.not_lt.2 q2))).trans (q2.mono (fun b _ q => .inl (.inl q))))⟩
    · rw [if_neg hbg] at hX
      subst hX
      have hbg' : blg s n k ps s' n' m' i' p' = false := by simpa using hbg
      go_enter Try.func19, Try.ntmps19
      go_wp2_with fail
      refine htk.mono ?_
      rintro e w1 ⟨u, rfl, ho, hb⟩
      obtain ⟨au, cu, rfl⟩ := ho.shape
      have hz := pk_al w1 (.cells #[.int .u64 (s' : Int), .int .u64 (n' : Int), .int .u64 (m' : Int), .int .u64 (i' : Int), .slice au p'.length cu] 69)
      have hbz := hb.trans (hz.mono hb.size)
      have ho2 := ho.below hz (Nat.le_refl _)
      have hb1 := h.below hbz (Nat.le_refl _)
      have hbl := belongs_any hb1 l1 l2 l3 l4 ho2.rd
      rw [hbg'] at hbl
      go_wp2_with fail
      refine hbl.mono ?_
      rintro e w2 ⟨rfl, hb2⟩
      have hb3 := hbz.trans (hb2.mono hbz.size)
      go_wp2_with fail
      go_ret
      exact ⟨rfl, HTN.out hb3, (Chg.of_below hb3).mono (fun b q1 q2 => absurd q1 (Nat.not_lt.2 q2))⟩
theorem put_any (h : Bx B C d s n k ps w) {v : Value} {l : List UInt8} (hr : Rd w v l) (hl : l.length ≤ 1099511627776) (hN : ps.length < 2199023255552) :
    Calls Try.prog 19 #[.pointer (some ⟨d, 0, none⟩), v] w fun e w' => e = .returned (.int .i64 ((bxPut s n k ps (pkR l)).2 : Int)) ∧ Bx B C d s n (bxPut s n k ps (pkR l)).1.1 (bxPut s n k ps (pkR l)).1.2 w' ∧ Chg (fun b => B ≤ b ∧ b < C) w w' := by
  refine (put_anyT h.any hr hl hN).mono ?_
  rintro e w' ⟨h1, h2, h3⟩
  exact ⟨h1, h2.bx, h3⟩
end
end Go.Proofs.Ytlajncjamafomaa
