/- A net whose messages are counted, with the list of the numbers that were given. -/
import Derived.Test.YtpieehbikmmifaaG2
namespace Go.Proofs.Ytpieehbikmmifaa
open Go.RowKit Go.Maps
set_option linter.unusedVariables false
set_option maxRecDepth 100000

/-- The numbers from 1 on. -/
def numsL (n : Nat) : List Int := (List.range n).map (fun (i : Nat) => ((i + 1 : Nat) : Int))
theorem numsL_len (n : Nat) : (numsL n).length = n := by simp [numsL]
theorem numsL_mem (n : Nat) (z : Int) : z ∈ numsL n ↔ 1 ≤ z ∧ z ≤ (n : Int) := by
  unfold numsL
  rw [List.mem_map]
  constructor
  · rintro ⟨i, hi, rfl⟩
    have := List.mem_range.1 hi
    omega
  · rintro ⟨h1, h2⟩
    exact ⟨(z - 1).toNat, List.mem_range.2 (by omega), by omega⟩
theorem numsL_succ (n : Nat) : (numsL (n + 1)).map (Value.int .i64 ·) = (numsL n).map (Value.int .i64 ·) ++ [.int .i64 ((n + 1 : Nat) : Int)] := by simp [numsL, List.range_succ]

structure OnI (B x last n o : Nat) (S : Nat → Prop) (M : List Pk) (C : Ct) (ids : Value) (w : World) : Prop where
  nt : Nt B x 4 last n S M C w
  inv : InvM 4 last M
  sum : o + M.length ≤ last
  row : w.ownsRow B 3 1 ids (numsL last).length ((numsL last).map (Value.int .i64 ·))
  ap : ∀ b, ids.ownBlock = some b → ¬ S b
section
variable {B x last n o : Nat} {S : Nat → Prop} {M : List Pk} {C : Ct} {ids : Value} {w w' : World}
theorem OnI.below (h : OnI B x last n o S M C ids w) (hb : Below w.heap.size w w') : OnI B x last n o S M C ids w' :=
  ⟨h.nt.below hb, h.inv, h.sum, ownsRow_keptC h.row (Chg.of_below hb) (fun b e q => by have := World.ownsRow.lt h.row b e; omega), h.ap⟩
theorem OnI.turn (h : OnI B x last n o S M C ids w) {n' o' : Nat} {M' : List Pk} {C' : Ct} (hN : Nt B x 4 last n' S M' C' w') (hc : Chg S w w') (hI : InvM 4 last M') (hs : o' + M'.length ≤ last) : OnI B x last n' o' S M' C' ids w' :=
  ⟨hN, hI, hs, ownsRow_keptC h.row hc (fun b e => h.ap b e), h.ap⟩
theorem OnI.has (h : OnI B x last n o S M C ids w) (z : Int) : Calls Try.prog 16 #[ids, .int .i64 z] w fun e w' => e = .returned (.bool (decide (1 ≤ z ∧ z ≤ (last : Int)))) ∧ w' = w := by
  refine (has_any (RdZ.of_row h.row) z).mono ?_
  rintro e w1 ⟨rfl, rfl⟩
  exact ⟨by rw [decide_eq_decide.2 (numsL_mem last z)], rfl⟩
theorem OnI.kept (h : OnI B x last n o S M C ids w) {S' : Nat → Prop} {w1 : World} (hS' : ∀ b, S' b → S b ∨ w.heap.size ≤ b) (hc : Chg S w w1) : w1.ownsRow B 3 1 ids (numsL last).length ((numsL last).map (Value.int .i64 ·)) ∧ ∀ b, ids.ownBlock = some b → ¬ S' b :=
  ⟨ownsRow_keptC h.row hc (fun b e => h.ap b e), fun b e q => by
    rcases hS' b q with q | q
    · exact h.ap b e q
    · have := World.ownsRow.lt h.row b e; omega⟩
/-- A message has come, and its number is in the list. -/
theorem OnI.sent (h : OnI B x last n o S M C ids w) {L1 : Nat} (hL : last + 1 = L1) {S' : Nat → Prop} {M' : List Pk} {w1 w2 w3 : World} {ids' : Value} (hN : Nt B x 4 L1 n S' M' C w1) (hI : InvM 4 L1 M') (hlen : M'.length = M.length + 1) (hap : ∀ b, ids.ownBlock = some b → ¬ S' b)
    (hb : Below w1.heap.size w1 w2) (hr : w3.ownsRow B 3 1 ids' ((numsL last).length + 1) ((numsL last).map (Value.int .i64 ·) ++ [.int .i64 (L1 : Int)])) (hg : w2.grownBy w3 ids.ownBlock) (hv : ids'.ownBlock = ids.ownBlock ∨ ids'.ownBlock = some w2.heap.size) : OnI B x L1 n o S' M' C ids' w3 := by
  subst hL
  have hN2 := hN.below hb
  refine ⟨hN2.next (Chg.of_grown (S := fun b => ids.ownBlock = some b) hg (fun b e _ => e)) (fun b q e => hap b e q), hI, by have := h.sum; omega, ?_, fun b e q => ?_⟩
  · rw [numsL_succ, numsL_len]
    rw [numsL_len] at hr
    exact hr
  · rcases hv with q2 | q2
    · exact hap b (by rw [← q2]; exact e) q
    · rw [q2] at e
      have e := Option.some.inj e
      have := (hN2.lt b q).2
      omega
end
end Go.Proofs.Ytpieehbikmmifaa

/- Proved here: NetOnce answers true for every list of steps, where what is read is of bulk at most 1048576: no more messages come out than were sent and copied, each as it was sent, no number twice; what is full takes no more. -/
namespace Go.Proofs.Ytpieehbikmmifaa
open Go.ChangeShapes Go.WideShapes Go.ChangeAt Go.RowKit
set_option linter.unusedVariables false
set_option maxRecDepth 100000

theorem isAct_nat {A : Nat} {a : Int} (h : isAct A a = true) : ∃ a' : Nat, a = (a' : Int) ∧ 1 ≤ a' ∧ a' ≤ A := by
  have := of_decide_eq_true h
  exact ⟨a.toNat, by omega, by omega, by omega⟩

set_option maxHeartbeats 4000000 in
theorem once_walk {v : Value} {xs : List NV} {w : World} (hS : NSteps w v xs) (hl : xs.length ≤ 1048576) (hd : ∀ x ∈ xs, x.data.length ≤ 1048576) :
    Calls Try.prog 4 #[v] w fun e w' => e = .returned (.bool true) ∧ Below w.heap.size w w' := by
  obtain ⟨ao, c, rfl, h1, h2, h4⟩ := hS
  unfold maxLen at h2
  go_enter Try.func4, Try.ntmps4
  go_wp2_with fail
  refine (nawake_any _).mono ?_
  rintro e w0 ⟨rfl, hb0⟩
  have hB0 : w.heap.size ≤ w0.heap.size := hb0.size
  go_wp2_with fail
  refine (netNew_ok 4 (by omega) (by omega) w0).mono ?_
  rintro e w1 ⟨x, rfl, hN1, hb1⟩
  have hO1 : OnI w0.heap.size x 0 0 0 _ [] noC (.slice none 0 0) w1 := ⟨hN1, InvM.nil 4 0, by simp, World.ownsRow_nil _ _ _ _, (fun b e => by cases e)⟩
  clear hN1
  go_wp2_with fail
  go_loopw [5, 6, 7, 8] (fun inv ov idv i wr => ∃ (k last n o : Nat) (S : Nat → Prop) (M : List Pk) (C : Ct), k ≤ xs.length ∧ last ≤ k ∧ n ≤ k ∧ inv = .int .i64 last ∧ ov = .int .i64 o ∧ i = .int .i64 k ∧ OnI w0.heap.size x last n o S M C idv wr ∧ Below w0.heap.size w0 wr) (fun _ _ _ i _ => xs.length - (intOf i).toNat)
  case atStart => exact ⟨0, 0, 0, 0, _, _, _, by omega, by omega, by omega, rfl, rfl, rfl, hO1, hb1⟩
  case round =>
    obtain ⟨k, last, n, o, S, M, C, hk, hlk, hnk, rfl, rfl, rfl, hO, hb⟩ := hrel
    clear hO1 hb1
    have hsum := hO.sum
    have hlen := hO.inv.len
    by_cases hlt : k < xs.length
    · obtain ⟨a, rfl, hst⟩ := h4 k hlt
      have hdk := hd xs[k] (List.getElem_mem hlt)
      have hst0 := hst.below hb0
      have hstr := hst0.below hb
      have hrd0 := hst0.rd
      generalize xs[k] = s at *
      obtain ⟨g0, g1, g2, g3, _, la, lb⟩ := hstr
      obtain ⟨act, sa, sb, data, ad, cd⟩ := s
      simp only [] at *
      clear h4 hst hst0
      replace g0 : wr.cell? (a.add (k * 4)) = some (.int .i64 act) := g0
      replace g1 : wr.cell? ⟨(a.add (k * 4)).block, (a.add (k * 4)).off + 1, none⟩ = some (.int .i64 sa) := g1
      replace g2 : wr.cell? ⟨(a.add (k * 4)).block, (a.add (k * 4)).off + 2, none⟩ = some (.int .i64 sb) := g2
      replace g3 : wr.cell? ⟨(a.add (k * 4)).block, (a.add (k * 4)).off + 3, none⟩ = some (.slice ad data.length cd) := g3
      have hal : Below wr.heap.size wr (wr.alloc (.cells #[.int .i64 act, .int .i64 sa, .int .i64 sb, .slice ad data.length cd] 35)) := Below.al wr _
      have z0 : (wr.alloc (.cells #[.int .i64 act, .int .i64 sa, .int .i64 sb, .slice ad data.length cd] 35)).cell? ⟨wr.heap.size, 0, none⟩ = some (.int .i64 act) := by rw [box_at]; rfl
      have z1 : (wr.alloc (.cells #[.int .i64 act, .int .i64 sa, .int .i64 sb, .slice ad data.length cd] 35)).cell? ⟨wr.heap.size, 1, none⟩ = some (.int .i64 sa) := by rw [box_at]; rfl
      have z2 : (wr.alloc (.cells #[.int .i64 act, .int .i64 sa, .int .i64 sb, .slice ad data.length cd] 35)).cell? ⟨wr.heap.size, 2, none⟩ = some (.int .i64 sb) := by rw [box_at]; rfl
      have z3 : (wr.alloc (.cells #[.int .i64 act, .int .i64 sa, .int .i64 sb, .slice ad data.length cd] 35)).cell? ⟨wr.heap.size, 3, none⟩ = some (.slice ad data.length cd) := by rw [box_at]; rfl
      have hFb : wr.heap.size < (wr.alloc (.cells #[.int .i64 act, .int .i64 sa, .int .i64 sb, .slice ad data.length cd] 35)).heap.size := by simp
      go_wp2_with fail
      generalize wr.alloc (.cells #[.int .i64 act, .int .i64 sa, .int .i64 sb, .slice ad data.length cd] 35) = wb at *
      refine (pend_len (hO.nt.below hal) hO.inv).mono ?_
      rintro e w2 ⟨pa, pc, rfl, p1, p2, hb2⟩
      unfold maxLen at p2
      have hFS : ¬ S wr.heap.size := fun q => by have := (hO.nt.lt _ q).2; omega
      have hO2 := hO.below (Below.tr hal hb2)
      have hB2 : Below w0.heap.size w0 w2 := hb.trans ((Below.tr hal hb2).mono hO.nt.leB)
      have hF2 : wr.heap.size < w2.heap.size := Nat.lt_of_lt_of_le hFb hb2.size
      replace z0 := (hb2.cell hFb).trans z0
      replace z1 := (hb2.cell hFb).trans z1
      replace z2 := (hb2.cell hFb).trans z2
      replace z3 := (hb2.cell hFb).trans z3
      have hrd2 := hrd0.below hB2 (Nat.le_refl _)
      clear hal hb2 hO hb g0 g1 g2 g3 hFb hrd0 hd
      generalize wr.heap.size = F at *
      clear wb
      have hinv := hO2.inv
      by_cases a0 : act = 0
      · subst a0
        cases hab : (isAct 4 sa && isAct 4 sb) with
        | false =>
          go_wp2_with fail
          refine (send_no hO2.nt sa sb _ hab).mono ?_
          rintro e w3 ⟨rfl, rfl⟩
          go_wp2_with fail
          exact ⟨⟨k + 1, last, n, o, S, M, C, by omega, by omega, by omega, rfl, rfl, by go_num, hO2, hB2⟩, by simp [intOf]; omega⟩
        | true =>
          by_cases hf : 256 ≤ M.length
          · have hfd : decide ((M.length : Int) < 256) = false := decide_eq_false (by omega)
            go_wp2_with fail
            refine (send_full hO2.nt sa sb _ hab hf).mono ?_
            rintro e w3 ⟨rfl, rfl⟩
            go_wp2_with fail
            exact ⟨⟨k + 1, last, n, o, S, M, C, by omega, by omega, by omega, rfl, rfl, by go_num, hO2, hB2⟩, by simp [intOf]; omega⟩
          · have hfd : decide ((256 : Int) ≤ (M.length : Int)) = false := decide_eq_false (by omega)
            obtain ⟨hact1, hact2⟩ := Bool.and_eq_true _ _ ▸ hab
            obtain ⟨a', rfl, a1, a2⟩ := isAct_nat hact1
            obtain ⟨b', rfl, b1, b2⟩ := isAct_nat hact2
            have hs := send_ok hO2.nt a' b' hab (by omega) (by omega) hrd2 (by omega)
            have hI3 := hinv.put (by omega) a' b' ⟨a1, a2⟩ ⟨b1, b2⟩ data hdk
            have hl3 : (M ++ [(last + 1, a', b', data)]).length = M.length + 1 := by simp
            generalize M ++ [(last + 1, a', b', data)] = M' at *
            obtain ⟨L1, hL1⟩ : ∃ L1, last + 1 = L1 := ⟨_, rfl⟩
            rw [hL1] at hs hI3
            have hls : (last : Int) + 1 = (L1 : Int) := by omega
            have hrg : (last : Int) ≤ 9223372036854775806 := by omega
            have hnot : decide (1 ≤ (L1 : Int) ∧ (L1 : Int) ≤ (last : Int)) = false := decide_eq_false (by omega)
            have HL : Hid _ := And.intro hL1 hl3
            clear hL1 hl3 hact1 hact2 hab a1 a2 b1 b2
            go_wp2_with fail
            refine hs.mono ?_
            rintro e w3 ⟨rfl, ⟨S', hN3, hS'⟩, hc3⟩
            obtain ⟨hrow3, hap3⟩ := hO2.kept hS' hc3
            have hz3 := hc3.size
            go_wp2_with fail
            refine (has_any (RdZ.of_row hrow3) (L1 : Int)).mono ?_
            rintro e w4 ⟨rfl, rfl⟩
            rw [decide_eq_decide.2 (numsL_mem last (L1 : Int)), hnot]
            have hB3 : w0.heap.size ≤ w4.heap.size := Nat.le_trans hB2.size hz3
            go_wp2_with (first
              | (at_builtin; refine wpList_app1 rfl _ _ 38 rfl w0.heap.size 3 (.int .i64 0) 8 Try.underlying38 (by kernel_rfl) rfl _ _ _ rfl (World.ownsRow.alloc hrow3 _) ⟨w4.heap.size, 0, none⟩ 1 (.int .i64 (L1 : Int)) rfl (by rw [box_at]; rfl) rfl (by rw [numsL_len]; unfold maxLen; omega) (by rw [numsL_len]; omega) (by simp; omega) ?_; intro v5 w5 ho5 hg5 hv5; obtain ⟨a5, n5, c5, rfl⟩ := rowP_shape ho5)
              | fail)
            have hO5 := hO2.sent HL.out.1 hN3 hI3 HL.out.2 hap3 (Below.al w4 _) ho5 hg5 hv5
            have hB5 : Below w0.heap.size w0 w5 := (hB2.trans (hO2.nt.chg hc3)).trans (((Below.al w4 (.cells #[.int .i64 (L1 : Int)] 3)).mono hB3).trans ((Chg.of_grown (S := fun b => w0.heap.size ≤ b) hg5 (fun b e _ => (World.ownsRow.lt hrow3 b e).1)).below (fun b q => q) (by simp; omega)))
            have hL1 := HL.out.1
            exact ⟨⟨k + 1, L1, n, o, S', M', C, by omega, by omega, by omega, rfl, rfl, by go_num, hO5, hB5⟩, by simp [intOf]; omega⟩
      · have na0 : (act == 0) = false := by simpa using a0
        by_cases a3 : act = 3
        · subst a3
          cases hno : isN M sa with
          | false =>
            go_wp2_with fail
            refine (copy_no hO2.nt hinv.rise (by omega) sa hno).mono ?_
            rintro e w3 ⟨rfl, hb3⟩
            go_wp2_with fail
            exact ⟨⟨k + 1, last, n, o, S, M, C, by omega, by omega, by omega, rfl, rfl, by go_num, hO2.below hb3, hB2.trans (hb3.mono hB2.size)⟩, by simp [intOf]; omega⟩
          | true =>
            by_cases hf : 256 ≤ M.length
            · have hfd : decide ((M.length : Int) < 256) = false := decide_eq_false (by omega)
              go_wp2_with fail
              refine (copy_full hO2.nt hinv.rise (by omega) sa hno hf).mono ?_
              rintro e w3 ⟨rfl, hb3⟩
              go_wp2_with fail
              exact ⟨⟨k + 1, last, n, o, S, M, C, by omega, by omega, by omega, rfl, rfl, by go_num, hO2.below hb3, hB2.trans (hb3.mono hB2.size)⟩, by simp [intOf]; omega⟩
            · have hfd : decide ((256 : Int) ≤ (M.length : Int)) = false := decide_eq_false (by omega)
              obtain ⟨p, hp, hid⟩ := isN_at hno
              have hmem := List.mem_of_getElem? hp
              have hs := copy_ok hO2.nt hinv.rise (by omega) sa (by omega) hp hid hno
              have hI3 := hinv.put (by omega) p.2.1 p.2.2.1 (hinv.act p hmem).1 (hinv.act p hmem).2 p.2.2.2 (hinv.small p hmem)
              have hl3 : (M ++ [(last + 1, p.2.1, p.2.2.1, p.2.2.2)]).length = M.length + 1 := by simp
              generalize M ++ [(last + 1, p.2.1, p.2.2.1, p.2.2.2)] = M' at *
              obtain ⟨L1, hL1⟩ : ∃ L1, last + 1 = L1 := ⟨_, rfl⟩
              rw [hL1] at hs hI3
              have hls : (last : Int) + 1 = (L1 : Int) := by omega
              have hrg : (last : Int) ≤ 9223372036854775806 := by omega
              have hnot : decide (1 ≤ (L1 : Int) ∧ (L1 : Int) ≤ (last : Int)) = false := decide_eq_false (by omega)
              have HL : Hid _ := And.intro hL1 hl3
              clear hL1 hl3 hid hp hno hmem
              go_wp2_with fail
              refine hs.mono ?_
              rintro e w3 ⟨rfl, ⟨S', hN3, hS'⟩, hc3⟩
              obtain ⟨hrow3, hap3⟩ := hO2.kept hS' hc3
              have hz3 := hc3.size
              go_wp2_with fail
              refine (has_any (RdZ.of_row hrow3) (L1 : Int)).mono ?_
              rintro e w4 ⟨rfl, rfl⟩
              rw [decide_eq_decide.2 (numsL_mem last (L1 : Int)), hnot]
              have hB3 : w0.heap.size ≤ w4.heap.size := Nat.le_trans hB2.size hz3
              go_wp2_with (first
                | (at_builtin; refine wpList_app1 rfl _ _ 38 rfl w0.heap.size 3 (.int .i64 0) 8 Try.underlying38 (by kernel_rfl) rfl _ _ _ rfl (World.ownsRow.alloc hrow3 _) ⟨w4.heap.size, 0, none⟩ 1 (.int .i64 (L1 : Int)) rfl (by rw [box_at]; rfl) rfl (by rw [numsL_len]; unfold maxLen; omega) (by rw [numsL_len]; omega) (by simp; omega) ?_; intro v5 w5 ho5 hg5 hv5; obtain ⟨a5, n5, c5, rfl⟩ := rowP_shape ho5)
                | fail)
              have hO5 := hO2.sent HL.out.1 hN3 hI3 HL.out.2 hap3 (Below.al w4 _) ho5 hg5 hv5
              have hB5 : Below w0.heap.size w0 w5 := (hB2.trans (hO2.nt.chg hc3)).trans (((Below.al w4 (.cells #[.int .i64 (L1 : Int)] 3)).mono hB3).trans ((Chg.of_grown (S := fun b => w0.heap.size ≤ b) hg5 (fun b e _ => (World.ownsRow.lt hrow3 b e).1)).below (fun b q => q) (by simp; omega)))
              have hL1 := HL.out.1
              exact ⟨⟨k + 1, L1, n, o, S', M', C, by omega, by omega, by omega, rfl, rfl, by go_num, hO5, hB5⟩, by simp [intOf]; omega⟩
        · have na3 : (act == 3) = false := by simpa using a3
          by_cases a1 : act = 1
          · subst a1
            cases hno : isN M sa with
            | false =>
              go_wp2_with fail
              refine (deliver_no hO2.nt hinv.rise (by omega) sa hno).mono ?_
              rintro e w3 ⟨rfl, hb3⟩
              have hO3 := hO2.below hb3
              have hB3 := hB2.trans (hb3.mono hB2.size)
              replace z1 := (hb3.cell hF2).trans z1
              replace hF2 := Nat.lt_of_lt_of_le hF2 hb3.size
              have hFn : F ≠ w3.heap.size := by omega
              go_wp2_with fail
              refine (deliver_no (hO3.nt.below (Below.al w3 _)) hinv.rise (by omega) sa hno).mono ?_
              rintro e w4 ⟨rfl, hb4⟩
              have hb34 := Below.tr (Below.al w3 _) hb4
              have hO4 := hO3.below hb34
              have hB4 := hB3.trans (hb34.mono hB3.size)
              go_wp2_with fail
              exact ⟨⟨k + 1, last, n, o, S, M, C, by omega, by omega, by omega, rfl, rfl, by go_num, hO4.below (Below.al w4 _), hB4.trans ((Below.al w4 _).mono hB4.size)⟩, by simp [intOf]; omega⟩
            | true =>
              obtain ⟨p, hp, hid⟩ := isN_at hno
              have hmem := List.mem_of_getElem? hp
              obtain ⟨⟨f1, f2⟩, t1, t2⟩ := hinv.act p hmem
              have hple := hinv.le p hmem
              have hsm := hinv.small p hmem
              have hkl := (List.getElem?_eq_some_iff.1 hp).1
              have hg := isN_gone hinv.rise sa hno
              have hI' := hinv.drop (plN M sa)
              have hl' := dropM_len M (plN M sa) hkl
              cases hCt : C (min (p.2.1 : Int) (p.2.2.1 : Int)) (max (p.2.1 : Int) (p.2.2.1 : Int)) with
              | true =>
                have hdv := deliver_cut hO2.nt hinv.rise (by omega) sa hno hp (by omega) hCt
                generalize dropM M (plN M sa) = M' at *
                clear hid hp hno hmem hCt
                go_wp2_with fail
                refine hdv.mono ?_
                rintro e w3 ⟨rfl, hN3, hc3⟩
                have hO3 := hO2.turn (o' := o) hN3 hc3 hI' (by omega)
                have hB3 := hB2.trans (hO2.nt.chg hc3)
                replace z1 := box_cell hc3 hFS hF2 z1
                replace hF2 := Nat.lt_of_lt_of_le hF2 hc3.size
                have hFn : F ≠ w3.heap.size := by omega
                go_wp2_with fail
                refine (deliver_no (hO3.nt.below (Below.al w3 _)) hI'.rise (by omega) sa hg).mono ?_
                rintro e w4 ⟨rfl, hb4⟩
                have hb34 := Below.tr (Below.al w3 _) hb4
                have hO4 := hO3.below hb34
                have hB4 := hB3.trans (hb34.mono hB3.size)
                go_wp2_with fail
                exact ⟨⟨k + 1, last, n, o, S, M', C, by omega, by omega, by omega, rfl, rfl, by go_num, hO4.below (Below.al w4 _), hB4.trans ((Below.al w4 _).mono hB4.size)⟩, by simp [intOf]; omega⟩
              | false =>
                have hdv := deliver_ok hO2.nt hinv.rise (by omega) sa hno hp (by omega) (by omega) hCt
                generalize dropM M (plN M sa) = M' at *
                obtain ⟨id0, fr, to_, da⟩ := p
                simp only [] at *
                subst hid
                clear hp hno hmem
                have hyes : decide (1 ≤ (id0 : Int) ∧ (id0 : Int) ≤ (last : Int)) = true := decide_eq_true (by omega)
                have hos : (o : Int) ≤ 9223372036854775806 := by omega
                go_wp2_with fail
                refine hdv.mono ?_
                rintro e w3 ⟨v3, rfl, ho3, hN3, hc3⟩
                obtain ⟨a3, n3, c3, rfl⟩ := rowP_shape ho3
                have hO3 := hO2.turn (o' := o + 1) hN3 hc3 hI' (by omega)
                have hB3 := hB2.trans (hO2.nt.chg hc3)
                replace z1 := box_cell hc3 hFS hF2 z1
                replace hF2 := Nat.lt_of_lt_of_le hF2 hc3.size
                have hFn : F ≠ w3.heap.size := by omega
                have hcut := isCut_any (hO3.nt.below (Below.al w3 (.cells #[.int .i64 (id0 : Int), .int .i64 (fr : Int), .int .i64 (to_ : Int), .slice a3 n3 c3] 46))) (fr : Int) (to_ : Int) (by unfold I64; omega) (by unfold I64; omega)
                rw [hCt] at hcut
                have hF3 : F < (w3.alloc (.cells #[.int .i64 (id0 : Int), .int .i64 (fr : Int), .int .i64 (to_ : Int), .slice a3 n3 c3] 46)).heap.size := by simp; omega
                have z1a : (w3.alloc (.cells #[.int .i64 (id0 : Int), .int .i64 (fr : Int), .int .i64 (to_ : Int), .slice a3 n3 c3] 46)).cell? ⟨F, 1, none⟩ = some (.int .i64 (id0 : Int)) := ((Below.al w3 _).cell hF2).trans z1
                go_wp2_with fail
                refine ((hO3.below (Below.al w3 _)).has (id0 : Int)).mono ?_
                rintro e w4 ⟨rfl, rfl⟩
                rw [hyes]
                go_wp2_with fail
                refine hcut.mono ?_
                rintro e w5 ⟨rfl, hb5⟩
                have z1b := (hb5.cell hF3).trans z1a
                have hb35 := Below.tr (Below.al w3 _) hb5
                have hO5 := hO3.below hb35
                have hB5 := hB3.trans (hb35.mono hB3.size)
                go_wp2_with fail
                refine (deliver_no hO5.nt hI'.rise (by omega) (id0 : Int) hg).mono ?_
                rintro e w6 ⟨rfl, hb6⟩
                have hO6 := hO5.below hb6
                have hB6 := hB5.trans (hb6.mono hB5.size)
                go_wp2_with fail
                exact ⟨⟨k + 1, last, n, o + 1, S, M', C, by omega, by omega, by omega, rfl, by go_num, by go_num, hO6.below (Below.al w6 _), hB6.trans ((Below.al w6 _).mono hB6.size)⟩, by simp [intOf]; omega⟩
          · have na1 : (act == 1) = false := by simpa using a1
            by_cases a2 : act = 2
            · subst a2
              cases hno : isN M sa with
              | false =>
                go_wp2_with fail
                refine (drop_no hO2.nt hinv.rise (by omega) sa hno).mono ?_
                rintro e w3 ⟨rfl, hb3⟩
                go_wp2_with fail
                exact ⟨⟨k + 1, last, n, o, S, M, C, by omega, by omega, by omega, rfl, rfl, by go_num, hO2.below hb3, hB2.trans (hb3.mono hB2.size)⟩, by simp [intOf]; omega⟩
              | true =>
                obtain ⟨p, hp, hid⟩ := isN_at hno
                have hkl := (List.getElem?_eq_some_iff.1 hp).1
                have hI' := hinv.drop (plN M sa)
                have hl' := dropM_len M (plN M sa) hkl
                have hdv := drop_ok hO2.nt hinv.rise (by omega) sa hno
                generalize dropM M (plN M sa) = M' at *
                clear hid hp hno
                have hos : (o : Int) ≤ 9223372036854775806 := by omega
                go_wp2_with fail
                refine hdv.mono ?_
                rintro e w3 ⟨rfl, hN3, hc3⟩
                have hO3 := hO2.turn (o' := o + 1) hN3 hc3 hI' (by omega)
                have hB3 := hB2.trans (hO2.nt.chg hc3)
                go_wp2_with fail
                exact ⟨⟨k + 1, last, n, o + 1, S, M', C, by omega, by omega, by omega, rfl, by go_num, by go_num, hO3, hB3⟩, by simp [intOf]; omega⟩
            · have na2 : (act == 2) = false := by simpa using a2
              by_cases a4 : act = 4
              · subst a4
                cases hp : isPr 4 sa sb with
                | false =>
                  go_wp2_with fail
                  refine (cut_no hO2.nt sa sb hp).mono ?_
                  rintro e w3 ⟨rfl, rfl⟩
                  go_wp2_with fail
                  exact ⟨⟨k + 1, last, n, o, S, M, C, by omega, by omega, by omega, rfl, rfl, by go_num, hO2, hB2⟩, by simp [intOf]; omega⟩
                | true =>
                  go_wp2_with fail
                  refine (cut_ok hO2.nt (by omega) sa sb la lb hp).mono ?_
                  rintro e w3 ⟨rfl, hN3, hc3⟩
                  go_wp2_with fail
                  exact ⟨⟨k + 1, last, n + 1, o, S, M, _, by omega, by omega, by omega, rfl, rfl, by go_num, hO2.turn hN3 hc3 hinv hsum, hB2.trans (hO2.nt.chg hc3)⟩, by simp [intOf]; omega⟩
              · have na4 : (act == 4) = false := by simpa using a4
                by_cases a5 : act = 5
                · subst a5
                  cases hp : isPr 4 sa sb with
                  | false =>
                    go_wp2_with fail
                    refine (join_no hO2.nt sa sb hp).mono ?_
                    rintro e w3 ⟨rfl, rfl⟩
                    go_wp2_with fail
                    exact ⟨⟨k + 1, last, n, o, S, M, C, by omega, by omega, by omega, rfl, rfl, by go_num, hO2, hB2⟩, by simp [intOf]; omega⟩
                  | true =>
                    go_wp2_with fail
                    refine (join_ok hO2.nt sa sb la lb hp).mono ?_
                    rintro e w3 ⟨rfl, hN3, hc3⟩
                    go_wp2_with fail
                    exact ⟨⟨k + 1, last, n, o, S, M, _, by omega, by omega, by omega, rfl, rfl, by go_num, hO2.turn hN3 hc3 hinv hsum, hB2.trans (hO2.nt.chg hc3)⟩, by simp [intOf]; omega⟩
                · have na5 : (act == 5) = false := by simpa using a5
                  go_wp2_with fail
                  exact ⟨⟨k + 1, last, n, o, S, M, C, by omega, by omega, by omega, rfl, rfl, by go_num, hO2, hB2⟩, by simp [intOf]; omega⟩
    · have e1 : (o : Int) + (M.length : Int) ≤ (last : Int) := by omega
      have e2 : (M.length : Int) ≤ 256 := by omega
      have hinv := hO.inv
      go_wp2_with fail
      refine (pend_len hO.nt hinv).mono ?_
      rintro e w2 ⟨pa, pc, rfl, p1, p2, hb2⟩
      unfold maxLen at p2
      have hO2 := hO.below hb2
      have hB2 := hb.trans (hb2.mono hb.size)
      go_wp2_with fail
      refine (pend_len hO2.nt hinv).mono ?_
      rintro e w3 ⟨pa3, pc3, rfl, q1, q2, hb3⟩
      unfold maxLen at q2
      go_wp2_with fail
      go_ret
      exact ⟨by simp, hb0.trans ((hB2.trans (hb3.mono hB2.size)).mono hB0)⟩
end Go.Proofs.Ytpieehbikmmifaa
