/- joined, all and Done. -/
import Derived.Test.YtlajncjamafomaaG25
import Derived.Test.YtlajncjamafomaaG18
namespace Go.Proofs.Ytlajncjamafomaa
open Go.RowKit Go.Maps
set_option linter.unusedVariables false
set_option maxRecDepth 100000

/-- What Done tells: the bytes, if they are there. -/
def bxDone (s n k : Nat) (ps : List (Nat × List UInt8)) : Option (List UInt8) :=
  if 0 < k ∧ ps.length = k ∧ sumP ps = n ∧ M.crc (jnP ps) = s then some (jnP ps) else none

section
variable {B C d : Nat} {s n k : Nat} {ps : List (Nat × List UInt8)} {w w' : World}
set_option maxHeartbeats 2000000 in
theorem joined_any (h : Bx B C d s n k ps w) (hf : ps.length = k) (hs : sumP ps ≤ 1048576) (hN : ps.length < 2199023255552) :
    Calls Try.prog 46 #[.pointer (some ⟨d, 0, none⟩)] w fun e w' => ∃ v, e = .returned v ∧ Ow w.heap.size w' v (jnP ps) ∧ Below w.heap.size w w' := by
  obtain ⟨m, D, fv, h⟩ := h
  obtain ⟨x0, x1, x2, x3, xz⟩ := h.cells
  have hn20 := h.n20
  have hk64 := h.k64
  have hdw : d < w.heap.size := by have := h.hi; have := h.cw; omega
  obtain ⟨i0, hi, hz0, hz1, hz2⟩ := info_parts Try.info5
  have hfull := rsP_full h.rs (fun x hx => (h.kb x hx).1) hf
  have hlk : ∀ j (hj : j < ps.length), lkP ps j = some (ps[j]).2 := fun j hj => by
    have e : ps[j]? = some ps[j] := by simp [hj]
    have := hfull j _ e
    have e2 : (j, ps[j].2) = ps[j] := Prod.ext this.symm rfl
    have hm : (j, ps[j].2) ∈ ps := by
      rw [e2]; exact List.getElem_mem hj
    exact lkP_of_mem h.rs hm
  have hjl : ∀ j, (jnP (ps.take j)).length ≤ 1048576 := fun j => by
    have h1 : jnP ps = jnP (ps.take j) ++ jnP (ps.drop j) := by
      unfold jnP
      rw [← List.flatten_append, ← List.map_append, List.take_append_drop]
    have h2 := congrArg List.length h1
    rw [List.length_append, jnP_len ps] at h2
    omega
  have hsn : ∀ j (hj : j < ps.length), jnP (ps.take (j + 1)) = jnP (ps.take j) ++ (ps[j]).2 := fun j hj => by
    unfold jnP
    rw [List.take_succ_eq_append_getElem hj, List.map_append, List.flatten_append]
    simp
  have HL : Hid _ := And.intro hlk (And.intro hjl hsn)
  clear hlk hjl hsn hfull
  have H2 : Hid _ := hf
  have hfk : ps.length ≤ k ∧ k ≤ ps.length := by omega
  clear hf
  go_enter Try.func46, Try.ntmps46
  go_wp2_with (first | (at_make; refine wpList_make_own _ rfl _ _ 22 rfl w.heap.size 5 i0 _ 1 Try.underlying22 hi hz0 hz1 _ _ _ n rfl rfl rfl (by rw [hz2]; omega) (by unfold maxLen; omega) (Nat.le_refl _) ?_; intro w1 hown hgr; have y2 := World.grownBy.cell hgr x2 (by simp)) | fail)
  have hb1 : Below w.heap.size w w1 := ⟨hgr.os, hgr.tape, hgr.output, hgr.size, fun b hb => hgr.block b hb (by simp)⟩
  have ho1 : Ow w.heap.size w1 (.slice (some ⟨w.heap.size, 0, none⟩) 0 n) [] := hown
  go_loopw [3, 4, 15] (fun b _ x wr => ∃ j : Nat, j ≤ k ∧ x = .int .u64 (j : Int) ∧ Ow w.heap.size wr b (jnP (ps.take j)) ∧ Below w.heap.size w wr) (fun _ _ x _ => k - (intOf x).toNat)
  case atStart => exact ⟨0, Nat.zero_le _, rfl, by simpa [jnP] using ho1, hb1⟩
  case round =>
    obtain ⟨j, hj, rfl, ho, hb⟩ := hrel
    clear ho1 hb1 hown hgr y2
    by_cases hlt : j < k
    · have hlt' : (j : Int) < (k : Int) := by omega
      have hjp : j < ps.length := by omega
      have hlk := HL.out.1 j hjp
      have hsn := HL.out.2.2 j hjp
      have hjl := HL.out.2.1 (j + 1)
      rw [hsn, List.length_append] at hjl
      have hw := h.below hb (Nat.le_refl _)
      have hlo := hw.look1 hlk (by omega)
      have hrd := (hw.el j _ hlk).rd
      have y3 : wr.cell? ⟨d, 3, none⟩ = some (.map (some m)) := by rw [hb.cell hdw]; exact x3
      have hB := hb.size
      obtain ⟨aq, cq, eq⟩ := hw.shape hlk
      rw [eq] at hlo hrd
      generalize hpj : (ps[j]).2 = pj at *
      generalize hcu : jnP (ps.take j) = cu at *
      have HS : Hid _ := hsn
      clear hsn hpj hcu hlk eq
      go_wp2_with (first | (at_builtin; refine wpList_app rfl _ _ rfl w.heap.size _ cu rfl ho _ pj rfl hrd hB (by omega) ?_; intro v3 w3 ho3 hb3 hg3) | fail)
      refine ⟨⟨j + 1, by omega, by go_num, ?_, hb.trans hb3⟩, by simp [intOf]; omega⟩
      rw [HS.out]; exact ho3
    · obtain rfl : j = k := by omega
      go_wp2_with fail
      go_ret
      refine ⟨_, rfl, ?_, hb⟩
      rw [List.take_of_length_le (by omega)] at ho
      exact ho

set_option maxHeartbeats 2000000 in
theorem all_any (h : Bx B C d s n k ps w) (hN : ps.length < 2199023255552) {g : Nat} {t : TypeId} (hg : w.heap[g]? = some (.cells #[.func (.func 44) #[.pointer (some ⟨d, 0, none⟩)] #[], .func (.func 45) #[.pointer (some ⟨d, 0, none⟩)] #[]] t (0, 0))) :
    Calls Try.prog 43 #[.slice (some ⟨g, 0, none⟩) 2 2] w fun e w' => e = .returned (.bool (decide (0 < k ∧ ps.length = k ∧ sumP ps = n))) ∧ Below w.heap.size w w' := by
  obtain ⟨c0, c1, _⟩ := cells2 hg
  have hfu := full_any h hN
  have hgl : g < w.heap.size := (Array.getElem?_eq_some_iff.1 hg).1
  generalize hX : decide (0 < k ∧ ps.length = k ∧ sumP ps = n) = X
  have e1 : (decide (0 < k ∧ ps.length = k) && decide (sumP ps = n)) = X := by
    rw [← hX]
    by_cases q1 : 0 < k <;> by_cases q2 : ps.length = k <;> by_cases q3 : sumP ps = n <;> simp [q1, q2, q3]
  generalize decide (0 < k ∧ ps.length = k) = F at *
  have HX : Hid _ := e1
  clear e1 hX
  go_enter Try.func43, Try.ntmps43
  go_wp2_with fail
  refine wp_loop_rounds 3 ?_
  rw [rounds_succ]
  go_wp2_with fail
  refine hfu.mono ?_
  rintro e w1 ⟨rfl, j, rfl⟩
  cases F with
  | false =>
    obtain rfl : false = X := by rw [← HX.out]; rfl
    go_wp2_with fail
    go_ret
    exact ⟨rfl, Below.dN _ _⟩
  | true =>
    have hb1 : Below w.heap.size w (w.drewN j) := Below.dN w j
    have hfi := fits_any (h.below hb1 (Nat.le_refl _)) hN
    have c1' : (w.drewN j).cell? ⟨g, 1, none⟩ = some (.func (.func 45) #[.pointer (some ⟨d, 0, none⟩)] #[]) := c1
    generalize hY : decide (sumP ps = n) = Y at *
    have HY : Hid _ := hY
    clear hY
    generalize w.drewN j = W at *
    clear c0 c1 hfu
    go_wp2_with fail
    rw [rounds_succ]
    go_wp2_with fail
    refine hfi.mono ?_
    rintro e w2 ⟨rfl, hb2⟩
    cases Y with
    | false =>
      obtain rfl : false = X := by rw [← HX.out]; rfl
      go_wp2_with fail
      go_ret
      exact ⟨rfl, hb1.trans (hb2.mono hb1.size)⟩
    | true =>
      obtain rfl : true = X := by rw [← HX.out]; rfl
      go_wp2_with fail
      rw [rounds_succ]
      go_wp2_with fail
      go_ret
      exact ⟨rfl, hb1.trans (hb2.mono hb1.size)⟩

set_option maxHeartbeats 2000000 in
theorem done_any14 (h : Bx B C d s n k ps w) (hN : ps.length < 2199023255552) :
    Calls Try.prog 24 #[.pointer (some ⟨d, 0, none⟩)] w fun e w' => ∃ v, e = .returned (.tuple #[v, .bool (bxDone s n k ps).isSome]) ∧ Ow w.heap.size w' v ((bxDone s n k ps).getD []) ∧ Below w.heap.size w w' := by
  have hmf : ∀ (fn : Fn) (first cap : Array Value) (w : World), (Instr.makeFunc fn first cap).run Try.prog w = .ok (.func fn first cap) w := fun _ _ _ _ => rfl
  have hal := pk_al w (.cells #[.func (.func 44) #[.pointer (some ⟨d, 0, none⟩)] #[], .func (.func 45) #[.pointer (some ⟨d, 0, none⟩)] #[]] 23)
  have hnw := pk_new w (.cells #[.func (.func 44) #[.pointer (some ⟨d, 0, none⟩)] #[], .func (.func 45) #[.pointer (some ⟨d, 0, none⟩)] #[]] 23)
  have hall := all_any (h.below hal (Nat.le_refl _)) hN hnw
  have hn20 : n ≤ 1048576 := by obtain ⟨m, D, fv, h⟩ := h; exact h.n20
  have hs32 : s < 4294967296 := by obtain ⟨m, D, fv, h⟩ := h; exact h.s32
  generalize hX : bxDone s n k ps = X
  unfold bxDone at hX
  by_cases c1 : 0 < k ∧ ps.length = k ∧ sumP ps = n
  · rw [decide_eq_true c1] at hall
    have hcr := M.crc_lt (jnP ps)
    go_enter Try.func24, Try.ntmps24
    go_wp2_with fail
    refine hall.mono ?_
    rintro e w1 ⟨rfl, hb1⟩
    have hB1 := hal.trans (hb1.mono hal.size)
    have hjn := joined_any (h.below hB1 (Nat.le_refl _)) c1.2.1 (by omega) hN
    go_wp2_with fail
    refine hjn.mono ?_
    rintro e w2 ⟨v, rfl, ho, hb2⟩
    have hB2 := hB1.trans (hb2.mono hB1.size)
    have hbx := h.below hB2 (Nat.le_refl _)
    have hsum := fun j => sum_any (ho.rd.drewN j)
    have hws : IntKind.u64.wrap (M.crc (jnP ps) : Int) = (M.crc (jnP ps) : Int) := by rw [IntKind.wrap_u64]; omega
    obtain ⟨m, D, fv, hI⟩ := hbx
    obtain ⟨x0, x1, x2, x3, xz⟩ := hI.cells
    have ho2 := ho.mono hB1.size
    obtain ⟨av, cv, ev⟩ := ho.shape
    generalize hJ : jnP ps = J at *
    generalize hcj : M.crc J = cj at *
    clear hJ
    subst ev
    go_upto_region 4 with fail
    by_cases c2 : cj = s
    · have d2 : ((cj : Int) != (s : Int)) = false := by simp [c2]
      rw [if_pos ⟨c1.1, c1.2.1, c1.2.2, c2⟩] at hX
      subst hX
      clear c2 c1
      go_quiet (first | (go_at_call 27; refine Calls.quiet_of (v := .int .u32 (cj : Int)) (hsum _)) | fail)
      go_wp2_with fail
      go_ret2
      exact ⟨_, rfl, ho2.below (Below.dN w2 _) (Nat.le_refl _), below_drewN hB2 _⟩
    · have d2 : ((cj : Int) != (s : Int)) = true := by simp; omega
      rw [if_neg (fun q => c2 q.2.2.2)] at hX
      subst hX
      clear c2 c1
      go_quiet (first | (go_at_call 27; refine Calls.quiet_of (v := .int .u32 (cj : Int)) (hsum _)) | fail)
      go_wp2_with fail
      go_ret2
      exact ⟨_, rfl, Ow.nil _ _, below_drewN hB2 _⟩
  · rw [decide_eq_false c1] at hall
    rw [if_neg (fun q => c1 ⟨q.1, q.2.1, q.2.2.1⟩)] at hX
    subst hX
    clear c1
    go_enter Try.func24, Try.ntmps24
    go_wp2_with fail
    refine hall.mono ?_
    rintro e w1 ⟨rfl, hb1⟩
    go_wp2_with fail
    go_ret2
    exact ⟨_, rfl, Ow.nil _ _, hal.trans (hb1.mono hal.size)⟩
end
end Go.Proofs.Ytlajncjamafomaa
