/- The walk of Crash. -/
import Derived.Test.YtbolnelbchffhacDkCrash
namespace Go.Proofs.Ytbolnelbchffhac
open Go.RowKit Go.Maps
set_option linter.unusedVariables false
set_option maxRecDepth 100000

section
variable {B d n : Nat} {own : Nat → Option Role} {st : Nm → Option (List UInt8 × Nat)} {sz : Nat} {may : Value} {left : Int} {w : World}

set_option maxHeartbeats 2000000 in
theorem crash_any (h : Dk B d n own st sz may left w) {L : List Nm} (hL : NamesOf st L) (hn : n ≤ 1099511627776) (hsum : sumB st L = sz) (hsm : ∀ nm f, st nm = some f → f.1.length ≤ 16777216) (hsz : sz ≤ 1099511627776) (hlen : L.length ≤ 1099511627776)
    {vk : Value} {ks : List Int} (hk : RdI w vk ks) (hko : ∀ b, vk.ownBlock = some b → own b = none) (hki : ∀ k ∈ ks, -9223372036854775808 ≤ k ∧ k ≤ 9223372036854775807) :
    Calls Try.prog 14 #[.pointer (some ⟨d, 0, none⟩), vk] w fun e w' => (∃ v, e = .returned v) ∧
      (∃ own', Dk B d n own' (crashF L ks 0 st sz).1 (crashF L ks 0 st sz).2 (alive d) left w' ∧ ∀ b, own' b ≠ none → own b ≠ none ∨ w.heap.size ≤ b) ∧ Chg (fun b => own b ≠ none) w w' := by
  have hnames := names_any h hL hn
  have hlo : ∀ b, own b ≠ none → b < w.heap.size := fun b hb => by obtain ⟨_, _, _, _, h⟩ := h; exact (h.lo b hb).2
  generalize hfin : crashF L ks 0 st sz = fin
  have HF : Hid _ := hfin
  clear hfin
  obtain ⟨ak, ck, rfl, k1, k2, k4⟩ := id hk
  unfold maxLen at k2
  clear k4
  go_enter Try.func14, Try.ntmps14
  go_wp2_with fail
  refine hnames.mono ?_
  rintro e w1 ⟨nv, rfl, hrow, hb1⟩
  have hc1 : Chg (fun b => own b ≠ none) w w1 := (Chg.of_below hb1).mono (fun b hb q => by omega)
  have hI0 : CrashI B d n own st may left L ks fin w1 0 0 own st sz w1 := ⟨h.next (Chg.of_below hb1) (fun b hb q => by have := hlo b hb; omega), fun b hb => .inl hb, Chg.refl _ _, HF.out, fun _ => Iff.rfl, hsum, hsm, hsz⟩
  have hk1 := hk.keptC hc1 (fun b hb q => q (hko b hb))
  obtain ⟨an, cn, rfl⟩ : ∃ a c, nv = .slice a L.length c := by
    rcases hrow.2 with ⟨q, q0⟩ | ⟨g, cap, cur, q, _⟩
    · rw [q, q0]; exact ⟨_, _, rfl⟩
    · exact ⟨_, _, q⟩
  go_wp2_with fail
  go_loopw [4, 6, 7, 8, 12] (fun torn _ _ _ i wr => ∃ (k t : Nat) (own' : Nat → Option Role) (st' : Nm → Option (List UInt8 × Nat)) (sz' : Nat), k ≤ L.length ∧ t ≤ k ∧ torn = .int .i64 t ∧ i = .int .i64 k ∧ CrashI B d n own st may left L ks fin w1 k t own' st' sz' wr) (fun _ _ _ _ i _ => L.length - (intOf i).toNat)
  case atStart => exact ⟨0, 0, own, st, sz, Nat.zero_le _, Nat.le_refl _, rfl, rfl, hI0⟩
  case round =>
    obtain ⟨k, t, own', st', sz', hkL, htk, rfl, rfl, hI⟩ := hrel
    clear hI0
    by_cases hlt : k < L.length
    · obtain ⟨f, ef⟩ := Option.ne_none_iff_exists'.1 ((hI.dom L[k]).2 ((hL.mem _).1 (List.getElem_mem hlt)))
      have hrr := ownsRow_keptC hrow hI.chg (fun b e q => by have := (World.ownsRow.lt hrow b e).1; have := hlo b q; omega)
      obtain ⟨gn, cn', q1, q2⟩ := own_cell0 hrr k hlt
      simp only [Value.slice.injEq, true_and] at q1
      obtain ⟨rfl, rfl⟩ := q1
      rw [List.getElem?_map, List.getElem?_eq_getElem hlt] at q2
      obtain ⟨s, es, hs2, hs3⟩ := encStr_string L[k]
      simp only [Option.map_some, es] at q2
      clear hrr
      obtain ⟨m, D, fb, fv, hD⟩ := hI.dk
      have c0 : wr.cell? ⟨d, 0, none⟩ = some (.map (some m)) := by rw [cell_of_row _ _ _ _ _ _ hD.cell]; rfl
      have c1 : wr.cell? ⟨d, 1, none⟩ = some (.int .i64 (sz' : Int)) := by rw [cell_of_row _ _ _ _ _ _ hD.cell]; rfl
      have hnl := hD.name_le (show st' L[k] ≠ none by rw [ef]; simp)
      have hrun := hD.look s (by rw [hs3]; exact hnl) f (by rw [hs2]; exact ef)
      rw [hs2] at hrun
      obtain ⟨fa, fc, efv, hln, f0, f1, hfz, hrd⟩ := hD.fcell ef
      have hsync := (hD.file _ f ef).2.2
      have hfs := hI.small _ f ef
      have hsz' := hI.top
      clear hfz efv hrd
      by_cases hfeq : f.2 = f.1.length
      · have hb : (((f.2 : Nat) : Int) == ((f.1.length : Nat) : Int)) = true := by simp [hfeq]
        have HI : Hid _ := hI.skip hlt ef hfeq
        clear hI hD hfeq
        generalize fb L[k] = g at *
        go_wp2_with fail
        go_quiet (fail)
        go_wp2_with fail
        exact ⟨⟨k + 1, t, own', st', sz', by omega, by omega, rfl, by go_num, HI.out.drN nq⟩, by simp [intOf]; omega⟩
      · have hb : (((f.2 : Nat) : Int) == ((f.1.length : Nat) : Int)) = false := by simp; omega
        have hflt : f.2 < f.1.length := by omega
        have hkr := hk1.keptC hI.chg (fun b hb q => q (hko b hb))
        have hst : stays (keepAt ks t) (f.1.length - f.2) ≤ f.1.length - f.2 := by unfold stays; omega
        have hle : f.1.length ≤ sz' := by
          have := sumB_set st' L[k] f ([], 0) ef L hL.nodup (List.getElem_mem hlt)
          rw [hI.sum] at this
          simp at this
          omega
        have hki' : -9223372036854775808 ≤ keepAt ks t ∧ keepAt ks t ≤ 9223372036854775807 := by
          unfold keepAt
          by_cases q : t < ks.length
          · rw [show ks.getD t 0 = ks[t] by simp [q]]; exact hki _ (List.getElem_mem q)
          · rw [show ks.getD t 0 = 0 by simp [Nat.not_lt.1 q]]; omega
        have htear := fun q => tear_any (hD.drN q) ef hflt hfs (keepAt ks t) hki'
        have hstep := fun own2 w2 hd hx hc => hI.tear hL.nodup hlt ef hflt (own2 := own2) (w2 := w2) hd hx hc
        have HST : Hid _ := hstep
        clear hstep
        have hIc := hI.chg
        clear hD hfeq
        generalize hgf : fb L[k] = g at *
        generalize hrm : stays (keepAt ks t) (f.1.length - f.2) = q at *
        by_cases ht : t < ks.length
        · have hka : keepAt ks t = ks[t] := by unfold keepAt; simp [ht]
          rw [hka] at htear
          obtain ⟨ao, cc, eao, _, _, hkc⟩ := hkr
          obtain ⟨ka, eka, hkcell⟩ := hkc t ht
          simp only [Value.slice.injEq, true_and] at eao
          obtain ⟨rfl, rfl⟩ := eao
          subst eka
          clear hkc hka
          go_wp2_with fail
          go_quiet (fail)
          go_wp2_with fail
          go_region_with (first | (go_at_call 42; refine (htear _).mono ?_; rintro e w2 ⟨rfl, ⟨own2, hd2, hx2⟩, hc2⟩; obtain ⟨x1, x2⟩ := hd2.cell1) | fail)
          all_goals go_wp2_with fail
          all_goals
            obtain ⟨y1, y2⟩ := hd2.setSize (sz' - (f.1.length - f.2 - q))
            have ez : ((sz' : Int) - ((f.1.length - f.2 - q : Nat) : Int)) = ((sz' - (f.1.length - f.2 - q) : Nat) : Int) := by omega
            have hc0 : Chg (fun b => own' b ≠ none) wr (wr.drewN (nq + 1)) := (Chg.of_below (Below.dN wr (nq + 1))).mono (fun b hb q => by omega)
            have hc3 : Chg (fun b => own' b ≠ none) wr w2 := hc0.trans (hc2.mono (fun b _ q => Or.inl q))
            have hs3 := hc3.size
            rw [ez]
            exact ⟨⟨k + 1, t + 1, own2, _, _, by omega, by omega, by go_num, by go_num, HST.out own2 _ y1 hx2 (hc3.trans (y2.mono (fun b _ q => hx2 b q)))⟩, by simp [intOf]; omega⟩
        · have hka : keepAt ks t = 0 := by unfold keepAt; simp [Nat.not_lt.1 ht]
          rw [hka] at htear
          clear hka hkr
          go_wp2_with fail
          go_quiet (fail)
          go_wp2_with fail
          go_region_with (first | (go_at_call 42; refine (htear _).mono ?_; rintro e w2 ⟨rfl, ⟨own2, hd2, hx2⟩, hc2⟩; obtain ⟨x1, x2⟩ := hd2.cell1) | fail)
          all_goals go_wp2_with fail
          all_goals
            obtain ⟨y1, y2⟩ := hd2.setSize (sz' - (f.1.length - f.2 - q))
            have ez : ((sz' : Int) - ((f.1.length - f.2 - q : Nat) : Int)) = ((sz' - (f.1.length - f.2 - q) : Nat) : Int) := by omega
            have hc0 : Chg (fun b => own' b ≠ none) wr (wr.drewN (nq + 1)) := (Chg.of_below (Below.dN wr (nq + 1))).mono (fun b hb q => by omega)
            have hc3 : Chg (fun b => own' b ≠ none) wr w2 := hc0.trans (hc2.mono (fun b _ q => Or.inl q))
            have hs3 := hc3.size
            rw [ez]
            exact ⟨⟨k + 1, t + 1, own2, _, _, by omega, by omega, by go_num, by go_num, HST.out own2 _ y1 hx2 (hc3.trans (y2.mono (fun b _ q => hx2 b q)))⟩, by simp [intOf]; omega⟩
    · obtain rfl : k = L.length := by omega
      obtain ⟨m, D, fb, fv, hD⟩ := hI.dk
      have hcd := hD.cell
      have c2 : wr.cell? ⟨d, 2, none⟩ = some may := by rw [cell_of_row _ _ _ _ _ _ hcd]; rfl
      have f2 : wr.frozen? ⟨d, 2, none⟩ = false := frozen_of_row _ _ _ _ _ hcd
      have HI : Hid _ := And.intro hI hD
      clear hI hD
      go_wp2_with fail
      go_end0
      have hfn := HI.out.1.fin
      rw [List.drop_of_length_le (Nat.le_refl _)] at hfn
      simp only [crashF] at hfn
      have hs := hc1.size
      have hset : Dk B d n own' st' sz' (alive d) left (wr.setCell ⟨d, 2, none⟩ (alive d)) := ⟨m, D, fb, fv, HI.out.2.setDisk ((Chg.refl (fun b => b = d) wr).put d 2 _ rfl) (by rw [heap_setCell_same _ _ 2 _ _ _ hcd]; rfl)⟩
      have hdo : own d ≠ none := by obtain ⟨_, _, _, _, h⟩ := h; rw [h.od]; simp
      refine ⟨⟨_, rfl⟩, ⟨own', ?_, fun b hb => ?_⟩, ?_⟩
      · rw [← hfn]; exact hset
      · rcases HI.out.1.ext b hb with q | q
        · exact .inl q
        · exact .inr (by omega)
      · exact (hc1.trans (HI.out.1.chg.mono (fun b _ q => .inl q))).put d 2 _ hdo
end
end Go.Proofs.Ytbolnelbchffhac
