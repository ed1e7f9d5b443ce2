/- The law's own map15: how far each number is. -/
import Derived.Test.YtpckmpnifdpeoaaG34
import Derived.Test.YtpckmpnifdpeoaaG45
import Derived.Laws.MakeOwn
namespace Go.Proofs.Ytpckmpnifdpeoaa
open Go.RowKit
set_option linter.unusedVariables false
set_option maxRecDepth 100000

def updN (f : Nat → Int) (i : Nat) (z : Int) : Nat → Int := fun j => if j = i then z else f j
/-- What is known of far at step s, when the edges L were looked at. -/
structure FI (E : List Ed) (a : UInt64) (s : Nat) (L : List Ed) (f : Nat → Int) : Prop where
  wk : ∀ v : UInt64, 0 ≤ f v.toNat → ∃ k : Nat, f v.toNat = k ∧ Wk E a k v ∧ k ≤ s + 1
  le : ∀ (k : Nat) (v : UInt64), k ≤ s → Wk E a k v → ∃ j : Nat, f v.toNat = j ∧ j ≤ k
  ed : ∀ e ∈ L, f e.1.toNat = (s : Int) → 0 ≤ f e.2.toNat
theorem FI.start (E : List Ed) (a : UInt64) : FI E a 0 [] (updN (fun _ => -1) a.toNat 0) := by
  refine ⟨fun v h => ?_, fun k v hk hw => ?_, fun e he => by cases he⟩
  · unfold updN at h ⊢
    split at h
    · rename_i q
      exact ⟨0, if_pos q, UInt64.toNat_inj.1 q, by omega⟩
    · simp at h
  · obtain rfl : k = 0 := by omega
    exact ⟨0, by unfold updN; rw [if_pos (by rw [show v = a from hw])]; rfl, Nat.le_refl _⟩
theorem FI.hit {E : List Ed} {a : UInt64} {s : Nat} {L : List Ed} {f : Nat → Int} (h : FI E a s L f) {e : Ed} (he : e ∈ E) (h1 : f e.1.toNat = (s : Int)) (h2 : f e.2.toNat < 0) : FI E a s (L ++ [e]) (updN f e.2.toNat ((s : Int) + 1)) := by
  have hw : Wk E a s e.1 := by
    obtain ⟨k, q1, q2, _⟩ := h.wk e.1 (by omega)
    obtain rfl : k = s := by omega
    exact q2
  refine ⟨fun v hv => ?_, fun k v hk hw2 => ?_, fun e' he' hs => ?_⟩
  · unfold updN at hv ⊢
    by_cases q : v.toNat = e.2.toNat
    · rw [if_pos q]
      exact ⟨s + 1, by simp, ⟨e.1, hw, by rw [UInt64.toNat_inj.1 q]; exact he⟩, Nat.le_refl _⟩
    · rw [if_neg q] at hv ⊢
      exact h.wk v hv
  · obtain ⟨j, q1, q2⟩ := h.le k v hk hw2
    refine ⟨j, ?_, q2⟩
    unfold updN
    rw [if_neg (fun q => by rw [q] at q1; omega)]
    exact q1
  · unfold updN at hs ⊢
    by_cases q : e'.1.toNat = e.2.toNat
    · rw [if_pos q] at hs; omega
    · rw [if_neg q] at hs
      split
      · omega
      · rename_i q2
        rcases List.mem_append.1 he' with p | p
        · exact h.ed e' p hs
        · rw [List.mem_singleton.1 p] at q2; exact absurd rfl q2
theorem FI.miss {E : List Ed} {a : UInt64} {s : Nat} {L : List Ed} {f : Nat → Int} (h : FI E a s L f) {e : Ed} (h1 : f e.1.toNat = (s : Int) → 0 ≤ f e.2.toNat) : FI E a s (L ++ [e]) f := by
  refine ⟨h.wk, h.le, fun e' he' hs => ?_⟩
  rcases List.mem_append.1 he' with p | p
  · exact h.ed e' p hs
  · rw [List.mem_singleton.1 p] at hs ⊢; exact h1 hs
theorem FI.next {E : List Ed} {a : UInt64} {s : Nat} {f : Nat → Int} (h : FI E a s E f) : FI E a (s + 1) [] f := by
  refine ⟨fun v hv => ?_, fun k v hk hw => ?_, fun e he => by cases he⟩
  · obtain ⟨k, q1, q2, q3⟩ := h.wk v hv
    exact ⟨k, q1, q2, by omega⟩
  · by_cases q : k ≤ s
    · exact h.le k v q hw
    · obtain rfl : k = s + 1 := by omega
      obtain ⟨u, hu, he⟩ := hw
      obtain ⟨j, j1, j2⟩ := h.le s u (Nat.le_refl _) hu
      by_cases hj : j = s
      · subst hj
        obtain ⟨k', q1, _, q3⟩ := h.wk v (h.ed _ he j1)
        exact ⟨k', q1, q3⟩
      · obtain ⟨k', q1, q2, _⟩ := h.wk u (by omega)
        obtain rfl : k' = j := by omega
        obtain ⟨j', r1, r2⟩ := h.le (k' + 1) v (by omega) ⟨u, q2, he⟩
        exact ⟨j', r1, by omega⟩
/-- The sixteen numbers in memory. -/
def Fr (g : Nat) (f : Nat → Int) (w : World) : Prop := ∃ cur : Array Value, w.heap[g]? = some (.cells cur 3 (0, 0)) ∧ cur.size = 16 ∧ ∀ i, i < 16 → cur[i]? = some (.int .i64 (f i))
theorem Fr.at_ {g : Nat} {f : Nat → Int} {w : World} (h : Fr g f w) (i : Nat) (hi : i < 16) : w.cell? ⟨g, i, none⟩ = some (.int .i64 (f i)) ∧ w.frozen? ⟨g, i, none⟩ = false := by
  obtain ⟨cur, h1, h2, h3⟩ := h
  exact ⟨by rw [cell_of_row _ _ _ _ _ _ h1]; exact h3 i hi, frozen_of_row _ _ _ _ _ h1⟩
theorem Fr.put {g : Nat} {f : Nat → Int} {w : World} (h : Fr g f w) (i : Nat) (z : Int) : Fr g (updN f i z) (w.setCell ⟨g, i, none⟩ (.int .i64 z)) := by
  obtain ⟨cur, h1, h2, h3⟩ := h
  refine ⟨_, heap_setCell_same _ _ i _ _ _ h1, by rw [Array.size_setIfInBounds]; exact h2, fun j hj => ?_⟩
  unfold updN
  by_cases q : j = i
  · subst q
    rw [if_pos rfl, Array.getElem?_setIfInBounds_self_of_lt (by omega)]
  · rw [if_neg q, Array.getElem?_setIfInBounds_ne (by omega)]
    exact h3 j hj
theorem Fr.dN {g : Nat} {f : Nat → Int} {w : World} (h : Fr g f w) (m : Nat) : Fr g f (w.drewN m) := h
theorem Fr.below {C g : Nat} {f : Nat → Int} {w w' : World} (h : Fr g f w) (hb : Below C w w') (hC : w.heap.size ≤ C) : Fr g f w' := by
  obtain ⟨cur, h1, h2⟩ := h
  exact ⟨cur, by rw [hb.block g (by have := (Array.getElem?_eq_some_iff.1 h1).1; omega)]; exact h1, h2⟩
theorem Fr.zero (w : World) (C : Array Value) (hC : C.size = 16) (h0 : ∀ i, i < 16 → C[i]? = some (.int .i64 0)) : Fr w.heap.size (fun _ => 0) (w.alloc (.cells C 3)) := ⟨C, heap_alloc_new w _, hC, h0⟩
set_option maxHeartbeats 2000000 in
theorem map15_any {v : Value} {E : List Ed} {w : World} (h : RdE w v E) (hl : E.length ≤ 4096) (a : UInt64) (ha : a.toNat < 16) (hE : ∀ e ∈ E, e.1.toNat < 16 ∧ e.2.toNat < 16) :
    Calls Try.prog 18 #[v, .int .u64 (a.toNat : Int)] w fun r w' => ∃ g f, r = .returned (.slice (some ⟨g, 0, none⟩) 16 16) ∧ Fr g f w' ∧ FI E a 16 [] f ∧ w.heap.size ≤ g ∧ Below w.heap.size w w' := by
  obtain ⟨ao, c, ev, h1, h2⟩ := h.shape
  subst ev
  have hmk : ∃ w1, (Instr.makeSlice 48 (.int .i64 16) (.int .i64 16)).run Try.prog w = .ok (.slice (some ⟨w.heap.size, 0, none⟩) 16 16) w1 ∧ Fr w.heap.size (fun _ => 0) w1 ∧ Below w.heap.size w w1 := by
    have hinf : (Try.prog.info? 3).map (fun i => (i.zero, i.size, i.bytes)) = some (some (.int .i64 0), 1, 8) := by kernel_rfl
    obtain ⟨i, hi, hz0, hz1, hz2⟩ := info_parts hinf
    have := run_makeSlice (P := Try.prog) w 48 3 i (.int .i64 0) Try.underlying48 hi hz0 .i64 .i64 16 16 (by omega) (by omega) (by rw [hz1]; decide) (by rw [hz2]; decide) (by omega)
    refine ⟨_, this, ?_, w_al w _⟩
    rw [hz1]
    have hR : madeCells (Value.int .i64 0).cells (Int.toNat 16 * 1) = Array.replicate 16 (.int .i64 0) := by kernel_rfl
    rw [hR]
    exact Fr.zero w _ (by simp) (fun j hj => by rw [Array.getElem?_replicate, if_pos hj])
  obtain ⟨w1, hmk, hf0, hb1⟩ := hmk
  have HRE : Hid (RdE w (.slice ao E.length c) E) := h
  have HEE : Hid (∀ e ∈ E, e.1.toNat < 16 ∧ e.2.toNat < 16) := hE
  obtain ⟨g, hg⟩ : ∃ g, g = w.heap.size := ⟨_, rfl⟩
  rw [← hg] at hmk hf0
  have hgl : w.heap.size ≤ g := by omega
  clear h hE hg
  go_enter Try.func18, Try.ntmps18
  go_wp2_with fail
  clear hmk
  go_loopw [6] (fun i wr => ∃ (k : Nat) (f : Nat → Int), k ≤ 16 ∧ i = .int .i64 k ∧ Fr g f wr ∧ Hid (∀ j, j < k → f j = -1) ∧ Below w.heap.size w wr) (fun i _ => 16 - (intOf i).toNat)
  case atStart => exact ⟨0, _, by omega, rfl, hf0, (fun j hj => by omega), hb1⟩
  case round =>
    obtain ⟨k, f, hk, rfl, hf, HF, hb⟩ := hrel
    clear hf0 hb1
    by_cases hlt : k < 16
    · obtain ⟨y0, y1⟩ := hf.at_ k hlt
      have hki : (k : Int) < 16 := by omega
      have HNX : Hid (Fr g (updN f k (-1)) (wr.setCell ⟨g, k, none⟩ (.int .i64 (-1))) ∧ (∀ j, j < k + 1 → updN f k (-1) j = -1) ∧ Below w.heap.size w (wr.setCell ⟨g, k, none⟩ (.int .i64 (-1)))) := by
        refine ⟨hf.put k (-1), fun j hj => ?_, hb.trans (((Chg.refl (fun b => b = g) wr).put g _ _ rfl).below (fun b q => by omega) hb.size)⟩
        unfold updN
        split
        · rfl
        · exact HF.out j (by omega)
      clear hf hb
      go_wp2_with fail
      exact ⟨⟨k + 1, _, by omega, by go_num, HNX.out.1, HNX.out.2.1, HNX.out.2.2⟩, by simp [intOf]; omega⟩
    · obtain rfl : k = 16 := by omega
      obtain ⟨y0, y1⟩ := hf.at_ a.toNat ha
      have hai : (a.toNat : Int) < 16 := by omega
      have HNX : Hid (∃ f', Fr g f' (wr.setCell ⟨g, a.toNat, none⟩ (.int .i64 0)) ∧ FI E a 0 [] f' ∧ Below w.heap.size w (wr.setCell ⟨g, a.toNat, none⟩ (.int .i64 0))) := by
        refine ⟨updN (fun _ => -1) a.toNat 0, ?_, FI.start E a, hb.trans (((Chg.refl (fun b => b = g) wr).put g _ _ rfl).below (fun b q => by omega) hb.size)⟩
        have h0 : Fr g (fun _ => -1) wr := by
          obtain ⟨cur, q1, q2, q3⟩ := hf
          exact ⟨cur, q1, q2, fun i hi => by rw [q3 i hi, HF.out i hi]⟩
        exact h0.put a.toNat 0
      clear hf hb
      go_wp2_with fail
      go_loopw [7, 8, 9, 10] (fun st _ _ _ wr => ∃ (s : Nat) (f : Nat → Int), s ≤ 16 ∧ st = .int .i64 s ∧ Fr g f wr ∧ FI E a s [] f ∧ Below w.heap.size w wr) (fun st _ _ _ _ => 16 - (intOf st).toNat)
      case atStart =>
        obtain ⟨f', q1, q2, q3⟩ := HNX.out
        exact ⟨0, f', by omega, rfl, q1, q2, q3⟩
      case round =>
        obtain ⟨s, f, hs, rfl, hf, hfi, hb⟩ := hrel
        clear HNX y0 y1
        by_cases hlts : s < 16
        · have hsi : (s : Int) < 16 := by omega
          go_wp2_with fail
          go_loopw [8, 9, 10] (fun i _ _ wr => ∃ (k : Nat) (f : Nat → Int), k ≤ E.length ∧ i = .int .i64 k ∧ Fr g f wr ∧ FI E a s (E.take k) f ∧ Below w.heap.size w wr) (fun i _ _ _ => E.length - (intOf i).toNat)
          case atStart => exact ⟨0, f, Nat.zero_le _, rfl, hf, hfi, hb⟩
          case round =>
            obtain ⟨k, f2, hk2, rfl, hf2, hfi2, hb2⟩ := hrel
            clear hf hfi hb
            by_cases hltk : k < E.length
            · obtain ⟨⟨p1, p2⟩, hp⟩ : ∃ p, E[k]? = some p := ⟨_, List.getElem?_eq_getElem hltk⟩
              obtain ⟨ad, rfl, d0, d1⟩ := (HRE.out.below hb2 (Nat.le_refl _)).at_ hp
              obtain ⟨e1, e2⟩ := HEE.out _ (List.mem_of_getElem? hp)
              simp only [] at d0 d1 e1 e2
              have hki : (k : Int) < (E.length : Int) := by omega
              have hp1i : (p1.toNat : Int) < 16 := by omega
              have hp2i : (p2.toNat : Int) < 16 := by omega
              have htk : E.take (k + 1) = E.take k ++ [(p1, p2)] := by rw [List.take_add_one, hp]; rfl
              have HM : Hid ((p1, p2) ∈ E) := List.mem_of_getElem? hp
              have HTK : Hid (E.take (k + 1) = E.take k ++ [(p1, p2)]) := htk
              have hws : IntKind.i64.wrap ((s : Int) + 1) = (s : Int) + 1 := by rw [IntKind.wrap_i64]; omega
              clear htk hp
              go_wp2_with fail
              go_quiet (fail)
              have hf3 := hf2.dN nq
              have hb3 : Below w.heap.size w (wr.drewN nq) := hb2.trans ((Below.dN wr nq).mono hb2.size)
              generalize wr.drewN nq = w3 at *
              obtain ⟨z1, z1f⟩ := hf3.at_ p1.toNat e1
              obtain ⟨z2, z2f⟩ := hf3.at_ p2.toNat e2
              clear d0 d1 hf2 hb2
              by_cases q1 : f2 p1.toNat = (s : Int)
              · by_cases q2 : f2 p2.toNat < 0
                · have HNX : Hid (Fr g (updN f2 p2.toNat ((s : Int) + 1)) (w3.setCell ⟨g, p2.toNat, none⟩ (.int .i64 ((s : Int) + 1))) ∧ FI E a s (E.take (k + 1)) (updN f2 p2.toNat ((s : Int) + 1)) ∧ Below w.heap.size w (w3.setCell ⟨g, p2.toNat, none⟩ (.int .i64 ((s : Int) + 1)))) := by
                    refine ⟨hf3.put _ _, by rw [HTK.out]; exact hfi2.hit HM.out q1 q2, hb3.trans (((Chg.refl (fun b => b = g) w3).put g _ _ rfl).below (fun b q => by omega) hb3.size)⟩
                  rw [q1] at z1
                  clear hf3 hfi2 hb3 q1
                  generalize f2 p2.toNat = fp at *
                  go_wp2_with fail
                  exact ⟨⟨k + 1, _, by omega, by go_num, HNX.out.1, HNX.out.2.1, HNX.out.2.2⟩, by simp [intOf]; omega⟩
                · have HNX : Hid (Fr g f2 w3 ∧ FI E a s (E.take (k + 1)) f2 ∧ Below w.heap.size w w3) := ⟨hf3, by rw [HTK.out]; exact hfi2.miss (fun _ => by simp only []; omega), hb3⟩
                  rw [q1] at z1
                  clear hf3 hfi2 hb3 q1
                  generalize f2 p2.toNat = fp at *
                  go_wp2_with fail
                  exact ⟨⟨k + 1, _, by omega, by go_num, HNX.out.1, HNX.out.2.1, HNX.out.2.2⟩, by simp [intOf]; omega⟩
              · have HNX : Hid (Fr g f2 w3 ∧ FI E a s (E.take (k + 1)) f2 ∧ Below w.heap.size w w3) := ⟨hf3, by rw [HTK.out]; exact hfi2.miss (fun q => absurd q q1), hb3⟩
                have q1b : (f2 p1.toNat == (s : Int)) = false := by rw [beq_eq_false_iff_ne]; exact q1
                clear hf3 hfi2 hb3
                generalize f2 p1.toNat = fp1 at *
                generalize f2 p2.toNat = fp at *
                go_wp2_with fail
                exact ⟨⟨k + 1, _, by omega, by go_num, HNX.out.1, HNX.out.2.1, HNX.out.2.2⟩, by simp [intOf]; omega⟩
            · obtain rfl : k = E.length := by omega
              rw [List.take_length] at hfi2
              have HN : Hid (FI E a (s + 1) [] f2) := hfi2.next
              have hws : IntKind.i64.wrap ((s : Int) + 1) = (s : Int) + 1 := by rw [IntKind.wrap_i64]; omega
              clear hfi2
              go_wp2_with fail
              exact ⟨⟨s + 1, f2, by omega, by go_num, hf2, HN.out, hb2⟩, by simp [intOf]; omega⟩
        · obtain rfl : s = 16 := by omega
          have HE : Hid (∃ f, Fr g f wr ∧ FI E a 16 [] f ∧ Below w.heap.size w wr) := ⟨f, hf, hfi, hb⟩
          clear hf hfi hb
          go_wp2_with fail
          go_ret
          obtain ⟨f', q1, q2, q3⟩ := HE.out
          exact ⟨g, f', rfl, q1, q2, hgl, q3⟩
end Go.Proofs.Ytpckmpnifdpeoaa
