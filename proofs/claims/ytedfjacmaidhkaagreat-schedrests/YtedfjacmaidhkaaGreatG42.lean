/- awake answers true. -/
import Derived.Test.YtedfjacmaidhkaaGreatG41
namespace Go.Proofs.YtedfjacmaidhkaaGreat
open Go.RowKit Go.Maps
set_option linter.unusedVariables false
set_option linter.unusedSimpArgs false
set_option maxRecDepth 100000

theorem ownsRow_lit {w : World} {g n s B : Nat} {e : TypeId} {cs : Array Value} {xs : List Value} (h : w.heap[g]? = some (.cells cs e (0, 0))) (hcs : cs.toList = xs) (hl : xs.length = n * s) (hB : B ≤ g) (hn : n ≤ maxLen) : w.ownsRow B e s (.slice (some ⟨g, 0, none⟩) n n) n xs :=
  ⟨hl, .inr ⟨g, n, cs, rfl, hB, h, Nat.le_refl _, hn, by rw [← hl, ← hcs]; simp, by rw [hcs, ← hl, List.take_length]⟩⟩
theorem first_nil {lt : Pe → Pe → Bool} {q : Pe × Bool} (h : FirstP lt [] q) : q = (noPe, false) := by
  rcases h with ⟨_, h⟩ | ⟨_, h, _⟩
  · exact h
  · cases h
theorem first_one {lt : Pe → Pe → Bool} {e : Pe} {q : Pe × Bool} (h : FirstP lt [e] q) : q = (e, true) := by
  rcases h with ⟨h, _⟩ | ⟨h1, h2, _⟩
  · cases h
  · exact Prod.ext (List.mem_singleton.1 h2) h1
def awP : List Pe := [(11, 1, false), (12, 2, false)]
def awR (g : Nat) : RV := ⟨1, none, 0, none, 0, 1, 1, some ⟨g, 0, none⟩, 2, 1, 5, false, [], [], [(11, 1, false), (12, 2, false)]⟩
def awS : List Sw := [(1, true), (2, true), (3, true)]
theorem awS_ts : tsF awS = awS := by decide
theorem awR_tr (g : Nat) : trF [awR g] = [awR g] := by
  have h : chkE (awR g).id (awR g).s (awR g).e (awR g).ps = 0 := by
    show chkE 1 [] [] [(11, 1, false), (12, 2, false)] = 0
    decide
  show trS [] (awR g) = _
  unfold trS
  rw [if_pos ⟨rfl, h⟩]; rfl
theorem awR_os {g : Nat} {b : PD × List Or} (h : RunD (plD 3 0 0 3) [awR g] (cntR (p00 awS [awR g]) [awR g], []) b) : b.2 = [⟨1, 1, 3, 0, 0⟩] := by
  have hrep : (plD 3 0 0 3).rep = 3 := by decide
  have hlv : onlyF (awR g).ps [livF awS] = (awR g).ps := by show onlyF awP [livF awS] = awP; decide
  have hln : onlyF (awR g).ps [livF awS, lrnF] = [] := by show onlyF awP [livF awS, lrnF] = []; decide
  have hfr : freF awS (awR g).ps = [(0, 3, false)] := by show freF awS awP = [(0, 3, false)]; decide
  have hadd : ∀ o b, AddP (plD 3 0 0 3) (cntR (p00 awS [awR g]) [awR g]) (awR g) o b → b = true ∧ o = ⟨1, 1, 3, 0, 0⟩ := by
    intro o b ho
    unfold AddP at ho
    rw [hrep, cntR_ss] at ho
    replace ho : if (3 : Int) ≤ ((onlyF (awR g).ps [livF awS]).length : Int) then b = false else GrowP (cntR (p00 awS [awR g]) [awR g]) (awR g) o b := ho
    rw [hlv] at ho
    rw [if_neg (by show ¬ (3 : Int) ≤ 2; omega)] at ho
    obtain ⟨q, h1, h2, h3⟩ := ho
    rw [cntR_ss] at h1
    replace h1 : FirstP (lesF (cntR (p00 awS [awR g]) [awR g]).ld) (freF awS (awR g).ps) q := h1
    rw [hfr] at h1
    have := first_one h1
    subst this
    exact ⟨h2, h3⟩
  have hpro : ∀ o, ¬ PromP (plD 3 0 0 3) (cntR (p00 awS [awR g]) [awR g]) (awR g) o true := by
    intro o ho
    unfold PromP at ho
    rw [hrep] at ho
    split at ho
    · cases ho
    · obtain ⟨q, h1, h2, _⟩ := ho
      rw [cntR_ss] at h1
      replace h1 : FirstP oldF (onlyF (awR g).ps [livF awS, lrnF]) q := h1
      rw [hln] at h1
      have := first_nil h1
      subst this
      cases h2
  cases h with
  | cons hs ht =>
    cases ht
    rcases hs with ⟨hq, rfl⟩ | ⟨_, _, i, S, o, h3, h4, h5, rfl⟩
    · exfalso
      rcases hq with (hq | hq) | hq
      · cases hq
      · rw [cntR_nm] at hq; cases hq
      · obtain ⟨o, ho⟩ := hq 1 _ rfl
        have := (hadd o false ho).1
        cases this
    · match i, h3, h5 with
      | 0, h3, _ =>
        obtain rfl := Option.some.inj h3
        exact absurd h4 (hpro o)
      | 1, h3, _ =>
        obtain rfl := Option.some.inj h3
        rw [(hadd o true h4).2]; rfl
      | i + 2, h3, h5 =>
        obtain ⟨o', ho⟩ := h5 1 _ (by omega) rfl
        have := (hadd o' false ho).1
        cases this
set_option maxHeartbeats 4000000 in
theorem awake_call (w : World) : Calls Tryz.prog 9 #[.agg #[.int .i64 3, .int .i64 0, .int .i64 0], .slice (some ⟨w.heap.size + 1 + 1, 0, none⟩) 3 3, .slice (some ⟨w.heap.size + 1 + 1 + 1, 0, none⟩) 1 1]
    ((((w.alloc (.cells #[.int .u64 11, .int .i64 1, .bool false, .int .u64 12, .int .i64 2, .bool false] 44)).alloc (.cells #[.int .u64 1, .slice none 0 0, .slice none 0 0, .int .u64 1, .int .u64 1, .slice (some ⟨w.heap.size, 0, none⟩) 2 2] 40)).alloc (.cells #[.int .i64 1, .bool true, .int .i64 2, .bool true, .int .i64 3, .bool true] 48)).alloc (.cells #[.int .u64 1, .slice none 0 0, .slice none 0 0, .int .u64 1, .int .u64 1, .slice (some ⟨w.heap.size, 0, none⟩) 2 2, .int .i64 1, .int .i64 5, .bool false] 42))
    fun e w' => ∃ g c, e = .returned (.slice (some ⟨g, 0, none⟩) 1 c) ∧ w'.cell? ⟨g, 0, none⟩ = some (.int .i64 1) ∧ w'.cell? ⟨g, 2, none⟩ = some (.int .i64 3) ∧ Below w.heap.size w w' := by
  have k0 := heap_new w (.cells #[.int .u64 11, .int .i64 1, .bool false, .int .u64 12, .int .i64 2, .bool false] 44)
  have b0 := ob_al w (.cells #[.int .u64 11, .int .i64 1, .bool false, .int .u64 12, .int .i64 2, .bool false] 44)
  have z0 : (w.alloc (.cells #[.int .u64 11, .int .i64 1, .bool false, .int .u64 12, .int .i64 2, .bool false] 44)).heap.size = w.heap.size + 1 := by simp
  generalize hg : w.heap.size = g at *
  generalize w.alloc _ = w1 at *
  have b1 := ob_al w1 (.cells #[.int .u64 1, .slice none 0 0, .slice none 0 0, .int .u64 1, .int .u64 1, .slice (some ⟨g, 0, none⟩) 2 2] 40)
  have z1 : (w1.alloc (.cells #[.int .u64 1, .slice none 0 0, .slice none 0 0, .int .u64 1, .int .u64 1, .slice (some ⟨g, 0, none⟩) 2 2] 40)).heap.size = g + 1 + 1 := by simp [z0]
  have k1 := keep_blkT k0 b1
  have c1 := b0.trans (b1.mono (by omega))
  generalize w1.alloc _ = w2 at *
  have b2 := ob_al w2 (.cells #[.int .i64 1, .bool true, .int .i64 2, .bool true, .int .i64 3, .bool true] 48)
  have s2 := heap_new w2 (.cells #[.int .i64 1, .bool true, .int .i64 2, .bool true, .int .i64 3, .bool true] 48)
  have z2 : (w2.alloc (.cells #[.int .i64 1, .bool true, .int .i64 2, .bool true, .int .i64 3, .bool true] 48)).heap.size = g + 1 + 1 + 1 := by simp [z1]
  have k2 := keep_blkT k1 b2
  have c2 := c1.trans (b2.mono (by omega))
  rw [z1] at s2
  generalize w2.alloc _ = w3 at *
  have b3 := ob_al w3 (.cells #[.int .u64 1, .slice none 0 0, .slice none 0 0, .int .u64 1, .int .u64 1, .slice (some ⟨g, 0, none⟩) 2 2, .int .i64 1, .int .i64 5, .bool false] 42)
  have r3 := heap_new w3 (.cells #[.int .u64 1, .slice none 0 0, .slice none 0 0, .int .u64 1, .int .u64 1, .slice (some ⟨g, 0, none⟩) 2 2, .int .i64 1, .int .i64 5, .bool false] 42)
  have k3 := keep_blkT k2 b3
  have s3 := keep_blkT s2 b3
  have c3 := c2.trans (b3.mono (by omega))
  rw [z2] at r3
  generalize w3.alloc _ = w4 at *
  have hp : RdPe w4 (.slice (some ⟨g, 0, none⟩) 2 2) [(11, 1, false), (12, 2, false)] := OwPe.rd (B := 0) (ownsRow_lit k3 rfl rfl (Nat.zero_le _) (by unfold maxLen; omega))
  have hs : RdSw w4 (.slice (some ⟨g + 1 + 1, 0, none⟩) 3 3) awS := sw_rd (B := 0) (ownsRow_lit s3 rfl rfl (Nat.zero_le _) (by unfold maxLen; omega))
  have hr : RdRv w4 (.slice (some ⟨g + 1 + 1 + 1, 0, none⟩) 1 1) [awR g] := rv_rd (B := 0) (ownsRow_lit r3 rfl rfl (Nat.zero_le _) (by unfold maxLen; omega)) (fun r hr => by
    obtain rfl := List.mem_singleton.1 hr
    exact ⟨Rd.nil _, Rd.nil _, hp⟩)
  refine (decideAll_any 3 0 0 hs hr (by decide) (by simp) (by show sK [awR g] + 2 < _; simp [sK, awR]) (fun r hr => ?_) (fun r hr => ?_) (fun rs hrs r hr => .inr (.inl rfl))).mono ?_
  · obtain rfl := List.mem_singleton.1 hr
    refine ⟨fun q hq => ?_, by show i64 1; unfold i64; decide⟩
    simp only [awR, List.mem_cons, List.not_mem_nil, or_false] at hq
    rcases hq with rfl | rfl <;> (unfold i64; decide)
  · obtain rfl := List.mem_singleton.1 hr
    simp [awR]
  · rintro e w5 ⟨v, rs, p, os, rfl, hp1, _, hrun, ho, hb⟩
    rw [awR_tr] at hp1
    obtain rfl := List.perm_singleton.1 hp1
    rw [awS_ts] at hrun
    have hos := awR_os hrun
    simp only [] at hos
    subst hos
    obtain ⟨a, c, rfl, l1, l2, _, h4⟩ := row_reads ho
    obtain ⟨g', rfl, q0⟩ := h4 0 _ rfl
    obtain ⟨g2, e2, q2⟩ := h4 2 _ rfl
    simp only [Option.some.injEq, Addr.mk.injEq, and_true] at e2
    subst e2
    exact ⟨g', c, rfl, q0, q2, (c3.trans (hb.mono (by have := c3.size; omega)))⟩
set_option maxHeartbeats 4000000 in
theorem awake_any (w : World) : Calls Tryz.prog 8 #[] w fun e w' => e = .returned (.bool true) ∧ Below w.heap.size w w' := by
  have hc := awake_call w
  go_enter Tryz.func8, Tryz.ntmps8
  go_wp2_with fail
  refine hc.mono ?_
  rintro e w1 ⟨g, c, rfl, c0, c2, hb⟩
  go_wp2_with fail
  go_ret
  exact ⟨rfl, hb⟩
end Go.Proofs.YtedfjacmaidhkaaGreat
