/- What awake answers: true. -/
import Derived.Test.YtgienommkifbnabG3
import Derived.Test.YtgienommkifbnabG2
import Derived.Deep.RegionHeld3
namespace Go.Proofs.Ytgienommkifbnab
open Go.RowKit Go.Maps
set_option linter.unusedVariables false
set_option maxRecDepth 100000

theorem isL_eq {S : UInt64 → Nat} {s : Nat} {a b : List UInt64} (ha : IsL S s a) (hb : IsL S s b) : a = b := ha.1.ext hb.1 (fun x => by rw [ha.2, hb.2])

def aw0 : Cn := ([1, 2, 3], [], [])
def awq : List Cg := [(1, 4), (3, 1)]
theorem aw_fold : foldS (seatF [1, 2, 3] []) awq = some (upd (upd (seatF [1, 2, 3] []) 4 1) 1 0) := by
  simp [foldS, awq, chg1]
theorem aw_V : IsL (upd (upd (seatF [1, 2, 3] []) 4 1) 1 0) 1 [2, 3, 4] := by
  refine ⟨by simp [Ris], fun x => ?_⟩
  unfold upd seatF
  by_cases h1 : x = 1
  · subst h1; simp
  · by_cases h4 : x = 4
    · subst h4; simp
    · simp only [h1, h4, if_false, List.not_mem_nil, List.mem_cons, or_false, false_or]
      by_cases h2 : x = 2
      · simp [h2]
      · by_cases h3 : x = 3
        · simp [h3]
        · simp [h2, h3]
theorem aw_L : IsL (upd (upd (seatF [1, 2, 3] []) 4 1) 1 0) 2 [] := by
  refine ⟨by simp [Ris], fun x => ?_⟩
  unfold upd seatF
  simp only [List.not_mem_nil, if_false, false_iff]
  split
  · omega
  · split
    · omega
    · split <;> omega
theorem mems_le (c : Cn) : (mems c).length ≤ c.1.length + (c.2.1.length + c.2.2.length) := by
  have h := cmK_len (srtd (c.1 ++ (c.2.1 ++ c.2.2))) (srtd (c.1 ++ (c.2.1 ++ c.2.2))).length
  have e : (srtd (c.1 ++ (c.2.1 ++ c.2.2))).length = c.1.length + (c.2.1.length + c.2.2.length) := by simp [srtd]
  unfold mems
  omega
theorem chk_of (c : Cn) (h1 : ok1 c.1 = true) (h2 : ok1 c.2.1 = true) (h3 : ok1 c.2.2 = true) (h4 : c.1 ≠ []) (h5 : c.2.2.any (vt c) = false) (h6 : c.1.length + (c.2.1.length + c.2.2.length) ≤ 9) : chk c = true := by
  have := mems_le c
  unfold chk
  simp only [h1, h2, h3, h5, Bool.true_and, Bool.not_false]
  simp [h4]
  omega
theorem aw_chk0 : chk aw0 = true := chk_of _ (by decide) (by decide) (by decide) (by simp [aw0]) (by decide) (by decide)
theorem aw_chk1 : chk (nxt [1, 2, 3] [2, 3, 4] []) = true := chk_of _ (by decide) (by decide) (by decide) (by simp [nxt]) (by decide) (by decide)
theorem aw_ent {res : Cn} {er : Nat} (h : EntR aw0 awq res er) : res = ([2, 3, 4], [1, 2, 3], []) ∧ er = 0 := by
  rcases h with ⟨h, _⟩ | ⟨_, h, _⟩ | ⟨_, _, h, _⟩ | ⟨_, _, S, V', L', hf, hV, hL, h⟩
  · rw [aw_chk0] at h; cases h
  · simp [aw0] at h
  · have := aw_fold; simp only [aw0] at h; rw [h] at this; cases this
  · have e := aw_fold
    simp only [aw0] at hf
    rw [hf] at e
    obtain rfl := Option.some.inj e
    obtain rfl := isL_eq hV aw_V
    obtain rfl := isL_eq hL aw_L
    have hc : chk (nxt aw0.1 [2, 3, 4] []) = true := aw_chk1
    rcases h with ⟨h, _⟩ | ⟨_, rfl, rfl⟩
    · rw [hc] at h; cases h
    · exact ⟨by simp [nxt, aw0], rfl⟩

theorem ru_lit3 (w : World) (p q r : UInt64) (x y z : Int) (hx : x = (p.toNat : Int)) (hy : y = (q.toNat : Int)) (hz : z = (r.toNat : Int)) (g : Nat) (hg : g = w.heap.size) : Ru (w.alloc (.cells #[.int .u64 x, .int .u64 y, .int .u64 z] 31)) (.slice (some ⟨g, 0, none⟩) 3 3) [p, q, r] := by
  subst hx; subst hy; subst hz
  exact (Ou.made 0 w [p, q, r] 3 rfl (Nat.zero_le _) (by simp [maxLen]) #[.int .u64 (p.toNat : Int), .int .u64 (q.toNat : Int), .int .u64 (r.toNat : Int)] rfl g hg).ru
theorem rdx_lit2 (w : World) (p q : Cg) (hp : -9223372036854775808 ≤ p.1 ∧ p.1 ≤ 9223372036854775807) (hq : -9223372036854775808 ≤ q.1 ∧ q.1 ≤ 9223372036854775807) (t : TypeId) (g : Nat) (hg : g = w.heap.size) : RdX (w.alloc (.cells #[.int .i64 p.1, .int .u64 (p.2.toNat : Int), .int .i64 q.1, .int .u64 (q.2.toNat : Int)] t)) (.slice (some ⟨g, 0, none⟩) 2 2) [p, q] := by
  subst hg
  have hc : ∀ j u, #[Value.int .i64 p.1, .int .u64 (p.2.toNat : Int), .int .i64 q.1, .int .u64 (q.2.toNat : Int)][j]? = some u → (w.alloc (.cells #[.int .i64 p.1, .int .u64 (p.2.toNat : Int), .int .i64 q.1, .int .u64 (q.2.toNat : Int)] t)).cell? ⟨w.heap.size, j, none⟩ = some u := fun j u e => by
    rw [World.cell?_alloc_at _ _ _ _ rfl]; exact e
  refine ⟨some ⟨w.heap.size, 0, none⟩, 2, rfl, by simp, by simp [maxLen], fun r hr => ?_, fun i r hi => ?_⟩
  · simp only [List.mem_cons, List.not_mem_nil, or_false] at hr
    rcases hr with rfl | rfl
    · exact hp
    · exact hq
  · match i with
    | 0 => simp at hi; subst hi; exact ⟨_, rfl, hc 0 _ rfl, hc 1 _ rfl⟩
    | 1 => simp at hi; subst hi; exact ⟨_, rfl, hc 2 _ rfl, hc 3 _ rfl⟩
    | i + 2 => simp at hi

set_option maxHeartbeats 2000000 in
theorem awake_any (w : World) : Calls Try.prog 6 #[] w fun e w' => e = .returned (.bool true) ∧ Below w.heap.size w w' := by
  have h1 := ru_lit3 w 1 2 3 1 2 3 rfl rfl rfl w.heap.size rfl
  have h2 := rdx_lit2 (w.alloc (.cells #[.int .u64 1, .int .u64 2, .int .u64 3] 31)) (1, 4) (3, 1) (by decide) (by decide) 42 (w.heap.size + 1) (by simp)
  have hb0 : Below w.heap.size w ((w.alloc (.cells #[.int .u64 1, .int .u64 2, .int .u64 3] 31)).alloc (.cells #[.int .i64 1, .int .u64 4, .int .i64 3, .int .u64 1] 42)) := (u_al w _).alloc (by simp) _
  have hen := enter_any (N := 12) (usort_small len_ok) (c := aw0) (qs := awq) ⟨h1.alloc (.cells #[.int .i64 1, .int .u64 4, .int .i64 3, .int .u64 1] 42), Ru.nil _, Ru.nil _⟩ h2 (by decide) (by decide) (by decide) (.inr fun S V' L' hf hV hL => by
    have e := aw_fold
    simp only [aw0] at hf
    rw [hf] at e
    obtain rfl := Option.some.inj e
    obtain rfl := isL_eq hV aw_V
    obtain rfl := isL_eq hL aw_L
    decide)
  go_enter Try.func6, Try.ntmps6
  go_wp2_with fail
  refine hen.mono ?_
  rintro e w1 ⟨x', y', z', res, er, rfl, hoc, hent, hb1'⟩
  obtain ⟨rfl, rfl⟩ := aw_ent hent
  have hb1 : Below w.heap.size w w1 := hb0.trans (hb1'.mono hb0.size)
  obtain ⟨k1, k2, k3⟩ := hoc.rc
  simp only [] at k1 k2 k3
  obtain ⟨ax, cx, rfl⟩ := k1.shape
  obtain ⟨ay, cy, rfl⟩ := k2.shape
  obtain ⟨az, cz, rfl⟩ := k3.shape
  clear hen hent hoc hb1' h1 h2 hb0
  simp only [List.length_cons, List.length_nil, Nat.zero_add, Nat.reduceAdd] at k1 k2 k3 ⊢
  have hA := u_al w1 (.cells #[.slice ax 3 cx, .slice ay 3 cy, .slice az 0 cz] 24)
  have hKC : ∀ W, Below (w1.heap.size + 1) (w1.alloc (.cells #[.slice ax 3 cx, .slice ay 3 cy, .slice az 0 cz] 24)) W → W.cell? ⟨w1.heap.size, 0, none⟩ = some (.slice ax 3 cx) ∧ W.cell? ⟨w1.heap.size, 1, none⟩ = some (.slice ay 3 cy) ∧ W.cell? ⟨w1.heap.size, 2, none⟩ = some (.slice az 0 cz) := fun W hW => box3 hW rfl
  have HKC : Hid _ := hKC
  clear hKC
  have hz : (w1.alloc (.cells #[.slice ax 3 cx, .slice ay 3 cy, .slice az 0 cz] 24)).heap.size = w1.heap.size + 1 := by simp
  go_wp2_with fail
  generalize (w1.alloc (.cells #[.slice ax 3 cx, .slice ay 3 cy, .slice az 0 cz] 24)) = W0 at *
  have hW0 : Below w.heap.size w W0 := hb1.trans (hA.mono hb1.size)
  have hs1 := hA.size
  have l1 := ru_lit3 W0 2 3 4 2 3 4 rfl rfl rfl (w1.heap.size + 1) hz.symm
  have q1 := sameU_any ((k1.below hA (Nat.le_refl _)).alloc (.cells #[.int .u64 2, .int .u64 3, .int .u64 4] 31)) l1
  rw [show decide (([2, 3, 4] : List UInt64) = [2, 3, 4]) = true from decide_eq_true rfl] at q1
  refine q1.mono ?_
  rintro e w2 ⟨rfl, n2, rfl⟩
  have hb2 : Below (w1.heap.size + 1) W0 ((W0.alloc (.cells #[.int .u64 2, .int .u64 3, .int .u64 4] 31)).drewN n2) := Below.drN ((Below.refl _ _).alloc (by omega) _) n2
  have hz2 : ((W0.alloc (.cells #[.int .u64 2, .int .u64 3, .int .u64 4] 31)).drewN n2).heap.size = w1.heap.size + 2 := by
    show (W0.alloc (.cells #[.int .u64 2, .int .u64 3, .int .u64 4] 31)).heap.size = _
    rw [World.size_alloc, hz]
  obtain ⟨d0, d1, d2⟩ := HKC.out _ hb2
  clear q1 l1
  go_wp2_with fail
  generalize hW2 : (W0.alloc (.cells #[.int .u64 2, .int .u64 3, .int .u64 4] 31)).drewN n2 = W2 at *
  have hA2 : Below w1.heap.size w1 W2 := hA.trans (hb2.mono (Nat.le_succ _))
  have l2 := ru_lit3 W2 1 2 3 1 2 3 rfl rfl rfl (w1.heap.size + 1 + 1) (by omega)
  have q2 := sameU_any ((k2.below hA2 (Nat.le_refl _)).alloc (.cells #[.int .u64 1, .int .u64 2, .int .u64 3] 31)) l2
  rw [show decide (([1, 2, 3] : List UInt64) = [1, 2, 3]) = true from decide_eq_true rfl] at q2
  refine q2.mono ?_
  rintro e w3 ⟨rfl, n3, rfl⟩
  have hb3 : Below (w1.heap.size + 1) W0 ((W2.alloc (.cells #[.int .u64 1, .int .u64 2, .int .u64 3] 31)).drewN n3) := Below.drN (hb2.alloc (by omega) _) n3
  obtain ⟨e0, e1, e2⟩ := HKC.out _ hb3
  clear q2 l2 d0 d1 d2
  have hA3 : Below w1.heap.size w1 ((W2.alloc (.cells #[.int .u64 1, .int .u64 2, .int .u64 3] 31)).drewN n3) := hA.trans (hb3.mono (Nat.le_succ _))
  have hj := ujoint_any (c := ([2, 3, 4], [1, 2, 3], [])) ⟨k1.below hA3 (Nat.le_refl _), k2.below hA3 (Nat.le_refl _), k3.below hA3 (Nat.le_refl _)⟩
  have hB3 : Below w.heap.size w ((W2.alloc (.cells #[.int .u64 1, .int .u64 2, .int .u64 3] 31)).drewN n3) := hb1.trans (hA3.mono hb1.size)
  go_wp2_with fail
  refine hj.mono ?_
  rintro e w4 ⟨rfl, hb4⟩
  go_wp2_with fail
  go_ret
  exact ⟨rfl, hB3.trans (hb4.mono hB3.size)⟩
end Go.Proofs.Ytgienommkifbnab

/- Quorums meet: the mathematics of ConfMeets. -/
namespace Go.Proofs.Ytgienommkifbnab
open Go.RowKit Go.Sort
set_option linter.unusedVariables false
set_option linter.unusedSimpArgs false
set_option maxRecDepth 100000

/-- Have two lists a number in common that is in a third one? -/
def mtF (a b m : List UInt64) : Bool := a.any (fun p => decide (p ∈ b) && decide (p ∈ m))
theorem mtF_of {a b m : List UInt64} {p : UInt64} (h1 : p ∈ a) (h2 : p ∈ b) (h3 : p ∈ m) : mtF a b m = true := by
  unfold mtF
  rw [List.any_eq_true]
  exact ⟨p, h1, by simp [h2, h3]⟩
theorem cnt_meet (a b vs : List UInt64) (h : vs.length < cnt a vs + cnt b vs) : ∃ p ∈ vs, p ∈ a ∧ p ∈ b := by
  unfold cnt at h
  induction vs with
  | nil => simp at h
  | cons p r ih =>
    by_cases ha : p ∈ a
    · by_cases hb : p ∈ b
      · exact ⟨p, List.mem_cons_self .., ha, hb⟩
      · simp only [List.filter_cons, ha, hb, decide_true, decide_false, if_true, Bool.false_eq_true, if_false, List.length_cons] at h
        obtain ⟨q, hq, h1⟩ := ih (by omega)
        exact ⟨q, List.mem_cons_of_mem _ hq, h1⟩
    · by_cases hb : p ∈ b
      · simp only [List.filter_cons, ha, hb, decide_true, decide_false, if_true, Bool.false_eq_true, if_false, List.length_cons] at h
        obtain ⟨q, hq, h1⟩ := ih (by omega)
        exact ⟨q, List.mem_cons_of_mem _ hq, h1⟩
      · simp only [List.filter_cons, ha, hb, decide_true, decide_false, if_true, Bool.false_eq_true, if_false, List.length_cons] at h
        obtain ⟨q, hq, h1⟩ := ih (by omega)
        exact ⟨q, List.mem_cons_of_mem _ hq, h1⟩
/-- A quorum. -/
def qu (c : Cn) (l : List UInt64) : Bool := chk c && agr (cnt l) c
theorem qu_1 {c : Cn} {l : List UInt64} (h : qu c l = true) : c.1.length < 2 * cnt l c.1 := by
  unfold qu agr at h
  simp only [Bool.and_eq_true, decide_eq_true_eq] at h
  exact h.2.1
theorem qu_2 {c : Cn} {l : List UInt64} (h : qu c l = true) (h0 : c.2.1 ≠ []) : c.2.1.length < 2 * cnt l c.2.1 := by
  unfold qu agr at h
  simp only [Bool.and_eq_true, Bool.or_eq_true, decide_eq_true_eq] at h
  rcases h.2.2 with h | h
  · exact absurd (List.length_eq_zero_iff.1 h) h0
  · exact h
theorem meet_one {c : Cn} {a b vs : List UInt64} (h1 : vs.length < 2 * cnt a vs) (h2 : vs.length < 2 * cnt b vs) (h : ∀ p ∈ vs, p ∈ mems c) : mtF a b (mems c) = true := by
  obtain ⟨p, hp, ha, hb⟩ := cnt_meet a b vs (by omega)
  exact mtF_of ha hb (h p hp)
theorem meet_self {c : Cn} {a b : List UInt64} (h1 : qu c a = true) (h2 : qu c b = true) : mtF a b (mems c) = true :=
  meet_one (qu_1 h1) (qu_1 h2) (fun p hp => ((mems_is c).2 p).2 (.inl hp))
theorem chk_ne {c : Cn} (h : chk c = true) : c.1 ≠ [] := by
  unfold chk at h
  simp only [Bool.and_eq_true, decide_eq_true_eq] at h
  exact h.2.2.2.1
/-- What Enter makes where it refuses nothing. -/
theorem ent_ok {c : Cn} {qs : List Cg} {res : Cn} (h : EntR c qs res 0) : chk c = true ∧ c.2.1 = [] ∧ chk res = true ∧ ∃ V' L', res = nxt c.1 V' L' := by
  rcases h with ⟨_, _, h⟩ | ⟨_, _, _, h⟩ | ⟨_, _, _, _, h⟩ | ⟨h1, h2, S, V', L', _, _, _, ⟨_, _, h⟩ | ⟨h3, h4, _⟩⟩
  · omega
  · omega
  · omega
  · omega
  · exact ⟨h1, h2, by rw [h4]; exact h3, V', L', h4⟩
theorem nxt_joint {V V' L' : List UInt64} (hV : V ≠ []) : (nxt V V' L').2.1 = V ∧ 0 < (nxt V V' L').2.1.length ∨ ((nxt V V' L').2.1 = [] ∧ V' = V) := by
  unfold nxt
  by_cases h : V' = V
  · exact .inr ⟨by simp [h], h⟩
  · refine .inl ⟨by simp [h], ?_⟩
    simp only [h, if_false]
    exact List.length_pos_iff.2 hV
theorem meet_next {c : Cn} {qs : List Cg} {d : Cn} {a b : List UInt64} (h : EntR c qs d 0) (h1 : qu c a = true) (h2 : qu d b = true) : mtF a b (mems c) = true := by
  obtain ⟨hc, ho, hd, V', L', rfl⟩ := ent_ok h
  have hne := chk_ne hc
  refine meet_one (qu_1 h1) ?_ (fun p hp => ((mems_is c).2 p).2 (.inl hp))
  rcases nxt_joint (V' := V') (L' := L') hne with ⟨e, h0⟩ | ⟨e, rfl⟩
  · have := qu_2 h2 (fun q => by rw [q] at h0; simp at h0)
    rw [e] at this
    exact this
  · have h3 := qu_1 h2
    exact h3
/-- What Leave makes. -/
def lv (d : Cn) : Cn := (d.1, [], d.2.2)
theorem ris_len {a b : List UInt64} (ha : Ris a) (h : ∀ x ∈ a, x ∈ b) : a.length ≤ b.length := by
  have nd : a.Nodup := ha.imp (fun h e => by subst e; omega)
  clear ha
  induction a generalizing b with
  | nil => simp
  | cons x r ih =>
    have hx := h x (List.mem_cons_self ..)
    have hn := List.nodup_cons.1 nd
    have := ih (b := b.erase x) (fun y hy => by
      have hne : y ≠ x := fun e => hn.1 (by rw [← e]; exact hy)
      exact (List.mem_erase_of_ne hne).2 (h y (List.mem_cons_of_mem _ hy))) hn.2
    rw [List.length_erase_of_mem hx] at this
    have hp := List.length_pos_of_mem hx
    simp only [List.length_cons]
    omega
theorem chk_lv {d : Cn} (h : chk d = true) : chk (lv d) = true := by
  have hm : (mems (lv d)).length ≤ (mems d).length := ris_len (mems_is (lv d)).1 (fun x hx => by
    rw [(mems_is d).2]
    rcases ((mems_is (lv d)).2 x).1 hx with h | h | h
    · exact .inl h
    · simp [lv] at h
    · exact .inr (.inr h))
  unfold chk at h ⊢
  simp only [Bool.and_eq_true, decide_eq_true_eq, Bool.not_eq_true'] at h ⊢
  obtain ⟨h1, h2, h3, h4, h5, h6⟩ := h
  refine ⟨h1, by show ok1 [] = true; decide, h3, h4, ?_, by omega⟩
  rw [List.any_eq_false] at h5 ⊢
  intro x hx hv
  refine h5 x hx ?_
  unfold vt at hv ⊢
  have hv2 : (decide (x ∈ d.1) || decide (x ∈ ([] : List UInt64))) = true := hv
  have hx1 : x ∈ d.1 := by
    rcases Bool.or_eq_true_iff.1 hv2 with h | h
    · exact of_decide_eq_true h
    · exact absurd (of_decide_eq_true h) (by simp)
  simp [hx1]
theorem meet_left {d : Cn} {a b : List UInt64} (h1 : qu d a = true) (h2 : qu (lv d) b = true) : mtF a b (mems d) = true :=
  have h3 := qu_1 h2
  meet_one (qu_1 h1) h3 (fun p hp => ((mems_is d).2 p).2 (.inl hp))
end Go.Proofs.Ytgienommkifbnab

/- The mathematics of ConfChain. -/
namespace Go.Proofs.Ytgienommkifbnab
open Go.RowKit Go.Sort
set_option linter.unusedVariables false
set_option linter.unusedSimpArgs false
set_option maxRecDepth 100000

theorem cnt_all {l vs : List UInt64} (h : ∀ p ∈ vs, p ∈ l) : cnt l vs = vs.length := by
  unfold cnt
  rw [List.filter_eq_self.2 (fun p hp => by simp [h p hp])]
theorem cnt_no {l vs : List UInt64} (h : ∀ p ∈ vs, p ∉ l) : cnt l vs = 0 := by
  unfold cnt
  rw [List.filter_eq_nil_iff.2 (fun p hp => by simp [h p hp])]
  rfl
theorem qu_all {d : Cn} (h : chk d = true) : qu d (mems d) = true := by
  have hm := (mems_is d).2
  have hne := chk_ne h
  have hp := List.length_pos_iff.2 hne
  unfold qu agr
  rw [h, cnt_all (fun p hp => (hm p).2 (.inl hp)), cnt_all (fun p hp => (hm p).2 (.inr (.inl hp)))]
  simp only [Bool.true_and, Bool.and_eq_true, Bool.or_eq_true, decide_eq_true_eq]
  omega
theorem chk_lrn {d : Cn} (h : chk d = true) (p : UInt64) (hp : p ∈ d.1) : p ∉ d.2.2 := by
  intro hl
  unfold chk at h
  simp only [Bool.and_eq_true, decide_eq_true_eq, Bool.not_eq_true'] at h
  have h5 := List.any_eq_false.1 h.2.2.2.2.1 p hl
  exact h5 (by unfold vt; simp [hp])
theorem qu_lrn {d : Cn} (h : chk d = true) : qu d d.2.2 = false := by
  unfold qu agr
  rw [cnt_no (fun p hp => chk_lrn h p hp)]
  simp
theorem qu_nil (d : Cn) : qu d [] = false := by
  unfold qu agr
  rw [cnt_no (l := []) (vs := d.1) (fun p _ => by simp)]
  simp
theorem ent_two {c d : Cn} {qs : List Cg} {er : Nat} (h : EntR c qs d er) (hc : c.2.1 = []) : er = 70 ∨ (er = 0 ∧ chk d = true) := by
  rcases h with ⟨_, _, h⟩ | ⟨_, h1, _, h⟩ | ⟨_, _, _, _, h⟩ | ⟨_, _, S, V', L', _, _, _, ⟨_, _, h⟩ | ⟨h1, h2, h⟩⟩
  · exact .inl h
  · rw [hc] at h1; simp at h1
  · exact .inl h
  · exact .inl h
  · exact .inr ⟨h, by rw [h2]; exact h1⟩
def ch0 : Cn := ([1, 2, 3], [], [])
theorem chk_ch0 : chk ch0 = true := aw_chk0
end Go.Proofs.Ytgienommkifbnab

/- What the program's Leave answers. -/
namespace Go.Proofs.Ytgienommkifbnab
open Go.RowKit Go.Maps
set_option linter.unusedVariables false
set_option maxRecDepth 100000

def leF (c : Cn) : Cn × Nat := if chk c = true then (if c.2.1.length = 0 then (none3, 71) else (lv c, 0)) else (none3, 70)

set_option maxHeartbeats 2000000 in
theorem leave_any {N : Nat} (hSo : SortsTo N) {x y z : Value} {c : Cn} {w : World} (hr : Rc w x y z c) (h27 : 27 ≤ N) (hN : N ≤ 1099511627776) :
    Calls Try.prog 15 #[.agg #[x, y, z]] w fun e w' => ∃ (x' y' z' : Value), e = .returned (.tuple #[.agg #[x', y', z'], .int .i64 ((leF c).2 : Nat)]) ∧ Oc w.heap.size w' x' y' z' (leF c).1 ∧ Below w.heap.size w w' := by
  obtain ⟨V, O, L⟩ := c
  obtain ⟨ax, cx, rfl⟩ := hr.1.shape
  obtain ⟨ay, cy, rfl⟩ := hr.2.1.shape
  obtain ⟨az, cz, rfl⟩ := hr.2.2.shape
  generalize hF : leF (V, O, L) = F
  unfold leF at hF
  simp only [] at hF
  have HF : Hid _ := hF
  clear hF
  have hB0 : Below w.heap.size w ((w.alloc (.cells #[.slice ax V.length cx, .slice ay O.length cy, .slice az L.length cz] 24)).alloc (.cells #[.slice none 0 0, .slice none 0 0, .slice none 0 0] 24)) := (u_al w _).alloc (by simp) _
  have hz0 : ((w.alloc (.cells #[.slice ax V.length cx, .slice ay O.length cy, .slice az L.length cz] 24)).alloc (.cells #[.slice none 0 0, .slice none 0 0, .slice none 0 0] 24)).heap.size = w.heap.size + 2 := by simp
  have hbx : ((w.alloc (.cells #[.slice ax V.length cx, .slice ay O.length cy, .slice az L.length cz] 24)).alloc (.cells #[.slice none 0 0, .slice none 0 0, .slice none 0 0] 24)).heap[w.heap.size]? = some (.cells #[.slice ax V.length cx, .slice ay O.length cy, .slice az L.length cz] 24 (0, 0)) := by
    rw [Below.heap_alloc _ _ _ (by simp)]; exact heap_alloc_new w _
  have hrs : ((w.alloc (.cells #[.slice ax V.length cx, .slice ay O.length cy, .slice az L.length cz] 24)).alloc (.cells #[.slice none 0 0, .slice none 0 0, .slice none 0 0] 24)).heap[w.heap.size + 1]? = some (.cells #[.slice none 0 0, .slice none 0 0, .slice none 0 0] 24 (0, 0)) := by
    have := heap_alloc_new (w.alloc (.cells #[.slice ax V.length cx, .slice ay O.length cy, .slice az L.length cz] 24)) (.cells #[.slice none 0 0, .slice none 0 0, .slice none 0 0] 24)
    rw [World.size_alloc] at this
    exact this
  go_enter Try.func15, Try.ntmps15
  go_wp2_with fail
  generalize ((w.alloc (.cells #[.slice ax V.length cx, .slice ay O.length cy, .slice az L.length cz] 24)).alloc (.cells #[.slice none 0 0, .slice none 0 0, .slice none 0 0] 24)) = W0 at *
  have HKB : Hid (∀ W, Below W0.heap.size W0 W → Below w.heap.size w W) := fun W hW => hB0.trans (hW.mono hB0.size)
  have HKC : Hid (∀ W, Below W0.heap.size W0 W → W.cell? ⟨w.heap.size, 0, none⟩ = some (.slice ax V.length cx) ∧ W.cell? ⟨w.heap.size, 1, none⟩ = some (.slice ay O.length cy) ∧ W.cell? ⟨w.heap.size, 2, none⟩ = some (.slice az L.length cz)) := fun W hW => by
    obtain ⟨q0, q1, q2, _⟩ := at3 ((hW.block _ (by omega)).trans hbx)
    exact ⟨q0, q1, q2⟩
  have HKR : Hid (∀ W, Below W0.heap.size W0 W → W.heap[w.heap.size + 1]? = some (.cells #[.slice none 0 0, .slice none 0 0, .slice none 0 0] 24 (0, 0))) := fun W hW => (hW.block _ (by omega)).trans hrs
  have HRC : Hid (∀ W, Below W0.heap.size W0 W → Rc W (.slice ax V.length cx) (.slice ay O.length cy) (.slice az L.length cz) (V, O, L)) := fun W hW => hr.below (HKB.out W hW) (Nat.le_refl _)
  have HOUT : Hid (∀ (W : World) (x' y' z' : Value) (res : Cn), Below W0.heap.size W0 W → Oc W0.heap.size W x' y' z' res → ∀ W', W' = ((W.setCell ⟨w.heap.size + 1, 0, none⟩ x').setCell ⟨w.heap.size + 1, 1, none⟩ y').setCell ⟨w.heap.size + 1, 2, none⟩ z' → (W'.cell? ⟨w.heap.size + 1, 0, none⟩ = some x' ∧ W'.cell? ⟨w.heap.size + 1, 1, none⟩ = some y' ∧ W'.cell? ⟨w.heap.size + 1, 2, none⟩ = some z') ∧ Oc w.heap.size W' x' y' z' res ∧ Below w.heap.size w W') := fun W x' y' z' res hW ho => outO (HKR.out W hW) (Nat.le_succ _) (by omega) (HKB.out W hW) ho
  clear hbx hrs hr hB0
  obtain ⟨c0, c1, c2⟩ := HKC.out W0 (Below.refl _ _)
  have hck := check_any hSo (HRC.out W0 (Below.refl _ _)) (.inr h27) hN
  cases hchk : chk (V, O, L) with
  | false =>
    rw [hchk] at hck
    obtain rfl : (none3, 70) = F := by rw [← HF.out, hchk]; rfl
    clear HF
    go_wp2_with fail
    refine hck.mono ?_
    rintro e w1 ⟨rfl, hb1⟩
    obtain ⟨t0, t1, t2, tz⟩ := at3 (HKR.out w1 hb1)
    have tz0 := tz 0
    have tz1 := tz 1
    have tz2 := tz 2
    clear tz
    go_wp2_with fail
    obtain ⟨⟨k0, k1, k2⟩, hoc, hbz⟩ := HOUT.out w1 _ _ _ none3 hb1 (Oc.nil _ _) _ rfl
    generalize (((w1.setCell ⟨w.heap.size + 1, 0, none⟩ (.slice none 0 0)).setCell ⟨w.heap.size + 1, 1, none⟩ (.slice none 0 0)).setCell ⟨w.heap.size + 1, 2, none⟩ (.slice none 0 0)) = wz at *
    refine bodyPost_ret (v := .tuple #[.agg #[.slice none 0 0, .slice none 0 0, .slice none 0 0], .int .i64 70]) (by simp [results, Try.results15, go_sem, k0, k1, k2]; try rfl) rfl ?_
    exact ⟨_, _, _, rfl, hoc, hbz⟩
  | true =>
    rw [hchk] at hck
    go_wp2_with fail
    refine hck.mono ?_
    rintro e w1 ⟨rfl, hb1⟩
    clear hck
    obtain ⟨d0, d1, d2⟩ := HKC.out w1 hb1
    have hjo := ujoint_any (HRC.out w1 hb1)
    simp only [] at hjo
    by_cases hO : 0 < O.length
    · rw [decide_eq_true hO] at hjo
      obtain rfl : (lv (V, O, L), 0) = F := by rw [← HF.out, hchk]; simp only [if_true]; rw [if_neg (by omega)]
      have hg9 : V.length ≤ 9 ∧ L.length ≤ 9 := by
        have h := hchk
        unfold chk ok1 at h
        simp only [Bool.and_eq_true, decide_eq_true_eq] at h
        exact ⟨h.1.1, h.2.2.1.1⟩
      clear HF hchk
      go_wp2_with fail
      refine hjo.mono ?_
      rintro e w2 ⟨rfl, hb2'⟩
      have hb2 : Below W0.heap.size W0 w2 := hb1.trans (hb2'.mono hb1.size)
      obtain ⟨s0, s1, s2⟩ := HKC.out w2 hb2
      clear d0 d1 d2 c0 c1 c2 hjo
      have hv40 : (V, O, L).1.length ≤ 1099511627776 := by show V.length ≤ _; omega
      have hl40 : (V, O, L).2.2.length ≤ 1099511627776 := by show L.length ≤ _; omega
      have HC1 : Hid (∀ W, Below W0.heap.size W0 W → Calls Try.prog 32 #[.slice ax V.length cx] W fun e w' => ∃ v', e = .returned v' ∧ Ou W0.heap.size w' v' V ∧ Below W0.heap.size W0 w') := fun W hW => (uclone_any (HRC.out W hW).1 hv40).mono (by
        rintro e w' ⟨v', rfl, q1, q2⟩
        exact ⟨v', rfl, q1.mono hW.size, hW.trans (q2.mono hW.size)⟩)
      have HC2 : Hid (∀ W, Below W0.heap.size W0 W → Calls Try.prog 32 #[.slice az L.length cz] W fun e w' => ∃ v', e = .returned v' ∧ Ou W.heap.size w' v' L ∧ Below W.heap.size W w') := fun W hW => uclone_any (HRC.out W hW).2.2 hl40
      go_wp2_with fail
      go_region_held3 (fun w' => w'.cell? ⟨w.heap.size, 0, none⟩ = some (.slice ax V.length cx) ∧ w'.cell? ⟨w.heap.size, 1, none⟩ = some (.slice ay O.length cy) ∧ w'.cell? ⟨w.heap.size, 2, none⟩ = some (.slice az L.length cz)) (go_keep) (first
        | (go_at_call 32; refine (HC2.out w3 hb3).mono ?_; rintro e w4 ⟨v4, rfl, ho4, hb4'⟩; have hb4 := hb3.trans (hb4'.mono hb3.size); have ho3' := ho3.below hb4' (Nat.le_refl _); have ho4' := ho4.mono hb3.size; obtain ⟨a4, e4, rfl⟩ := ho4.shape; obtain ⟨t0, t1, t2, tz⟩ := at3 (HKR.out w4 hb4); have tz0 := tz 0; have tz1 := tz 1; have tz2 := tz 2; clear tz; obtain ⟨r0, r1, r2⟩ := HKC.out w4 hb4)
        | (go_at_call 32; refine (HC1.out _ (Below.drN hb2 1)).mono ?_; rintro e w3 ⟨v3, rfl, ho3, hb3⟩; obtain ⟨a3, e3, rfl⟩ := ho3.shape; obtain ⟨p0, p1, p2⟩ := HKC.out w3 hb3)
        | fail)
      go_wp2_with fail
      obtain ⟨⟨k0, k1, k2⟩, hoc, hbz⟩ := HOUT.out w4 (.slice a3 V.length e3) (.slice none 0 0) (.slice a4 L.length e4) (lv (V, O, L)) hb4 ⟨ho3', Ou.nil _ _, ho4'⟩ _ rfl
      clear hv40 hl40
      generalize (((w4.setCell ⟨w.heap.size + 1, 0, none⟩ (.slice a3 V.length e3)).setCell ⟨w.heap.size + 1, 1, none⟩ (.slice none 0 0)).setCell ⟨w.heap.size + 1, 2, none⟩ (.slice a4 L.length e4)) = wz at *
      refine bodyPost_ret (v := .tuple #[.agg #[.slice a3 V.length e3, .slice none 0 0, .slice a4 L.length e4], .int .i64 0]) (by simp [results, Try.results15, go_sem, k0, k1, k2]; try rfl) rfl ?_
      exact ⟨_, _, _, rfl, hoc, hbz⟩
    · rw [decide_eq_false hO] at hjo
      obtain rfl : (none3, 71) = F := by rw [← HF.out, hchk]; simp only [if_true]; rw [if_pos (by omega)]
      clear HF
      go_wp2_with fail
      refine hjo.mono ?_
      rintro e w2 ⟨rfl, hb2'⟩
      have hb2 : Below W0.heap.size W0 w2 := hb1.trans (hb2'.mono hb1.size)
      obtain ⟨t0, t1, t2, tz⟩ := at3 (HKR.out w2 hb2)
      have tz0 := tz 0
      have tz1 := tz 1
      have tz2 := tz 2
      clear tz
      go_wp2_with fail
      obtain ⟨⟨k0, k1, k2⟩, hoc, hbz⟩ := HOUT.out w2 _ _ _ none3 hb2 (Oc.nil _ _) _ rfl
      generalize (((w2.setCell ⟨w.heap.size + 1, 0, none⟩ (.slice none 0 0)).setCell ⟨w.heap.size + 1, 1, none⟩ (.slice none 0 0)).setCell ⟨w.heap.size + 1, 2, none⟩ (.slice none 0 0)) = wz at *
      refine bodyPost_ret (v := .tuple #[.agg #[.slice none 0 0, .slice none 0 0, .slice none 0 0], .int .i64 71]) (by simp [results, Try.results15, go_sem, k0, k1, k2]; try rfl) rfl ?_
      exact ⟨_, _, _, rfl, hoc, hbz⟩
end Go.Proofs.Ytgienommkifbnab
