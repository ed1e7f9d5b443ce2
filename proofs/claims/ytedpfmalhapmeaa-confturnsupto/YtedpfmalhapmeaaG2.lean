/- slices.Grow of a nil slice, slices.Concat, at uint64. -/
import Derived.Test.YtedpfmalhapmeaaG1
import Derived.Lib.AppendZerosOnto
import Derived.Lib.Walk
import Derived.Lib.SliceRun
import Derived.Sort.LotA
import Derived.Shelf.Small.Bits
import Derived.WalkKit
import Derived.Test.YtedpfmalhapmeaaProg
namespace Go.Proofs.Ytedpfmalhapmeaa
open Go.RowKit
set_option linter.unusedVariables false
set_option maxRecDepth 100000

set_option maxHeartbeats 1000000 in
theorem ugrow_any (n : Nat) (w : World) (hn : n ≤ 1099511627776) : Calls Try.prog 53 #[.slice none 0 0, .int .i64 n] w fun e w' => ∃ v, e = .returned v ∧ Ou w.heap.size w' v [] ∧ Below w.heap.size w w' := by
  obtain ⟨i, hi, hz0, hz1, hz2⟩ := info_parts Try.infoU
  by_cases h0 : n = 0
  · subst h0
    go_enter Try.func53, Try.ntmps53
    go_wp2_with fail
    go_ret
    exact ⟨_, rfl, Ou.nil _ _, Below.refl _ _⟩
  · have hold : (Builtin.firstCells i.size 0 (.slice none 0 0)).run Try.prog w.drew = .ok ([] : List Value).toArray w.drew := run_firstCells_none w.drew i.size 0 0 0
    have hrz : ∀ ty, (Builtin.append_ #[22, 3] ty #[.slice none 0 0, .int .i64 n]).run Try.prog w = _ := fun ty => Lib.run_append_grow_zeros w 22 3 ty 25 i (.int .u64 0) .i64 .i64 Try.underlying22 Try.underlying3 hi hz0 none 0 0 [] hold n (by omega) (by omega) (by omega) (by omega) (by rw [hz2]; omega) (by rw [hz2]; exact growslice_fits (by omega) (by omega))
    simp only [Nat.zero_add] at hrz
    have hG1 := grownCap_ge w n 0 25
    have hG2 := grownCap_le_maxLen w n 0 25 (by unfold maxLen; omega)
    generalize grownCap w n 0 25 = G at *
    have HO : Hid (Ou w.heap.size (w.alloc (.cells (Builtin.zeroCells #[Value.int .u64 0] n ++ Builtin.zeroCells #[Value.int .u64 0] (G - n)) 25)).drew (.slice (some ⟨w.heap.size, 0, none⟩) 0 G) []) := by
      refine ⟨rfl, .inr ⟨w.heap.size, G, _, rfl, Nat.le_refl _, heap_alloc_new w _, Nat.zero_le _, hG2, ?_, by simp [celU]⟩⟩
      rw [Array.size_append, size_zeroCells, size_zeroCells]
      simp
      omega
    unfold maxLen at hG2
    have hnp : (0 : Int) < (n : Int) := by omega
    go_enter Try.func53, Try.ntmps53
    go_wp2_with (at_builtin; refine Lib.wpList_append_run _ rfl _ _ _ _ rfl _ _ rfl rfl _ _ (hrz _) ?_)
    all_goals (go_ret; exact ⟨_, rfl, HO.out, (u_al w _).trans ((u_drew _).mono (by simp))⟩)

/-- A slice of lists of numbers. -/
def RuS (w : World) (v : Value) (ls : List (List UInt64)) : Prop :=
  ∃ ao c, v = .slice ao ls.length c ∧ ls.length ≤ c ∧ c ≤ maxLen ∧ ∀ i, (h : i < ls.length) → ∃ a u, ao = some a ∧ w.cell? (a.add i) = some u ∧ Ru w u ls[i]
theorem rus_three {w : World} {x y z : Value} {a b c : List UInt64} (h1 : Ru w x a) (h2 : Ru w y b) (h3 : Ru w z c) (t : TypeId) (g : Nat) (hg : g = w.heap.size) : RuS (w.alloc (.cells #[x, y, z] t)) (.slice (some ⟨g, 0, none⟩) 3 3) [a, b, c] := by
  subst hg
  have hb := u_al w (.cells #[x, y, z] t)
  have hc : ∀ j u, #[x, y, z][j]? = some u → (w.alloc (.cells #[x, y, z] t)).cell? ⟨w.heap.size, j, none⟩ = some u := fun j u e => by
    rw [World.cell?_alloc_at _ _ _ _ rfl]; exact e
  refine ⟨some ⟨w.heap.size, 0, none⟩, 3, rfl, by simp, by simp [maxLen], fun i hi => ?_⟩
  match i, hi with
  | 0, _ => exact ⟨_, x, rfl, hc 0 x rfl, h1.below hb (Nat.le_refl _)⟩
  | 1, _ => exact ⟨_, y, rfl, hc 1 y rfl, h2.below hb (Nat.le_refl _)⟩
  | 2, _ => exact ⟨_, z, rfl, hc 2 z rfl, h3.below hb (Nat.le_refl _)⟩

theorem flat_le (ls : List (List UInt64)) (k : Nat) : (ls.take k).flatten.length ≤ ls.flatten.length := by
  have : ls.flatten = (ls.take k).flatten ++ (ls.drop k).flatten := by rw [← List.flatten_append, List.take_append_drop]
  rw [this]; simp

set_option maxHeartbeats 1000000 in
theorem uconcat_any {v : Value} {ls : List (List UInt64)} {w : World} (hr : RuS w v ls) (hn : ls.length ≤ 1099511627776) (hl : ls.flatten.length ≤ 1099511627776) :
    Calls Try.prog 31 #[v] w fun e w' => ∃ v', e = .returned v' ∧ Ou w.heap.size w' v' ls.flatten ∧ Below w.heap.size w w' := by
  obtain ⟨ao, c, rfl, h1, h2, h4⟩ := hr
  unfold maxLen at h2
  have hfl := flat_le ls
  go_enter Try.func31, Try.ntmps31
  go_wp2_with fail
  go_loopw [3, 5, 11] (fun sz _ i wr => ∃ k q : Nat, k ≤ ls.length ∧ i = .int .i64 k ∧ sz = .int .i64 q ∧ Hid (q = (ls.take k).flatten.length) ∧ wr = w) (fun _ _ i _ => ls.length - (intOf i).toNat)
  case atStart => exact ⟨0, 0, Nat.zero_le _, rfl, rfl, by show 0 = _; simp, rfl⟩
  case round =>
    obtain ⟨k, q, hk, rfl, rfl, HQ, hwr⟩ := hrel
    obtain rfl : w = wr := hwr.symm
    clear hwr
    have hq := HQ.out
    have hqk := hfl k
    have hq2 : q ≤ 1099511627776 := by omega
    clear hq hqk
    by_cases hlt : k < ls.length
    · obtain ⟨a, u, rfl, hc, hru⟩ := h4 k hlt
      have HT : Hid ((ls.take (k + 1)).flatten.length = q + ls[k].length) := by
        show _ = _
        rw [List.take_succ_eq_append_getElem hlt, HQ.out, List.flatten_append, List.length_append]; simp
      have hk1 := hfl (k + 1)
      have hq3 : q + ls[k].length ≤ 1099511627776 := by rw [← HT.out]; omega
      obtain ⟨au, cu, rfl⟩ := hru.shape
      clear h4 hru hk1 hfl
      generalize ls[k].length = m at *
      go_wp2_with fail
      exact ⟨⟨k + 1, q + m, by omega, by go_num, by go_num, HT.out.symm, trivial⟩, by simp [intOf]; omega⟩
    · obtain rfl : k = ls.length := by omega
      clear hfl
      go_wp2_with fail
      refine (ugrow_any q w hq2).mono ?_
      rintro e w1 ⟨v1, rfl, ho1, hb1⟩
      go_wp2_with fail
      go_loopw [6, 8, 27] (fun nv _ i wr => ∃ k : Nat, k ≤ ls.length ∧ i = .int .i64 k ∧ Ou w.heap.size wr nv (ls.take k).flatten ∧ Below w.heap.size w wr) (fun _ _ i _ => ls.length - (intOf i).toNat)
      case atStart => exact ⟨0, Nat.zero_le _, rfl, by simpa using ho1, hb1⟩
      case round =>
        obtain ⟨k, hk, rfl, ho, hb⟩ := hrel
        have hB := hb.size
        clear ho1 hb1
        by_cases hlt2 : k < ls.length
        · obtain ⟨a, u, rfl, hc, hru⟩ := h4 k hlt2
          have hcx : wr.cell? (a.add k) = some u := by rw [hb.cell (World.block_lt_of_cell? w _ hc)]; exact hc
          have HT : Hid ((ls.take (k + 1)).flatten = (ls.take k).flatten ++ ls[k]) := by
            show _ = _
            rw [List.take_succ_eq_append_getElem hlt2, List.flatten_append]; simp
          have hl2 : (ls.take k).flatten.length + ls[k].length ≤ 1099511627776 := by
            have := flat_le ls (k + 1)
            rw [HT.out, List.length_append] at this
            omega
          have hru' := hru.below hb (Nat.le_refl _)
          obtain ⟨au, cu, rfl⟩ := hru.shape
          clear h4 hru hc
          generalize (ls.take k).flatten = cur at *
          generalize ls[k] = fk at *
          go_wp2_with (first | (at_builtin; refine wpList_appU rfl _ _ rfl w.heap.size _ cur rfl ho _ fk rfl hru' hB (by omega) ?_; intro v4 w4 ho4 hg4 hw4) | fail)
          refine ⟨⟨k + 1, by omega, by go_num, by rw [HT.out]; exact ho4, hb.trans ((Below.refl _ _).grown hg4 hB (fun b e => (ho.lt b e).1))⟩, by simp [intOf]; omega⟩
        · obtain rfl : k = ls.length := by omega
          rw [List.take_length] at ho
          clear h4
          go_wp2_with fail
          go_ret
          exact ⟨_, rfl, ho, hb⟩
end Go.Proofs.Ytedpfmalhapmeaa

/- slices.Equal and Clone at uint64. -/
namespace Go.Proofs.Ytedpfmalhapmeaa
open Go.RowKit
set_option linter.unusedVariables false
set_option maxRecDepth 100000

theorem Ou.lit0 (B : Nat) (w : World) (hB : B ≤ w.heap.size) : Ou B (w.alloc (.cells #[] 25)) (.slice (some ⟨w.heap.size, 0, none⟩) 0 0) [] := World.ownsRow_made w #[] 0 hB (by simp) rfl

theorem uclone_any {v : Value} {l : List UInt64} {w : World} (hr : Ru w v l) (hl : l.length ≤ 1099511627776) :
    Calls Try.prog 45 #[v] w fun e w' => ∃ v', e = .returned v' ∧ Ou w.heap.size w' v' l ∧ Below w.heap.size w w' := by
  have q : ∀ (w : World) (a : Option Addr) (n c n' c' : Nat), (binOp .eql 22 (.slice a n c) (.slice none n' c')).run Try.prog w = .ok (.bool a.isNone) w := fun w a n c n' c' => Lib.run_eql_slice_nil w _ _ a n c n' c' Try.underlying22
  rcases hr.two with ⟨rfl, rfl⟩ | ⟨a, c, hv, h1, h2, h3⟩
  · go_enter Try.func45, Try.ntmps45
    go_wp2
    go_ret
    exact ⟨_, rfl, Ou.nil _ _, Below.refl _ _⟩
  · subst hv
    go_enter Try.func45, Try.ntmps45
    go_wp2_with (first | (at_builtin; refine wpList_appU rfl _ _ rfl w.heap.size _ [] rfl (Ou.lit0 _ _ (Nat.le_refl _)) _ l rfl (hr.alloc _) (by simp) (by simp; omega) ?_; intro v' w' ho' hg' hw') | fail)
    go_ret
    exact ⟨_, rfl, ho', (u_al w _).trans ((Below.refl _ _).grown hg' (by simp) (fun k hk => Nat.le_of_eq (Option.some.inj hk)))⟩
end Go.Proofs.Ytedpfmalhapmeaa

/- What slices.Equal of two lists of numbers answers: whether they read as the same numbers. -/
namespace Go.Proofs.Ytedpfmalhapmeaa
open Go.RowKit
set_option linter.unusedVariables false

set_option maxHeartbeats 400000 in
theorem uequal_core (a b : Addr) (n ca cb : Nat) (f g : Nat → UInt64) (w : World) (hl : n ≤ maxLen)
    (ha : ∀ i, i < n → w.cell? (a.add i) = some (.int .u64 ((f i).toNat : Int))) (hb : ∀ i, i < n → w.cell? (b.add i) = some (.int .u64 ((g i).toNat : Int))) :
    Calls Try.prog 44 #[.slice (some a) n ca, .slice (some b) n cb] w fun e w' => (∃ r, e = .returned (.bool r) ∧ (r = true ↔ ∀ i, i < n → f i = g i)) ∧ ∃ k, w' = w.drewN k := by
  unfold maxLen at hl
  go_enter Try.func44, Try.ntmps44
  go_wp2
  go_loopw [5, 13] (fun _ i wr => ∃ k : Nat, k ≤ n ∧ i = .int .i64 k ∧ (∀ j, j < k → f j = g j) ∧ ∃ m, wr = w.drewN m) (fun _ i _ => n - (intOf i).toNat)
  case atStart => exact ⟨0, Nat.zero_le _, rfl, fun j hj => by omega, 0, rfl⟩
  case round =>
    obtain ⟨k, hk, rfl, hs, m, rfl⟩ := hrel
    by_cases hlt : k < n
    · have h1 := ha k hlt
      have h2 := hb k hlt
      clear ha hb
      go_wp2
      go_region
      all_goals go_wp2
      · go_ret
        refine ⟨⟨false, rfl, ?_⟩, _, rfl⟩
        simp only [Bool.false_eq_true, false_iff]
        intro hh
        have := hh k hlt
        simp_all
      · rename_i hne
        have he : f k = g k := by
          have : ((f k).toNat : Int) = ((g k).toNat : Int) := by simpa using hne
          exact UInt64.toNat_inj.1 (by omega)
        refine ⟨⟨k + 1, by omega, by go_num, fun j hj => ?_, _, rfl⟩, by simp [intOf]; omega⟩
        by_cases hj' : j < k
        · exact hs j hj'
        · obtain rfl : j = k := by omega
          exact he
    · go_wp2
      go_ret
      exact ⟨⟨true, rfl, by simp; intro i hi; exact hs i (by omega)⟩, _, rfl⟩

/-- slices.Equal of two lists of numbers: whether they are the same numbers; memory stands. -/
theorem uequal_any {va vb : Value} {la lb : List UInt64} {w : World} (ha : Ru w va la) (hb : Ru w vb lb) :
    Calls Try.prog 44 #[va, vb] w fun e w' => e = .returned (.bool (decide (la = lb))) ∧ ∃ n, w' = w.drewN n := by
  by_cases hn : la.length = lb.length
  · rcases ha.two with ⟨rfl, rfl⟩ | ⟨a, ca, rfl, h1, h2, h3⟩
    · obtain rfl : lb = [] := List.length_eq_zero_iff.1 (by simpa using hn.symm)
      obtain ⟨b, cb, rfl⟩ : ∃ b cb, vb = .slice b 0 cb := by
        rcases hb.two with ⟨rfl, _⟩ | ⟨b, cb, rfl, _⟩
        · exact ⟨_, _, rfl⟩
        · exact ⟨_, _, rfl⟩
      clear hb hn
      go_enter Try.func44, Try.ntmps44
      go_wp2
      refine wp_loop_rounds 1 ?_
      rw [rounds_succ]
      go_wp2
      go_ret
      exact ⟨by simp, 0, rfl⟩
    · rcases hb.two with ⟨rfl, rfl⟩ | ⟨b, cb, rfl, k1, k2, k3⟩
      · obtain rfl : la = [] := List.length_eq_zero_iff.1 (by simpa using hn)
        clear h1 h2 h3 hn
        go_enter Try.func44, Try.ntmps44
        go_wp2
        refine wp_loop_rounds 1 ?_
        rw [rounds_succ]
        go_wp2
        go_ret
        exact ⟨by simp, 0, rfl⟩
      · rw [← hn]
        refine (uequal_core a b la.length ca cb (fun i => la.getD i 0) (fun i => lb.getD i 0) w (by omega) (fun i hi => ?_) (fun i hi => ?_)).mono ?_
        · rw [h3 i hi]; simp [hi]
        · rw [k3 i (by omega)]; simp [show i < lb.length by omega]
        · rintro e w' ⟨⟨r, rfl, hr⟩, hw⟩
          refine ⟨?_, hw⟩
          have : r = decide (la = lb) := by
            rw [Bool.eq_iff_iff, hr, decide_eq_true_iff]
            constructor
            · intro h
              refine List.ext_getElem hn fun i hi hi' => ?_
              have := h i hi
              simpa [hi, hi'] using this
            · rintro rfl i _; rfl
          rw [this]
  · have hd : decide (la = lb) = false := by
      simp only [decide_eq_false_iff_not]; rintro rfl; exact hn rfl
    rw [hd]
    obtain ⟨a, ca, rfl⟩ : ∃ a ca, va = .slice a la.length ca := by
      rcases ha.two with ⟨rfl, rfl⟩ | ⟨a, ca, rfl, _⟩
      · exact ⟨_, _, rfl⟩
      · exact ⟨_, _, rfl⟩
    obtain ⟨b, cb, rfl⟩ : ∃ a ca, vb = .slice a lb.length ca := by
      rcases hb.two with ⟨rfl, rfl⟩ | ⟨a, ca, rfl, _⟩
      · exact ⟨_, _, rfl⟩
      · exact ⟨_, _, rfl⟩
    clear ha hb hd
    have hne : (((la.length : Nat) : Int) != ((lb.length : Nat) : Int)) = true := by simp; omega
    clear hn
    go_enter Try.func44, Try.ntmps44
    go_wp2
    go_ret
    exact ⟨rfl, 0, rfl⟩
end Go.Proofs.Ytedpfmalhapmeaa

/- slices.Index, Contains, Equal, Clone at uint64; rises, Votes, Joint. -/
namespace Go.Proofs.Ytedpfmalhapmeaa
open Go.RowKit
set_option linter.unusedVariables false
set_option maxRecDepth 100000

theorem u_inj {a b : UInt64} (h : (a.toNat : Int) = (b.toNat : Int)) : a = b := UInt64.toNat_inj.1 (by omega)

theorem uindex_any {v : Value} {l : List UInt64} {x : UInt64} {w : World} (hr : Ru w v l) :
    Calls Try.prog 57 #[v, .int .u64 (x.toNat : Int)] w fun e w' => ∃ r : Int, e = .returned (.int .i64 r) ∧ (0 ≤ r ↔ x ∈ l) ∧ w' = w := by
  obtain ⟨ao, c, rfl, h1, h2, h3, h4⟩ := hr
  unfold maxLen at h2
  go_enter Try.func57, Try.ntmps57
  go_wp2_with fail
  go_loopw [5, 8] (fun _ i wr => ∃ k : Nat, k ≤ l.length ∧ i = .int .i64 k ∧ Hid (x ∉ l.take k) ∧ wr = w) (fun _ i _ => l.length - (intOf i).toNat)
  case atStart => exact ⟨0, Nat.zero_le _, rfl, by show _ ∉ _; simp, rfl⟩
  case round =>
    obtain ⟨k, hk, rfl, HX, rfl⟩ := hrel
    by_cases hlt : k < l.length
    · obtain ⟨a, rfl, hc⟩ := h4 k hlt
      have HT : Hid _ := List.take_succ_eq_append_getElem hlt
      have HM : Hid (l[k] ∈ l) := List.getElem_mem hlt
      clear h4 h3
      generalize l[k] = y at *
      by_cases hxy : x = y
      · subst hxy
        have hq : ((x.toNat : Int) == (x.toNat : Int)) = true := by simp
        go_wp2_with fail
        go_ret
        exact ⟨_, rfl, ⟨fun _ => HM.out, fun _ => by omega⟩, rfl⟩
      · have hq : ((x.toNat : Int) == (y.toNat : Int)) = false := by
          simp only [beq_eq_false_iff_ne, ne_eq]
          exact fun e => hxy (u_inj e)
        go_wp2_with fail
        refine ⟨⟨k + 1, by omega, by go_num, ?_, trivial⟩, by simp [intOf]; omega⟩
        show _ ∉ _
        rw [HT.out]
        simp only [List.mem_append, List.mem_singleton, not_or]
        exact ⟨HX.out, hxy⟩
    · obtain rfl : k = l.length := by omega
      have HX2 : Hid (x ∉ l) := by have := HX.out; rw [List.take_length] at this; exact this
      clear h4 HX
      go_wp2_with fail
      go_ret
      exact ⟨_, rfl, ⟨fun h => by omega, fun h => absurd h HX2.out⟩, rfl⟩

theorem ucontains_any {v : Value} {l : List UInt64} {x : UInt64} {w : World} (hr : Ru w v l) :
    Calls Try.prog 38 #[v, .int .u64 (x.toNat : Int)] w fun e w' => e = .returned (.bool (decide (x ∈ l))) ∧ w' = w := by
  go_enter Try.func38, Try.ntmps38
  go_wp2_with fail
  refine (uindex_any hr).mono ?_
  rintro e w1 ⟨r, rfl, hi, rfl⟩
  go_wp2_with fail
  go_ret
  refine ⟨?_, rfl⟩
  by_cases h : x ∈ l
  · simp [h]
  · simp [h]

theorem ujoint_any {x y z : Value} {c : Cn} {w : World} (hr : Rc w x y z c) :
    Calls Try.prog 13 #[.agg #[x, y, z]] w fun e w' => e = .returned (.bool (decide (0 < c.2.1.length))) ∧ Below w.heap.size w w' := by
  obtain ⟨ay, cy, rfl⟩ := hr.2.1.shape
  go_enter Try.func13, Try.ntmps13
  go_wp2_with fail
  go_ret
  refine ⟨?_, u_al _ _⟩
  simp

theorem votes_any {x y z : Value} {c : Cn} {p : UInt64} {w : World} (hr : Rc w x y z c) :
    Calls Try.prog 16 #[.agg #[x, y, z], .int .u64 (p.toNat : Int)] w fun e w' => e = .returned (.bool (decide (p ∈ c.1) || decide (p ∈ c.2.1))) ∧ w' = w.alloc (.cells #[x, y, z] 24) := by
  have h1 := ucontains_any (x := p) (hr.1.alloc (.cells #[x, y, z] 24))
  have h2 := ucontains_any (x := p) (hr.2.1.alloc (.cells #[x, y, z] 24))
  obtain ⟨ax, cx, rfl⟩ := hr.1.shape
  obtain ⟨ay, cy, rfl⟩ := hr.2.1.shape
  obtain ⟨az, cz, rfl⟩ := hr.2.2.shape
  generalize decide (p ∈ c.1) = r1 at *
  generalize decide (p ∈ c.2.1) = r2 at *
  go_enter Try.func16, Try.ntmps16
  go_wp2_with fail
  refine h1.mono ?_
  rintro e w1 ⟨rfl, rfl⟩
  cases r1 with
  | true =>
    go_wp2_with fail
    go_ret
    exact ⟨by simp, rfl⟩
  | false =>
    go_wp2_with fail
    refine h2.mono ?_
    rintro e w1 ⟨rfl, rfl⟩
    go_wp2_with fail
    go_ret
    exact ⟨by simp, rfl⟩

/-- The numbers rise, and all are above n. -/
def risF : Nat → List UInt64 → Bool
  | _, [] => true
  | n, x :: r => decide (n < x.toNat) && risF x.toNat r

theorem urises_any {v : Value} {l : List UInt64} {w : World} (hr : Ru w v l) :
    Calls Try.prog 34 #[v] w fun e w' => e = .returned (.bool (risF 0 l)) ∧ w' = w := by
  obtain ⟨ao, c, rfl, h1, h2, h3, h4⟩ := hr
  unfold maxLen at h2
  generalize hR : risF 0 l = R
  have HR : Hid _ := hR
  clear hR
  go_enter Try.func34, Try.ntmps34
  go_wp2_with fail
  go_loopw [3, 5, 8] (fun last _ i wr => ∃ (k n : Nat), k ≤ l.length ∧ i = .int .i64 k ∧ last = .int .u64 n ∧ Hid (risF n (l.drop k) = R) ∧ wr = w) (fun _ _ i _ => l.length - (intOf i).toNat)
  case atStart => exact ⟨0, 0, Nat.zero_le _, rfl, rfl, by show risF 0 (l.drop 0) = R; rw [List.drop_zero]; exact HR.out, rfl⟩
  case round =>
    obtain ⟨k, n, hk, rfl, rfl, HX, rfl⟩ := hrel
    by_cases hlt : k < l.length
    · obtain ⟨a, rfl, hc⟩ := h4 k hlt
      have HX2 : Hid ((decide (n < (l[k]).toNat) && risF (l[k]).toNat (l.drop (k + 1))) = R) := by
        have := HX.out
        rw [List.drop_eq_getElem_cons hlt, risF] at this
        exact this
      clear h4 h3 HX
      generalize l[k] = y at *
      by_cases hny : n < y.toNat
      · have HX3 : Hid (risF y.toNat (l.drop (k + 1)) = R) := by
          have := HX2.out
          rw [decide_eq_true hny, Bool.true_and] at this
          exact this
        go_wp2_with fail
        exact ⟨⟨k + 1, y.toNat, by omega, by go_num, rfl, HX3, trivial⟩, by simp [intOf]; omega⟩
      · have hR : R = false := by
          have := HX2.out
          rw [decide_eq_false hny, Bool.false_and] at this
          exact this.symm
        subst hR
        go_wp2_with fail
        go_ret
        exact ⟨rfl, rfl⟩
    · obtain rfl : k = l.length := by omega
      have hR : R = true := by
        have := HX.out
        rw [List.drop_length] at this
        exact this.symm
      subst hR
      clear h4 HX
      go_wp2_with fail
      go_ret
      exact ⟨rfl, rfl⟩
end Go.Proofs.Ytedpfmalhapmeaa

/- cmp.Less and the insertion sort at uint64, over a row of the call's own; the plain functions are the library's (Derived.Sort). -/
namespace Go.Proofs.Ytedpfmalhapmeaa
open Go.RowKit Go.Sort
set_option linter.unusedVariables false
set_option maxRecDepth 100000

def ltU (x y : UInt64) : Bool := decide (x.toNat < y.toNat)

theorem less_any (x y : UInt64) (w : World) : Calls Try.prog 65 #[.int .u64 (x.toNat : Int), .int .u64 (y.toNat : Int)] w fun e w' => e = .returned (.bool (ltU x y)) ∧ w' = w := by
  have hx : ((x.toNat : Int) != (x.toNat : Int)) = false := by simp
  have hn : ∀ W, Calls Try.prog 76 #[.int .u64 (x.toNat : Int)] W fun e w' => e = .returned (.bool false) ∧ w' = W := fun W => by
    go_enter Try.func76, Try.ntmps76
    go_wp2_with fail
    go_ret
    exact ⟨rfl, rfl⟩
  go_enter Try.func65, Try.ntmps65
  go_wp2_with fail
  refine (hn w).mono ?_
  rintro e w1 ⟨rfl, rfl⟩
  go_wp2_with fail
  go_ret
  refine ⟨?_, rfl⟩
  simp [ltU]

/-- The row that is sorted: at the head of block g. -/
def Rw (B g c : Nat) (d : Array UInt64) (w : World) : Prop := Ou B w (.slice (some ⟨g, 0, none⟩) d.size c) d.toList
theorem Rw.cell {B g c : Nat} {d : Array UInt64} {w : World} (h : Rw B g c d w) (i : Nat) (hi : i < d.size) : w.cell? ⟨g, i, none⟩ = some (.int .u64 ((d[i]!).toNat : Int)) := by
  unfold Rw Ou at h
  rw [h.cellAt i (by simpa using hi), celU_get _ _ (by simpa using hi)]
  simp [hi]
theorem Rw.froz {B g c : Nat} {d : Array UInt64} {w : World} (h : Rw B g c d w) (i : Nat) : w.frozen? ⟨g, i, none⟩ = false := Ou.froz h i
theorem Rw.drewN {B g c : Nat} {d : Array UInt64} {w : World} (h : Rw B g c d w) (n : Nat) : Rw B g c d (w.drewN n) := Ou.below h (Below.dN w n) (Nat.le_refl _)
theorem Rw.swp {B g c : Nat} {d : Array UInt64} {w : World} (h : Rw B g c d w) (i j : Nat) : Rw B g c (swp d i j) ((w.setCell ⟨g, i, none⟩ (.int .u64 ((d[j]!).toNat : Int))).setCell ⟨g, j, none⟩ (.int .u64 ((d[i]!).toNat : Int))) := by
  have h1 := Ou.put h (g := g) rfl i (d[j]!)
  have h2 := Ou.put h1 (g := g) rfl j (d[i]!)
  unfold Rw
  have e : (Sort.swp d i j).toList = (d.toList.set i d[j]!).set j d[i]! := by simp [Sort.swp]
  rw [e, swp_size]
  exact h2
theorem Rw.sz {B g c : Nat} {d : Array UInt64} {w : World} (h : Rw B g c d w) : d.size ≤ c ∧ c ≤ 9223372036854775807 ∧ B ≤ g ∧ g < w.heap.size := by
  rcases Ou.blk h with ⟨e, _⟩ | ⟨g', c', e, h1, h2, h3, h4, _⟩
  · cases e
  · simp only [Value.slice.injEq, Option.some.injEq, Addr.mk.injEq, and_true] at e
    obtain ⟨rfl, _, rfl⟩ := e
    unfold maxLen at h2
    exact ⟨by simpa using h1, by omega, h3, h4⟩
theorem chg_swp {g : Nat} {w w' : World} (h : Chg (fun b => b = g) w w') (n i j : Nat) (x y : Value) : Chg (fun b => b = g) w (((w'.drewN n).setCell ⟨g, i, none⟩ x).setCell ⟨g, j, none⟩ y) :=
  ((h.trans ((Chg.of_below (Below.dN w' n)).mono (fun b h1 h2 => by omega))).put g i x rfl).put g j y rfl

section
variable (lt : UInt64 → UInt64 → Bool)
theorem ins_go (a j : Nat) (d : Array UInt64) (hj : a < j) (hl : lt d[j]! d[j - 1]! = true) : insInner lt a j d = insInner lt a (j - 1) (swp d j (j - 1)) := by
  obtain ⟨k, rfl⟩ : ∃ k, j = k + 1 := ⟨j - 1, by omega⟩
  rw [insInner, Nat.add_sub_cancel] at *
  rw [if_pos (by simp [hj, hl])]
theorem ins_stop (a j : Nat) (d : Array UInt64) (h : j ≤ a ∨ lt d[j]! d[j - 1]! = false) : insInner lt a j d = d := by
  cases j with
  | zero => rw [insInner]
  | succ k =>
    rw [insInner]
    rw [Nat.add_sub_cancel] at h
    rcases h with h | h
    · rw [if_neg (by simp; omega)]
    · rw [if_neg (by simp [h])]
end

set_option maxHeartbeats 2000000 in
theorem uins_any {B g c : Nat} {d : Array UInt64} {w : World} (h : Rw B g c d w) (a b : Nat) (hb : b ≤ d.size) (ha : a ≤ b) (hsz : d.size ≤ 4611686018427387904) :
    Calls Try.prog 59 #[.slice (some ⟨g, 0, none⟩) d.size c, .int .i64 a, .int .i64 b] w fun e w' => e = .returned (.tuple #[]) ∧ Rw B g c (insertionSort ltU d a b) w' ∧ Chg (fun x => x = g) w w' := by
  obtain ⟨z1, z2, z3, z4⟩ := h.sz
  unfold insertionSort
  generalize hR : insOuter ltU a b (a + 1) d = R
  have HR : Hid _ := hR
  clear hR
  go_enter Try.func59, Try.ntmps59
  go_wp2_with fail
  go_loopw [6, 7] (fun vi _ wr => ∃ (i : Nat) (dk : Array UInt64), vi = .int .i64 i ∧ a < i ∧ i ≤ b + 1 ∧ dk.size = d.size ∧ Rw B g c dk wr ∧ Hid (insOuter ltU a b i dk = R) ∧ Chg (fun x => x = g) w wr) (fun vi _ _ => b + 1 - (intOf vi).toNat)
  case atStart => exact ⟨a + 1, d, by go_num, by omega, by omega, rfl, h, HR, Chg.refl _ _⟩
  case round =>
    obtain ⟨i, dk, rfl, hai, hib, hdz, hk, HO, hch⟩ := hrel
    have HDZ : Hid _ := hdz
    clear hdz h HR
    by_cases hlt : i < b
    · have HO2 : Hid (insOuter ltU a b (i + 1) (insInner ltU a i dk) = R) := by
        have := HO.out
        rw [insOuter, if_pos hlt] at this
        exact this
      clear HO
      go_wp2_with fail
      generalize wr = wA at *
      go_loopw [7] (fun vj wr => ∃ (j : Nat) (dj : Array UInt64), vj = .int .i64 j ∧ a ≤ j ∧ j ≤ i ∧ Hid (dj.size = d.size) ∧ Rw B g c dj wr ∧ Hid (insInner ltU a j dj = insInner ltU a i dk) ∧ Chg (fun x => x = g) w wr) (fun vj _ => (intOf vj).toNat)
      case atStart => exact ⟨i, dk, rfl, by omega, Nat.le_refl _, HDZ, hk, rfl, hch⟩
      case round =>
        obtain ⟨j, dj, rfl, haj, hji, HJZ, hj, HI, hcj⟩ := hrel
        clear hk hch
        by_cases hja : a < j
        · have cj := hj.cell j (by rw [HJZ.out]; omega)
          have cj1 := hj.cell (j - 1) (by rw [HJZ.out]; omega)
          have fj := hj.froz j
          have fj1 := hj.froz (j - 1)
          have hs1 : IntKind.i64.wrap ((j : Int) - 1) = ((j - 1 : Nat) : Int) := by rw [IntKind.wrap_i64]; omega
          have hs2 : (j : Int) - 1 = ((j - 1 : Nat) : Int) := by omega
          have hd1 : decide ((j : Int) > (a : Int)) = true := by simp; omega
          have hd2 : decide (j > a) = true := by simp; omega
          have hd3 : decide (a < j) = true := by simp; omega
          have hl1 : (j : Int) < (d.size : Int) := by omega
          have hl2 : ((j - 1 : Nat) : Int) < (d.size : Int) := by omega
          have hless : ∀ q, Calls Try.prog 65 #[.int .u64 ((dj[j]!).toNat : Int), .int .u64 ((dj[j - 1]!).toNat : Int)] (wr.drewN q) fun e w' => e = .returned (.bool (ltU dj[j]! dj[j - 1]!)) ∧ ∃ n, w' = wr.drewN n := fun q => (less_any _ _ _).mono (by rintro e w' ⟨rfl, rfl⟩; exact ⟨rfl, q, rfl⟩)
          generalize hX : dj[j]! = X at *
          generalize hY : dj[j - 1]! = Y at *
          have HXY : Hid _ := And.intro hX hY
          clear hX hY
          cases hq : ltU X Y with
          | true =>
            rw [hq] at hless
            have HS : Hid (∀ n, Rw B g c (swp dj j (j - 1)) (((wr.drewN n).setCell ⟨g, j, none⟩ (.int .u64 (Y.toNat : Int))).setCell ⟨g, j - 1, none⟩ (.int .u64 (X.toNat : Int)))) := fun n => by
              have := (hj.drewN n).swp j (j - 1)
              rw [HXY.out.1, HXY.out.2] at this
              exact this
            have HI2 : Hid (insInner ltU a (j - 1) (swp dj j (j - 1)) = insInner ltU a i dk) := by
              have := HI.out
              rw [ins_go ltU a j dj hja (by rw [HXY.out.1, HXY.out.2]; exact hq)] at this
              exact this
            clear hq HI
            go_wp2_with fail
            go_quiet (first | (go_at_call 65; exact hless _) | fail)
            go_wp2_with fail
            go_region
            go_wp2_with fail
            exact ⟨⟨j - 1, swp dj j (j - 1), by go_num, by omega, by omega, by show _ = _; rw [swp_size]; exact HJZ.out, HS.out _, HI2, chg_swp hcj _ _ _ _ _⟩, by simp [intOf]; omega⟩
          | false =>
            rw [hq] at hless
            have HI2 : Hid (insInner ltU a i dk = dj) := by
              have := HI.out
              rw [ins_stop ltU a j dj (.inr (by rw [HXY.out.1, HXY.out.2]; exact hq))] at this
              exact this.symm
            clear hq HI
            go_wp2_with fail
            go_quiet (first | (go_at_call 65; exact hless _) | fail)
            go_wp2_with fail
            exact ⟨⟨i + 1, dj, by go_num, by omega, by omega, HJZ.out, hj.drewN _, by show insOuter ltU a b (i + 1) dj = R; rw [← HI2.out]; exact HO2.out, hcj.trans ((Chg.of_below (Below.dN wr _)).mono (fun b h1 h2 => by omega))⟩, by simp [intOf]; omega⟩
        · have HI2 : Hid (insInner ltU a i dk = dj) := by
            have := HI.out
            rw [ins_stop ltU a j dj (.inl (by omega))] at this
            exact this.symm
          have hd1 : decide ((j : Int) > (a : Int)) = false := by simp; omega
          go_wp2_with fail
          go_quiet (fail)
          go_wp2_with fail
          exact ⟨⟨i + 1, dj, by go_num, by omega, by omega, HJZ.out, hj.drewN _, by show insOuter ltU a b (i + 1) dj = R; rw [← HI2.out]; exact HO2.out, hcj.trans ((Chg.of_below (Below.dN wr _)).mono (fun b h1 h2 => by omega))⟩, by simp [intOf]; omega⟩
    · have HO2 : Hid (R = dk) := by
        have := HO.out
        rw [insOuter, if_neg hlt] at this
        exact this.symm
      obtain rfl := HO2.out
      go_wp2_with fail
      go_end0
      exact ⟨rfl, hk, hch⟩
end Go.Proofs.Ytedpfmalhapmeaa

/- slices.Compact at uint64, over a row of the call's own. -/
namespace Go.Proofs.Ytedpfmalhapmeaa
open Go.RowKit Go.Sort
set_option linter.unusedVariables false
set_option maxRecDepth 100000

/-- Of the first k numbers, those that are unlike the one ahead of them. -/
def cmK (l : List UInt64) : Nat → List UInt64
  | 0 => []
  | k + 1 => cmK l k ++ (if k = 0 ∨ l.getD k 0 ≠ l.getD (k - 1) 0 then [l.getD k 0] else [])
theorem cmK_len (l : List UInt64) (k : Nat) : (cmK l k).length ≤ k := by
  induction k with
  | zero => simp [cmK]
  | succ k ih => rw [cmK, List.length_append]; split <;> simp <;> omega

/-- No two neighbours alike: nothing is left out. -/
theorem cmK_all (l : List UInt64) (k : Nat) (hk : k ≤ l.length) (h : ∀ i, 0 < i → i < k → l.getD i 0 ≠ l.getD (i - 1) 0) : cmK l k = l.take k := by
  induction k with
  | zero => simp [cmK]
  | succ k ih =>
    rw [cmK, ih (by omega) (fun i h1 h2 => h i h1 (by omega)), List.take_succ_eq_append_getElem (by omega)]
    rw [if_pos (by by_cases h0 : k = 0; exact .inl h0; exact .inr (h k (by omega) (by omega)))]
    simp [show k < l.length by omega]

theorem Rw.put {B g c : Nat} {d : Array UInt64} {w : World} (h : Rw B g c d w) (i : Nat) (x : UInt64) : Rw B g c (d.setIfInBounds i x) (w.setCell ⟨g, i, none⟩ (.int .u64 (x.toNat : Int))) := by
  have h1 := Ou.put h (g := g) rfl i x
  unfold Rw
  rw [Array.size_setIfInBounds, Array.toList_setIfInBounds]
  exact h1
theorem ou_setCells {B g n c : Nat} {l : List UInt64} (k : Nat) (hk : l.length ≤ k) (vs : List Value) : ∀ (w : World), Ou B w (.slice (some ⟨g, 0, none⟩) n c) l → ∀ o, k ≤ o → Ou B (w.setCells g o vs) (.slice (some ⟨g, 0, none⟩) n c) l := by
  induction vs with
  | nil => exact fun w h o _ => h
  | cons v r ih =>
    intro w h o ho
    refine ih (w.setCell ⟨g, o, none⟩ v) ?_ (o + 1) (by omega)
    obtain ⟨h1, h2⟩ := h
    refine ⟨h1, ?_⟩
    rcases h2 with ⟨q, q0⟩ | ⟨g', cap, cur, q, hB, hg, q1, q2, q3, q4⟩
    · cases q
    · have e : g' = g := by
        simp only [Value.slice.injEq, Option.some.injEq, Addr.mk.injEq, and_true] at q
        exact q.1.symm
      subst e
      refine .inr ⟨g', cap, cur.setIfInBounds o v, q, hB, by rw [heap_setCell_same _ _ o _ _ _ hg], q1, q2, by rw [Array.size_setIfInBounds]; exact q3, ?_⟩
      rw [← q4, Array.toList_setIfInBounds, List.take_set_of_le (by omega)]
theorem chg_cells (g : Nat) (vs : List Value) : ∀ (o : Nat) (w : World), Chg (fun b => b = g) w (w.setCells g o vs) := by
  induction vs with
  | nil => exact fun o w => Chg.refl _ _
  | cons v r ih => exact fun o w => ((Chg.refl (fun b => b = g) w).put g o v rfl).trans ((ih (o + 1) _).mono (fun b _ q => .inl q))
theorem Chg.dn {S : Nat → Prop} {w w' : World} (h : Chg S w w') (q : Nat) : Chg S w (w'.drewN q) := h.trans ((Chg.of_below (Below.dN w' q)).mono (fun b hb hb2 => by omega))
theorem Try.zeroU (w : World) : (zeroValue 25).run Try.prog w = .ok (.int .u64 0) w := by kernel_rfl
theorem Rw.pre {B g c : Nat} {d : Array UInt64} {w : World} (h : Rw B g c d w) (k : Nat) (hk : k ≤ d.size) : Ou B w (.slice (some ⟨g, 0, none⟩) k c) (d.toList.take k) := by
  have hl : (d.toList.take k).length = k := by simp; omega
  obtain ⟨h1, h2⟩ := h
  refine ⟨by rw [celU_length, hl]; simp, ?_⟩
  rcases h2 with ⟨q, q0⟩ | ⟨g', cap, cur, q, hB, hg, q1, q2, q3, q4⟩
  · cases q
  · simp only [Value.slice.injEq, Option.some.injEq, Addr.mk.injEq, and_true] at q
    obtain ⟨rfl, _, rfl⟩ := q
    rw [hl]
    refine .inr ⟨g, c, cur, rfl, hB, hg, by simp only [Array.length_toList] at q1; omega, q2, q3, ?_⟩
    have e : celU (d.toList.take k) = (celU d.toList).take k := by unfold celU; rw [List.map_take]
    rw [e, ← q4, List.take_take]
    congr 1
    simp
    omega

/-- How far the numbers are compacted: those up to m; they stand in the first kk places. -/
structure Cm (d : Array UInt64) (m kk : Nat) (dk : Array UInt64) : Prop where
  sz : dk.size = d.size
  lt : kk < m
  out : cmK d.toList m = dk.toList.take kk
  high : ∀ i, m ≤ i + 1 → i < d.size → dk[i]! = d[i]!
theorem getD_arr (d : Array UInt64) (i : Nat) (h : i < d.size) : d.toList.getD i 0 = d[i]! := by
  simp [h]
theorem Cm.start {d : Array UInt64} {k : Nat} (h0 : 0 < k) (hk : k < d.size) (hn : ∀ i, 0 < i → i < k → d[i]! ≠ d[i - 1]!) (he : d[k]! = d[k - 1]!) : Cm d (k + 1) k d := by
  refine ⟨rfl, Nat.lt_succ_self _, ?_, fun i _ _ => rfl⟩
  rw [cmK, cmK_all _ _ (by simp; omega) (fun i h1 h2 => by rw [getD_arr _ _ (by omega), getD_arr _ _ (by omega)]; exact hn i h1 h2)]
  rw [getD_arr _ _ hk, getD_arr _ _ (by omega), if_neg (by rw [he]; simp; omega), List.append_nil]
theorem Cm.skip {d dk : Array UInt64} {m kk : Nat} (h : Cm d m kk dk) (hm : m < d.size) (he : d[m]! = d[m - 1]!) : Cm d (m + 1) kk dk := by
  have hlt := h.lt
  refine ⟨h.sz, by omega, ?_, fun i h1 h2 => h.high i (by omega) h2⟩
  rw [cmK, getD_arr _ _ hm, getD_arr _ _ (by omega), if_neg (by rw [he]; simp; omega), List.append_nil]
  exact h.out
theorem Cm.keep {d dk : Array UInt64} {m kk : Nat} (h : Cm d m kk dk) (hm : m < d.size) (he : d[m]! ≠ d[m - 1]!) : Cm d (m + 1) (kk + 1) (dk.setIfInBounds kk d[m]!) := by
  have hlt := h.lt
  have hz := h.sz
  refine ⟨by rw [Array.size_setIfInBounds]; exact hz, by omega, ?_, fun i h1 h2 => ?_⟩
  · rw [cmK, getD_arr _ _ hm, getD_arr _ _ (by omega), if_pos (.inr he), h.out, Array.toList_setIfInBounds]
    rw [List.take_succ_eq_append_getElem (by simp; omega), List.take_set_of_le (Nat.le_refl _)]
    simp
  · rw [getElem!_pos _ i (by rw [Array.size_setIfInBounds]; omega), Array.getElem_setIfInBounds (by omega), if_neg (by omega)]
    have := h.high i (by omega) h2
    rw [getElem!_pos _ i (by omega)] at this
    exact this

set_option maxHeartbeats 2000000 in
theorem ucompact_any {B g c : Nat} {d : Array UInt64} {w : World} (h : Rw B g c d w) (hsz : d.size ≤ 4611686018427387904) :
    Calls Try.prog 33 #[.slice (some ⟨g, 0, none⟩) d.size c] w fun e w' => ∃ v', e = .returned v' ∧ Ou B w' v' (cmK d.toList d.size) ∧ Chg (fun x => x = g) w w' ∧ (v'.ownBlock = some g) := by
  obtain ⟨z1, z2, z3, z4⟩ := h.sz
  by_cases hs : d.size < 2
  · have e : cmK d.toList d.size = d.toList := by
      rw [cmK_all _ _ (by simp) (fun i h1 h2 => by omega), List.take_of_length_le (by simp)]
    rw [e]
    go_enter Try.func33, Try.ntmps33
    go_wp2_with fail
    go_ret
    exact ⟨_, rfl, h, Chg.refl _ _, rfl⟩
  · generalize hR : cmK d.toList d.size = R
    have HR : Hid _ := hR
    clear hR
    go_enter Try.func33, Try.ntmps33
    go_wp2_with fail
    go_loopw [3, 4, 5] (fun vi _ _ wr => ∃ k : Nat, vi = .int .i64 k ∧ 1 ≤ k ∧ k ≤ d.size ∧ Hid (∀ i, 0 < i → i < k → d[i]! ≠ d[i - 1]!) ∧ Rw B g c d wr ∧ Chg (fun x => x = g) w wr) (fun vi _ _ _ => d.size - (intOf vi).toNat)
    case atStart => exact ⟨1, rfl, Nat.le_refl _, by omega, fun i h1 h2 => by omega, h, Chg.refl _ _⟩
    case round =>
      obtain ⟨k, rfl, h1, hk, HN, hW, hch⟩ := hrel
      clear h
      by_cases hlt : k < d.size
      · have c1 := hW.cell k hlt
        have c0 := hW.cell (k - 1) (by omega)
        have hs1 : IntKind.i64.wrap ((k : Int) - 1) = ((k - 1 : Nat) : Int) := by rw [IntKind.wrap_i64]; omega
        have hs2 : (k : Int) - 1 = ((k - 1 : Nat) : Int) := by omega
        have hl1 : (k : Int) < (d.size : Int) := by omega
        have hl2 : ((k - 1 : Nat) : Int) < (d.size : Int) := by omega
        generalize hX : d[k]! = X at *
        generalize hY : d[k - 1]! = Y at *
        have HXY : Hid _ := And.intro hX hY
        clear hX hY
        by_cases hdup : X = Y
        · subst hdup
          have hq : ((X.toNat : Int) == (X.toNat : Int)) = true := by simp
          have HS : Hid (Cm d (k + 1) k d) := Cm.start (by omega) hlt HN.out (by rw [HXY.out.1, HXY.out.2])
          go_wp2_with fail
          go_quiet (fail)
          go_wp2_with fail
          have hWq := hW.drewN nq
          have hcq := hch.dn nq
          clear hW hch c0 c1 hs1 hs2 hl2 hq
          generalize wr.drewN nq = wq at *
          clear wr
          go_loopw [3, 5] (fun vi vj wr => ∃ (kk j : Nat) (dk : Array UInt64), vi = .int .i64 kk ∧ vj = .int .i64 j ∧ 1 ≤ j ∧ j ≤ d.size - k ∧ kk < k + j ∧ Hid (Cm d (k + j) kk dk) ∧ Rw B g c dk wr ∧ Chg (fun x => x = g) w wr) (fun _ vj _ => d.size - k - (intOf vj).toNat)
          case atStart => exact ⟨k, 1, d, rfl, rfl, Nat.le_refl _, by omega, by omega, HS, hWq, hcq⟩
          case round =>
            obtain ⟨kk, j, dk, rfl, rfl, hj1, hjn, hkk, HC, hK, hcK⟩ := hrel
            clear hWq hcq
            have HZ : Hid _ := HC.out.sz
            by_cases hlt2 : j < d.size - k
            · have cm := hK.cell (k + j) (by rw [HZ.out]; omega)
              have cp := hK.cell (k + (j - 1)) (by rw [HZ.out]; omega)
              have ck := hK.cell kk (by rw [HZ.out]; omega)
              have fk := hK.froz kk
              have g1 := HC.out.high (k + j) (by omega) (by omega)
              have g2 := HC.out.high (k + (j - 1)) (by omega) (by omega)
              rw [g1] at cm
              rw [g2] at cp
              have t1 : IntKind.i64.wrap ((j : Int) - 1) = ((j - 1 : Nat) : Int) := by rw [IntKind.wrap_i64]; omega
              have t2 : (j : Int) - 1 = ((j - 1 : Nat) : Int) := by omega
              have t3 : (j : Int) < ((d.size - k : Nat) : Int) := by omega
              have t4 : ((j - 1 : Nat) : Int) < ((d.size - k : Nat) : Int) := by omega
              have t5 : (kk : Int) < (d.size : Int) := by omega
              have hkj : k + (j - 1) = k + j - 1 := by omega
              generalize hX : d[k + j]! = X2 at *
              generalize hY : d[k + (j - 1)]! = Y2 at *
              have HXY2 : Hid (d[k + j]! = X2 ∧ d[k + j - 1]! = Y2) := ⟨hX, by rw [← hkj]; exact hY⟩
              clear hX hY g1 g2 hkj
              generalize dk[kk]! = O2 at *
              by_cases hne : X2 = Y2
              · subst hne
                have hq : ((X2.toNat : Int) != (X2.toNat : Int)) = false := by simp
                have HC2 : Hid (Cm d (k + (j + 1)) kk dk) := HC.out.skip (by omega) (by rw [HXY2.out.1, HXY2.out.2])
                clear HC
                go_wp2_with fail
                go_quiet (fail)
                go_wp2_with fail
                exact ⟨⟨kk, j + 1, dk, rfl, by go_num, by omega, by omega, by omega, HC2, hK.drewN _, hcK.dn _⟩, by simp [intOf]; omega⟩
              · have hq : ((X2.toNat : Int) != (Y2.toNat : Int)) = true := by
                  simp only [bne_iff_ne, ne_eq]
                  exact fun e => hne (UInt64.toNat_inj.1 (by omega))
                have HC2 : Hid (Cm d (k + (j + 1)) (kk + 1) (dk.setIfInBounds kk X2)) := by
                  have := HC.out.keep (by omega) (by rw [HXY2.out.1, HXY2.out.2]; exact hne)
                  rw [HXY2.out.1] at this
                  exact this
                have HP : Hid (∀ n, Rw B g c (dk.setIfInBounds kk X2) ((wr.drewN n).setCell ⟨g, kk, none⟩ (.int .u64 (X2.toNat : Int)))) := fun n => (hK.drewN n).put kk X2
                have HQ : Hid (∀ n, Chg (fun x => x = g) w ((wr.drewN n).setCell ⟨g, kk, none⟩ (.int .u64 (X2.toNat : Int)))) := fun n => (hcK.dn n).put g kk _ rfl
                clear HC
                go_wp2_with fail
                go_quiet (fail)
                go_wp2_with fail
                exact ⟨⟨kk + 1, j + 1, dk.setIfInBounds kk X2, by go_num, by go_num, by omega, by omega, by omega, HC2, HP.out _, HQ.out _⟩, by simp [intOf]; omega⟩
            · have hend : k + j = d.size := by omega
              have hkl : kk < d.size := by omega
              have hzk := HZ.out
              have hcl : ∀ ty, (Builtin.clear_ #[22] ty #[.slice (some ⟨g, kk, none⟩) (d.size - kk) (c - kk)]).run Try.prog wr = .ok (.tuple #[]) (wr.setCells g kk (List.replicate (d.size - kk) (.int .u64 0))) :=
                fun ty => Lib.run_clear_slice wr _ _ ty _ Try.underlying22 Try.zeroU rfl rfl g kk _ _ (by omega) (fun q hq => by rw [hK.cell (kk + q) (by omega)]; rfl) (fun q hq => hK.froz _)
              have HE : Hid (R = dk.toList.take kk) := by
                show R = _
                rw [← HR.out, ← hend]; exact HC.out.out
              have HO : Hid (Ou B (wr.setCells g kk (List.replicate (d.size - kk) (.int .u64 0))) (.slice (some ⟨g, 0, none⟩) kk c) R) := by
                show Ou _ _ _ _
                rw [HE.out]
                exact ou_setCells kk (by simp; omega) _ _ (hK.pre kk (by omega)) kk (Nat.le_refl _)
              have HG : Hid _ := hcK.trans ((chg_cells g (List.replicate (d.size - kk) (.int .u64 0)) kk wr).mono (fun b _ q => .inl q))
              have t1 : (kk : Int) ≤ (d.size : Int) := by omega
              clear HC hK hcK hzk HE
              go_wp2_with fail
              go_ret
              exact ⟨_, rfl, HO.out, HG.out, rfl⟩
        · have hq : ((X.toNat : Int) == (Y.toNat : Int)) = false := by
            simp only [beq_eq_false_iff_ne, ne_eq]
            exact fun e => hdup (UInt64.toNat_inj.1 (by omega))
          have HN2 : Hid (∀ i, 0 < i → i < k + 1 → d[i]! ≠ d[i - 1]!) := fun i h1 h2 => by
            by_cases hi : i = k
            · subst hi; rw [HXY.out.1, HXY.out.2]; exact hdup
            · exact HN.out i h1 (by omega)
          go_wp2_with fail
          go_quiet (fail)
          go_wp2_with fail
          exact ⟨⟨k + 1, by go_num, by omega, by omega, HN2, hW.drewN _, hch.dn _⟩, by simp [intOf]; omega⟩
      · obtain rfl : k = d.size := by omega
        have HE : Hid (R = d.toList) := by
          show R = _
          rw [← HR.out, cmK_all _ _ (by simp) (fun i h1 h2 => by rw [getD_arr _ _ h2, getD_arr _ _ (by omega)]; exact HN.out i h1 h2), List.take_of_length_le (by simp)]
        obtain rfl := HE.out
        go_wp2_with fail
        go_ret
        exact ⟨_, rfl, hW, hch, rfl⟩
end Go.Proofs.Ytedpfmalhapmeaa

/- What 'Same' of two lists of numbers answers: whether they read as the same numbers. -/
namespace Go.Proofs.Ytedpfmalhapmeaa
open Go.RowKit
set_option linter.unusedVariables false

set_option maxHeartbeats 400000 in
theorem sameU_core (a b : Addr) (n ca cb : Nat) (f g : Nat → UInt64) (w : World) (hl : n ≤ maxLen)
    (ha : ∀ i, i < n → w.cell? (a.add i) = some (.int .u64 ((f i).toNat : Int))) (hb : ∀ i, i < n → w.cell? (b.add i) = some (.int .u64 ((g i).toNat : Int))) :
    Calls Try.prog 18 #[.slice (some a) n ca, .slice (some b) n cb] w fun e w' => (∃ r, e = .returned (.bool r) ∧ (r = true ↔ ∀ i, i < n → f i = g i)) ∧ ∃ k, w' = w.drewN k := by
  unfold maxLen at hl
  go_enter Try.func18, Try.ntmps18
  go_wp2
  go_loopw [5] (fun i wr => ∃ k : Nat, k ≤ n ∧ i = .int .i64 k ∧ (∀ j, j < k → f j = g j) ∧ ∃ m, wr = w.drewN m) (fun i _ => n - (intOf i).toNat)
  case atStart => exact ⟨0, Nat.zero_le _, rfl, fun j hj => by omega, 0, rfl⟩
  case round =>
    obtain ⟨k, hk, rfl, hs, m, rfl⟩ := hrel
    by_cases hlt : k < n
    · have h1 := ha k hlt
      have h2 := hb k hlt
      clear ha hb
      go_wp2
      go_region
      all_goals go_wp2
      · go_ret
        refine ⟨⟨false, rfl, ?_⟩, _, rfl⟩
        simp only [Bool.false_eq_true, false_iff]
        intro hh
        have := hh k hlt
        simp_all
      · rename_i hne
        have he : f k = g k := by
          have : ((f k).toNat : Int) = ((g k).toNat : Int) := by simpa using hne
          exact UInt64.toNat_inj.1 (by omega)
        refine ⟨⟨k + 1, by omega, by go_num, fun j hj => ?_, _, rfl⟩, by simp [intOf]; omega⟩
        by_cases hj' : j < k
        · exact hs j hj'
        · obtain rfl : j = k := by omega
          exact he
    · go_wp2
      go_ret
      exact ⟨⟨true, rfl, by simp; intro i hi; exact hs i (by omega)⟩, _, rfl⟩

/-- 'Same' of two lists of numbers: whether they are the same numbers; memory stands. -/
theorem sameU_any {va vb : Value} {la lb : List UInt64} {w : World} (ha : Ru w va la) (hb : Ru w vb lb) :
    Calls Try.prog 18 #[va, vb] w fun e w' => e = .returned (.bool (decide (la = lb))) ∧ ∃ n, w' = w.drewN n := by
  by_cases hn : la.length = lb.length
  · rcases ha.two with ⟨rfl, rfl⟩ | ⟨a, ca, rfl, h1, h2, h3⟩
    · obtain rfl : lb = [] := List.length_eq_zero_iff.1 (by simpa using hn.symm)
      obtain ⟨b, cb, rfl⟩ : ∃ b cb, vb = .slice b 0 cb := by
        rcases hb.two with ⟨rfl, _⟩ | ⟨b, cb, rfl, _⟩
        · exact ⟨_, _, rfl⟩
        · exact ⟨_, _, rfl⟩
      clear hb hn
      go_enter Try.func18, Try.ntmps18
      go_wp2
      refine wp_loop_rounds 1 ?_
      rw [rounds_succ]
      go_wp2
      go_ret
      exact ⟨by simp, 0, rfl⟩
    · rcases hb.two with ⟨rfl, rfl⟩ | ⟨b, cb, rfl, k1, k2, k3⟩
      · obtain rfl : la = [] := List.length_eq_zero_iff.1 (by simpa using hn)
        clear h1 h2 h3 hn
        go_enter Try.func18, Try.ntmps18
        go_wp2
        refine wp_loop_rounds 1 ?_
        rw [rounds_succ]
        go_wp2
        go_ret
        exact ⟨by simp, 0, rfl⟩
      · rw [← hn]
        refine (sameU_core a b la.length ca cb (fun i => la.getD i 0) (fun i => lb.getD i 0) w (by omega) (fun i hi => ?_) (fun i hi => ?_)).mono ?_
        · rw [h3 i hi]; simp [hi]
        · rw [k3 i (by omega)]; simp [show i < lb.length by omega]
        · rintro e w' ⟨⟨r, rfl, hr⟩, hw⟩
          refine ⟨?_, hw⟩
          have : r = decide (la = lb) := by
            rw [Bool.eq_iff_iff, hr, decide_eq_true_iff]
            constructor
            · intro h
              refine List.ext_getElem hn fun i hi hi' => ?_
              have := h i hi
              simpa [hi, hi'] using this
            · rintro rfl i _; rfl
          rw [this]
  · have hd : decide (la = lb) = false := by
      simp only [decide_eq_false_iff_not]; rintro rfl; exact hn rfl
    rw [hd]
    obtain ⟨a, ca, rfl⟩ : ∃ a ca, va = .slice a la.length ca := by
      rcases ha.two with ⟨rfl, rfl⟩ | ⟨a, ca, rfl, _⟩
      · exact ⟨_, _, rfl⟩
      · exact ⟨_, _, rfl⟩
    obtain ⟨b, cb, rfl⟩ : ∃ a ca, vb = .slice a lb.length ca := by
      rcases hb.two with ⟨rfl, rfl⟩ | ⟨a, ca, rfl, _⟩
      · exact ⟨_, _, rfl⟩
      · exact ⟨_, _, rfl⟩
    clear ha hb hd
    have hne : (((la.length : Nat) : Int) != ((lb.length : Nat) : Int)) = true := by simp; omega
    clear hn
    go_enter Try.func18, Try.ntmps18
    go_wp2
    go_ret
    exact ⟨rfl, 0, rfl⟩
end Go.Proofs.Ytedpfmalhapmeaa

/- A configuration in memory; SameConf. -/
namespace Go.Proofs.Ytedpfmalhapmeaa
open Go.RowKit
set_option linter.unusedVariables false
set_option maxRecDepth 100000

set_option maxHeartbeats 1000000 in
theorem sameconf_any {x y z x' y' z' : Value} {a b : Cn} {w : World} (ha : Rc w x y z a) (hb : Rc w x' y' z' b) :
    Calls Try.prog 20 #[.agg #[x, y, z], .agg #[x', y', z']] w fun e w' => e = .returned (.bool (decide (a = b))) ∧ Below w.heap.size w w' := by
  obtain ⟨V, O, L⟩ := a
  obtain ⟨V', O', L'⟩ := b
  obtain ⟨h1, h2, h3⟩ := ha
  obtain ⟨k1, k2, k3⟩ := hb
  simp only [] at h1 h2 h3 k1 k2 k3
  obtain ⟨ax, cx, rfl⟩ := h1.shape
  obtain ⟨ay, cy, rfl⟩ := h2.shape
  obtain ⟨az, cz, rfl⟩ := h3.shape
  obtain ⟨bx, dx, rfl⟩ := k1.shape
  obtain ⟨by', dy, rfl⟩ := k2.shape
  obtain ⟨bz, dz, rfl⟩ := k3.shape
  have s1 : ∀ W, Below w.heap.size w W → _ := fun W hW => sameU_any (h1.below hW (Nat.le_refl _)) (k1.below hW (Nat.le_refl _))
  have s2 : ∀ W, Below w.heap.size w W → _ := fun W hW => sameU_any (h2.below hW (Nat.le_refl _)) (k2.below hW (Nat.le_refl _))
  have s3 : ∀ W, Below w.heap.size w W → _ := fun W hW => sameU_any (h3.below hW (Nat.le_refl _)) (k3.below hW (Nat.le_refl _))
  have hB2 : Below w.heap.size w ((w.alloc (.cells #[.slice ax V.length cx, .slice ay O.length cy, .slice az L.length cz] 24)).alloc (.cells #[.slice bx V'.length dx, .slice by' O'.length dy, .slice bz L'.length dz] 24)) := (u_al w _).alloc (by simp) _
  have e : decide ((V, O, L) = (V', O', L')) = (decide (V = V') && (decide (O = O') && decide (L = L'))) := by
    by_cases q1 : V = V' <;> by_cases q2 : O = O' <;> by_cases q3 : L = L' <;> simp [q1, q2, q3]
  rw [e]
  clear e h1 h2 h3 k1 k2 k3
  generalize decide (V = V') = r1 at *
  generalize decide (O = O') = r2 at *
  generalize decide (L = L') = r3 at *
  generalize hT : (r1 && (r2 && r3)) = T
  have HT : Hid _ := hT
  clear hT
  have HB2 : Hid _ := hB2
  go_enter Try.func20, Try.ntmps20
  go_wp2_with fail
  refine (s1 _ hB2).mono ?_
  rintro e w1 ⟨rfl, n1, rfl⟩
  cases r1 with
  | false =>
    go_wp2_with fail
    go_ret
    exact ⟨by rw [← HT.out]; rfl, Below.drN hB2 _⟩
  | true =>
    go_wp2_with fail
    refine (s2 _ (Below.drN hB2 _)).mono ?_
    rintro e w1 ⟨rfl, n2, rfl⟩
    cases r2 with
    | false =>
      go_wp2_with fail
      go_ret
      exact ⟨by rw [← HT.out]; rfl, Below.drN hB2 _⟩
    | true =>
      go_wp2_with fail
      refine (s3 _ (Below.drN hB2 _)).mono ?_
      rintro e w1 ⟨rfl, n3, rfl⟩
      go_wp2_with fail
      go_ret
      exact ⟨by rw [← HT.out]; rfl, Below.drN hB2 _⟩
end Go.Proofs.Ytedpfmalhapmeaa

/- The library's math/bits.Len at this program: a contract of the shelf, laid by its commands in plain words. -/
namespace Go.Proofs.Ytedpfmalhapmeaa
open Go.RowKit Go.Shelf

def Try.lays125_ren : Go.Shelf.Ren := ⟨fun | 125 => 55 | 128 => 68 | 129 => 69 | n => n, fun | 46 => 76 | 3 => 3 | 51 => 90 | 53 => 25 | 4 => 4 | 5 => 5 | 9 => 9 | n => n, fun | n => n⟩
theorem Try.lays125 : Go.Proofs.Lays.n125 Try.prog Try.lays125_ren := {
  mixed := by kernel_rfl
  f125 := Try.func55.trans (congrArg some (by kernel_rfl))
  f128 := Try.func68.trans (congrArg some (by kernel_rfl))
  f129 := Try.func69.trans (congrArg some (by kernel_rfl))
  t3 := Try.underlying3
  a3 := Try.isAgg3
  z3 := Try.sizeOf3
  v3 := Try.zeroValue3
  t4 := Try.underlying4
  a4 := Try.isAgg4
  z4 := Try.sizeOf4
  v4 := Try.zeroValue4
  t5 := Try.underlying5
  a5 := Try.isAgg5
  z5 := Try.sizeOf5
  v5 := Try.zeroValue5
  t9 := Try.underlying9
  a9 := Try.isAgg9
  z9 := Try.sizeOf9
  v9 := Try.zeroValue9
  t46 := Try.underlying76
  a46 := Try.isAgg76
  z46 := Try.sizeOf76
  v46 := Try.zeroValue76
  t51 := Try.underlying90
  a51 := Try.isAgg90
  z51 := Try.sizeOf90
  v51 := Try.zeroValue90
  t53 := Try.underlying25
  a53 := Try.isAgg25
  z53 := Try.sizeOf25
  v53 := Try.zeroValue25 }

theorem Try.bits_Len (x : Int) (w : World) (h0 : 0 ≤ x) (h1 : x ≤ 18446744073709551615) :
    Calls Try.prog 55 #[.int .u64 x] w fun e w' => e = .returned (.int .i64 (Lib.bitLen x.toNat)) ∧ w' = w := Any.bits_Len Try.lays125 x w h0 h1
end Go.Proofs.Ytedpfmalhapmeaa

/- slices.Sort at uint64: what is asked of it, and of at most twelve numbers. -/
namespace Go.Proofs.Ytedpfmalhapmeaa
open Go.RowKit Go.Sort
set_option linter.unusedVariables false
set_option maxRecDepth 100000

/-- What is asked of math/bits.Len: some number. -/
def LenOk : Prop := ∀ (n : Nat) (W : World), n < 4611686018427387904 → Calls Try.prog 55 #[.int .u64 n] W fun e w' => ∃ r : Nat, r ≤ 64 ∧ e = .returned (.int .i64 r) ∧ w' = W
/-- What is asked of slices.Sort, of at most N numbers. -/
def SortsTo (N : Nat) : Prop := ∀ (B : Nat) (w : World) (v : Value) (l : List UInt64), Ou B w v l → l.length ≤ N → Calls Try.prog 32 #[v] w fun e w' => e = .returned (.tuple #[]) ∧ (∃ l', Ou B w' v l' ∧ l'.Perm l ∧ l'.Pairwise (fun x y => x.toNat ≤ y.toNat)) ∧ Chg (fun b => v.ownBlock = some b) w w'

theorem swo_ltU : SWO ltU where
  irrefl x := by simp [ltU]
  trans x y z h1 h2 := by simp only [ltU, decide_eq_true_eq] at *; omega
  ntrans x y z h1 h2 := by simp only [ltU, decide_eq_false_iff_not] at *; omega

theorem sorted_of {d d' : Array UInt64} (hP : PermIn 0 d.size d d') (hS : SortedIn ltU 0 d.size d') : d'.size = d.size ∧ d'.toList.Perm d.toList ∧ d'.toList.Pairwise (fun x y => x.toNat ≤ y.toNat) := by
  obtain ⟨hsz, _, hperm⟩ := hP
  have e1 : d'.extract 0 d.size = d' := by rw [← hsz]; exact Array.extract_size
  rw [e1, Array.extract_size] at hperm
  refine ⟨hsz, hperm, ?_⟩
  rw [List.pairwise_iff_getElem]
  intro i j hi hj hij
  have hi' : i < d'.size := by simpa using hi
  have hj' : j < d'.size := by simpa using hj
  have := hS i j (Nat.zero_le _) hij (by omega)
  rw [getElem!_pos d' j hj', getElem!_pos d' i hi'] at this
  simp only [ltU, decide_eq_false_iff_not] at this
  simp only [Array.getElem_toList]
  omega

theorem pdq_nil (r : Nat) (w : World) : Calls Try.prog 54 #[.slice none 0 0, .int .i64 0, .int .i64 0, .int .i64 r] w fun e w' => e = .returned (.tuple #[]) ∧ w' = w := by
  have hi : Calls Try.prog 59 #[.slice none 0 0, .int .i64 0, .int .i64 0] w fun e w' => e = .returned (.tuple #[]) ∧ w' = w := by
    go_enter Try.func59, Try.ntmps59
    go_wp2_with fail
    refine wp_loop_rounds 1 ?_
    rw [rounds_succ]
    go_wp2_with fail
    go_end0
    exact ⟨rfl, rfl⟩
  go_enter Try.func54, Try.ntmps54
  go_wp2_with fail
  refine wp_loop_rounds 1 ?_
  rw [rounds_succ]
  go_wp2_with fail
  refine hi.mono ?_
  rintro e w1 ⟨rfl, rfl⟩
  go_wp2_with fail
  refine bodyPost_ret (v := .tuple #[]) (by simp [results, Try.results54, go_sem]; try rfl) rfl ?_
  exact ⟨rfl, rfl⟩

theorem pdq_small {B g c : Nat} {d : Array UInt64} {w : World} (h : Rw B g c d w) (r : Nat) (hd : d.size ≤ 12) : Calls Try.prog 54 #[.slice (some ⟨g, 0, none⟩) d.size c, .int .i64 0, .int .i64 d.size, .int .i64 r] w fun e w' => e = .returned (.tuple #[]) ∧ Rw B g c (insertionSort ltU d 0 d.size) w' ∧ Chg (fun x => x = g) w w' := by
  have hi := uins_any h 0 d.size (Nat.le_refl _) (Nat.zero_le _) (by omega)
  have hd2 : (d.size : Int) ≤ 12 := by omega
  go_enter Try.func54, Try.ntmps54
  go_wp2_with fail
  refine wp_loop_rounds 1 ?_
  rw [rounds_succ]
  go_wp2_with fail
  refine hi.mono ?_
  rintro e w1 ⟨rfl, hr, hc⟩
  go_wp2_with fail
  refine bodyPost_ret (v := .tuple #[]) (by simp [results, Try.results54, go_sem]; try rfl) rfl ?_
  exact ⟨rfl, hr, hc⟩

theorem usort_small (hlen : LenOk) : SortsTo 12 := by
  intro B w v l ho hl
  rcases ho.blk with ⟨rfl, rfl⟩ | ⟨g, c, rfl, h1, h2, h3, h4, _⟩
  · go_enter Try.func32, Try.ntmps32
    go_wp2_with fail
    refine (hlen 0 w (by omega)).mono ?_
    rintro e w1 ⟨r, hr, rfl, rfl⟩
    go_wp2_with fail
    refine (pdq_nil r _).mono ?_
    rintro e w2 ⟨rfl, rfl⟩
    go_wp2_with fail
    go_end0
    exact ⟨rfl, ⟨[], Ou.nil _ _, .refl _, .nil⟩, Chg.refl _ _⟩
  · have hRw : Rw B g c l.toArray w := by unfold Rw; simpa using ho
    have hsz : l.toArray.size = l.length := by simp
    have hp := fun r => pdq_small hRw r (by rw [hsz]; exact hl)
    obtain ⟨hP, hS⟩ := insertionSort_holds (lt := ltU) swo_ltU l.toArray 0 l.toArray.size (Nat.zero_le _) (Nat.le_refl _)
    obtain ⟨q1, q2, q3⟩ := sorted_of hP hS
    rw [hsz] at hp q1 q2 q3
    clear hP hS
    unfold maxLen at h2
    go_enter Try.func32, Try.ntmps32
    go_wp2_with fail
    refine (hlen l.length w (by omega)).mono ?_
    rintro e w1 ⟨r, hr, rfl, rfl⟩
    go_wp2_with fail
    refine (hp r).mono ?_
    rintro e w2 ⟨rfl, hw2, hc2⟩
    go_wp2_with fail
    go_end0
    refine ⟨rfl, ⟨_, ?_, by simpa using q2, q3⟩, hc2.mono (fun b _ q => by subst q; rfl)⟩
    unfold Rw at hw2
    rw [q1] at hw2
    exact hw2
end Go.Proofs.Ytedpfmalhapmeaa

/- math/bits.Len: some number. -/
namespace Go.Proofs.Ytedpfmalhapmeaa
open Go.RowKit
set_option linter.unusedVariables false
set_option maxRecDepth 100000

theorem bitLenAux_le : ∀ f n : Nat, Lib.bitLenAux f n ≤ f
  | 0, _ => Nat.le_refl _
  | f + 1, n => by
    rw [Lib.bitLenAux]
    split
    · omega
    · have := bitLenAux_le f (n / 2); omega

theorem len_ok : LenOk := fun n W hn => by
  refine (Try.bits_Len (n : Int) W (by omega) (by omega)).mono ?_
  rintro e w' ⟨rfl, rfl⟩
  exact ⟨_, bitLenAux_le 64 _, rfl, rfl⟩
end Go.Proofs.Ytedpfmalhapmeaa

/- What Members and Check answer of any configuration. -/
namespace Go.Proofs.Ytedpfmalhapmeaa
open Go.RowKit Go.Sort
set_option linter.unusedVariables false
set_option maxRecDepth 100000

/-- Numbers that rise, each once. -/
def Ris (l : List UInt64) : Prop := l.Pairwise (fun x y => x.toNat < y.toNat)
theorem Ris.ext {a b : List UInt64} (ha : Ris a) (hb : Ris b) (h : ∀ x, x ∈ a ↔ x ∈ b) : a = b := by
  have nd : ∀ {l : List UInt64}, Ris l → l.Nodup := fun {l} hl => hl.imp (fun h e => by subst e; omega)
  have hp : a.Perm b := (List.perm_ext_iff_of_nodup (nd ha) (nd hb)).2 h
  refine List.Perm.eq_of_pairwise (le := fun x y : UInt64 => x.toNat ≤ y.toNat) (fun x y _ _ h1 h2 => UInt64.toNat_inj.1 (by omega)) (ha.imp (fun h => by omega)) (hb.imp (fun h => by omega)) hp

theorem cmK_sorted (l : List UInt64) (hs : l.Pairwise (fun x y => x.toNat ≤ y.toNat)) : ∀ k, k ≤ l.length → Ris (cmK l k) ∧ (∀ x, x ∈ cmK l k ↔ x ∈ l.take k) ∧ (∀ x ∈ cmK l k, 0 < k → x.toNat ≤ (l.getD (k - 1) 0).toNat) := by
  intro k
  induction k with
  | zero => intro _; exact ⟨.nil, by simp [cmK], by simp [cmK]⟩
  | succ k ih =>
    intro hk
    obtain ⟨h1, h2, h3⟩ := ih (by omega)
    have hlt : k < l.length := by omega
    have ek : l.getD k 0 = l[k] := by simp [hlt]
    have hle : 0 < k → (l.getD (k - 1) 0).toNat ≤ (l[k]).toNat := fun h0 => by
      have e : l.getD (k - 1) 0 = l[k - 1] := by simp [show k - 1 < l.length by omega]
      rw [e]
      exact List.pairwise_iff_getElem.1 hs (k - 1) k (by omega) hlt (by omega)
    rw [cmK, List.take_succ_eq_append_getElem hlt, ek, Nat.add_sub_cancel, ek]
    by_cases hc : k = 0 ∨ l[k] ≠ l.getD (k - 1) 0
    · rw [if_pos hc]
      refine ⟨?_, fun x => by rw [List.mem_append, List.mem_append, h2], fun x hx _ => ?_⟩
      · refine List.pairwise_append.2 ⟨h1, by simp, fun x hx y hy => ?_⟩
        obtain rfl := List.mem_singleton.1 hy
        rcases hc with rfl | hc
        · simp [cmK] at hx
        · by_cases h0 : k = 0
          · subst h0; simp [cmK] at hx
          · have g1 := h3 x hx (by omega)
            have g2 := hle (by omega)
            have g3 : (l.getD (k - 1) 0).toNat ≠ (l[k]).toNat := fun e => hc (UInt64.toNat_inj.1 e.symm)
            omega
      · rcases List.mem_append.1 hx with hx | hx
        · by_cases h0 : k = 0
          · subst h0; simp [cmK] at hx
          · have := h3 x hx (by omega); have := hle (by omega); omega
        · obtain rfl := List.mem_singleton.1 hx; exact Nat.le_refl _
    · rw [if_neg hc, List.append_nil]
      have h0 : k ≠ 0 := fun e => hc (.inl e)
      have he : l[k] = l.getD (k - 1) 0 := by
        by_cases e : l[k] = l.getD (k - 1) 0
        · exact e
        · exact absurd (.inr e) hc
      refine ⟨h1, fun x => ?_, fun x hx _ => ?_⟩
      · rw [List.mem_append, h2, List.mem_singleton]
        refine ⟨.inl, fun hx => ?_⟩
        rcases hx with hx | rfl
        · exact hx
        · rw [he]
          have e : l.getD (k - 1) 0 = l[k - 1] := by simp [show k - 1 < l.length by omega]
          rw [e]
          exact List.mem_iff_getElem.2 ⟨k - 1, by simp; omega, by simp⟩
      · have := h3 x hx (by omega); have := hle (by omega); omega

/-- All that a configuration has. -/
def IsMem (c : Cn) (m : List UInt64) : Prop := Ris m ∧ ∀ x, x ∈ m ↔ x ∈ c.1 ∨ x ∈ c.2.1 ∨ x ∈ c.2.2

set_option maxHeartbeats 1000000 in
theorem members_any {N : Nat} (hS : SortsTo N) {x y z : Value} {c : Cn} {w : World} (hr : Rc w x y z c) (hl : c.1.length + c.2.1.length + c.2.2.length ≤ N) (hN : N ≤ 1099511627776) :
    Calls Try.prog 9 #[.agg #[x, y, z]] w fun e w' => ∃ v' m, e = .returned v' ∧ Ou w.heap.size w' v' m ∧ IsMem c m ∧ Below w.heap.size w w' := by
  obtain ⟨V, O, L⟩ := c
  obtain ⟨h1, h2, h3⟩ := hr
  simp only [] at h1 h2 h3 hl
  have hfl : [V, O, L].flatten = V ++ (O ++ L) := by simp
  have hcc : ∀ (W : World) (g : Nat), g = W.heap.size → Below w.heap.size w W → Calls Try.prog 31 #[.slice (some ⟨g, 0, none⟩) 3 3] (W.alloc (.cells #[x, y, z] 22)) fun e w' => ∃ v', e = .returned v' ∧ Ou w.heap.size w' v' (V ++ (O ++ L)) ∧ Below w.heap.size w w' := fun W g hg hW => by
    have hs := hW.size
    refine (uconcat_any (rus_three (h1.below hW (Nat.le_refl _)) (h2.below hW (Nat.le_refl _)) (h3.below hW (Nat.le_refl _)) 22 _ hg) (by simp) (by rw [hfl]; simp; omega)).mono ?_
    rintro e w' ⟨v', rfl, ho, hb⟩
    rw [hfl] at ho
    exact ⟨v', rfl, ho.mono (by simp; omega), hW.trans (((Below.refl w.heap.size W).alloc hs _).trans (hb.mono (by simp; omega)))⟩
  have hB0 : Below w.heap.size w (w.alloc (.cells #[x, y, z] 24)) := u_al w _
  obtain ⟨ax, cx, rfl⟩ := h1.shape
  obtain ⟨ay, cy, rfl⟩ := h2.shape
  obtain ⟨az, cz, rfl⟩ := h3.shape
  have q0 := hcc _ (w.heap.size + 1) (by simp) hB0
  clear hcc h1 h2 h3
  go_enter Try.func9, Try.ntmps9
  go_wp2_with fail
  refine q0.mono ?_
  rintro e w1 ⟨v1, rfl, ho1, hb1⟩
  go_wp2_with fail
  refine (hS w.heap.size w1 v1 _ ho1 (by simp; omega)).mono ?_
  rintro e w2 ⟨rfl, ⟨l', ho2, hp, hso⟩, hc2⟩
  have hb2 : Below w.heap.size w w2 := hb1.trans (hc2.below (fun b e => (ho1.lt b e).1) hb1.size)
  obtain ⟨k1, k2, k3⟩ := cmK_sorted l' hso l'.length (Nat.le_refl _)
  have hmem : IsMem (V, O, L) (cmK l' l'.length) := ⟨k1, fun x => by rw [k2, List.take_length, hp.mem_iff]; simp⟩
  have hlen := hp.length_eq
  simp only [List.length_append] at hlen
  have hlen2 : l'.length ≤ 1099511627776 := by omega
  clear k1 k2 k3 hso hp hlen
  rcases ho2.blk with ⟨rfl, rfl⟩ | ⟨g, cc, rfl, z1, z2, z3, z4, _⟩
  · have hcp : Calls Try.prog 33 #[.slice none 0 0] w2 fun e w' => e = .returned (.slice none 0 0) ∧ w' = w2 := by
      go_enter Try.func33, Try.ntmps33
      go_wp2_with fail
      go_ret
      exact ⟨rfl, rfl⟩
    go_wp2_with fail
    refine hcp.mono ?_
    rintro e w3 ⟨rfl, rfl⟩
    go_wp2_with fail
    go_ret
    exact ⟨_, _, rfl, Ou.nil _ _, hmem, hb2⟩
  · have hRw : Rw w.heap.size g cc l'.toArray w2 := by unfold Rw; simpa using ho2
    have hcp := ucompact_any hRw (by simp; omega)
    simp only [List.size_toArray] at hcp
    go_wp2_with fail
    refine hcp.mono ?_
    rintro e w3 ⟨v3, rfl, ho3, hc3, hv3⟩
    go_wp2_with fail
    go_ret
    exact ⟨_, _, rfl, ho3, hmem, hb2.trans (hc3.below (fun b q => by omega) hb2.size)⟩
end Go.Proofs.Ytedpfmalhapmeaa
