/- Steps: how many members there are behind an order. -/
import Derived.Test.YtedfjacmaidhkaaGreatG23
namespace Go.Proofs.YtedfjacmaidhkaaGreat
open Go.RowKit Go.Maps
set_option linter.unusedVariables false
set_option linter.unusedSimpArgs false
set_option maxRecDepth 100000

def namF (s : Int) (i : Nat) (p : Pe) : Bool := decide (s = p.2.1) && decide (i = p.1.toNat)
set_option maxHeartbeats 2000000 in
theorem names_any (k s : Int) (g i t : Nat) (p : Pe) (w : World) (hs : s ≠ 0) (hi : i ≠ 0) :
    Calls Tryz.prog 29 #[.agg #[.int .i64 k, .int .u64 (g : Int), .int .i64 s, .int .u64 (i : Int), .int .u64 (t : Int)], .agg #[.int .u64 (p.1.toNat : Int), .int .i64 p.2.1, .bool p.2.2]] w fun e w' => e = .returned (.bool (namF s i p)) ∧ Below w.heap.size w w' := by
  have hb := (ob_al w (.cells #[.int .i64 k, .int .u64 (g : Int), .int .i64 s, .int .u64 (i : Int), .int .u64 (t : Int)] 32)).trans ((ob_al _ (.cells #[.int .u64 (p.1.toNat : Int), .int .i64 p.2.1, .bool p.2.2] 44)).mono (ob_al w (.cells #[.int .i64 k, .int .u64 (g : Int), .int .i64 s, .int .u64 (i : Int), .int .u64 (t : Int)] 32)).size)
  have z1 : (s == 0) = false := beq_eq_false_iff_ne.2 hs
  have z2 : ((i : Int) == 0) = false := beq_eq_false_iff_ne.2 (by omega)
  have hd : namF s i p = (decide (s = p.2.1) && decide (i = p.1.toNat)) := rfl
  obtain ⟨p0, p1, p2⟩ := p
  simp only [] at hd ⊢
  generalize namF s i (p0, p1, p2) = res at *
  have HD : Hid _ := hd
  have HB : Hid _ := hb
  clear hd hb
  by_cases h1 : s = p1
  · subst h1
    by_cases h2 : i = p0.toNat
    · subst h2
      have hr : Hid (res = true) := by show _ = _; rw [HD.out]; simp
      go_enter Tryz.func29, Tryz.ntmps29
      go_wp2_with fail
      go_ret
      exact ⟨by rw [hr.out]; rfl, HB.out⟩
    · have z3 : ((i : Int) == (p0.toNat : Int)) = false := beq_eq_false_iff_ne.2 (by omega)
      have hr : Hid (res = false) := by show _ = _; rw [HD.out]; simp [h2]
      clear h2
      go_enter Tryz.func29, Tryz.ntmps29
      go_wp2_with fail
      go_ret
      exact ⟨by rw [hr.out]; rfl, HB.out⟩
  · have z3 : (s == p1) = false := beq_eq_false_iff_ne.2 h1
    have hr : Hid (res = false) := by show _ = _; rw [HD.out]; simp [h1]
    clear h1
    go_enter Tryz.func29, Tryz.ntmps29
    go_wp2_with fail
    go_ret
    exact ⟨by rw [hr.out]; rfl, HB.out⟩
theorem stepsC_any (k s : Int) (g i t : Nat) (p : Pe) (w : World) (x : Nat) (hs : s ≠ 0) (hi : i ≠ 0) (hx : w.heap[x]? = some (.cells #[.int .i64 k, .int .u64 (g : Int), .int .i64 s, .int .u64 (i : Int), .int .u64 (t : Int)] 32 (0, 0))) :
    Calls Tryz.prog 28 #[.agg #[.int .u64 (p.1.toNat : Int), .int .i64 p.2.1, .bool p.2.2], .pointer (some ⟨x, 0, none⟩)] w fun e w' => e = .returned (.bool (namF s i p)) ∧ Below w.heap.size w w' := by
  have hb0 := ob_al w (.cells #[.int .u64 (p.1.toNat : Int), .int .i64 p.2.1, .bool p.2.2] 44)
  have hk0 := heap_new w (.cells #[.int .u64 (p.1.toNat : Int), .int .i64 p.2.1, .bool p.2.2] 44)
  obtain ⟨y0, y1, y2, y3, y4, _⟩ := cells5 (keep_blk hx hb0)
  obtain ⟨m0, m1, m2, _⟩ := cells3 hk0
  have hn := fun W => names_any k s g i t p W hs hi
  generalize namF s i p = res at *
  clear hk0 hx
  go_enter Tryz.func28, Tryz.ntmps28
  go_upto_region 1 with fail
  generalize World.alloc w _ = w1 at *
  go_wp2_with fail
  refine (hn _).mono ?_
  rintro e w2 ⟨rfl, hb2⟩
  go_wp2_with fail
  go_ret
  exact ⟨rfl, hb0.trans (hb2.mono hb0.size)⟩
set_option maxHeartbeats 1000000 in
theorem ixSt_any (k s : Int) (g i t : Nat) {v : Value} {ps : List Pe} {x : Nat} {w : World} (hs : s ≠ 0) (hi : i ≠ 0) (hr : RdPe w v ps) (hx : w.heap[x]? = some (.cells #[.int .i64 k, .int .u64 (g : Int), .int .i64 s, .int .u64 (i : Int), .int .u64 (t : Int)] 32 (0, 0))) (hany : ps.any (namF s i) = true) :
    Calls Tryz.prog 27 #[v, .func (.func 28) #[] #[.pointer (some ⟨x, 0, none⟩)]] w fun e w' => ∃ r : Nat, e = .returned (.int .i64 (r : Int)) ∧ r < ps.length ∧ Below w.heap.size w w' := by
  have HR : Hid (RdPe w v ps) := hr
  have HX : Hid _ := hx
  obtain ⟨ao, c, rfl, h1, h2⟩ := hr.shape
  have HL : Hid ((ps.drop 0).any (namF s i) = true) := hany
  clear hany hx hr
  generalize hn : ps.length = n at *
  have HN : Hid (ps.length = n) := hn
  clear hn
  go_enter Tryz.func27, Tryz.ntmps27
  go_wp2_with fail
  go_loopw [5, 8] (fun _ ii wr => ∃ j : Nat, j ≤ n ∧ ii = .int .i64 j ∧ Hid ((ps.drop j).any (namF s i) = true) ∧ Below w.heap.size w wr) (fun _ ii _ => n - (intOf ii).toNat)
  case atStart => exact ⟨0, Nat.zero_le _, rfl, HL, Below.refl _ _⟩
  case round =>
    obtain ⟨j, hj, rfl, HY, hb⟩ := hrel
    by_cases hlt : j < n
    · have hlt' : j < ps.length := by rw [HN.out]; exact hlt
      have HT : Hid (ps.drop j = ps[j] :: ps.drop (j + 1)) := List.drop_eq_getElem_cons hlt'
      obtain ⟨ao', c', e, _, _, _, h4⟩ := HR.out.below hb (Nat.le_refl _)
      simp only [Value.slice.injEq] at e
      obtain ⟨rfl, -, rfl⟩ := e
      obtain ⟨a, rfl, hc⟩ := h4 j _ (List.getElem?_eq_getElem hlt')
      clear h4
      obtain ⟨c0, c1, c2⟩ := hc
      have hki : (j : Int) < (n : Int) := by omega
      have hcl := stepsC_any k s g i t ps[j] wr x hs hi (keep_blk HX.out hb)
      generalize hq : namF s i ps[j] = q at *
      have HQ : Hid (namF s i ps[j] = q) := hq
      clear hq
      generalize ps[j] = pe at *
      obtain ⟨p0, p1, p2⟩ := pe
      simp only [] at c0 c1 c2 hcl
      cases q with
      | true =>
        go_wp2_with fail
        refine hcl.mono ?_
        rintro e w1 ⟨rfl, hb1⟩
        go_wp2_with fail
        go_ret
        exact ⟨j, rfl, hlt, hb.trans (hb1.mono hb.size)⟩
      | false =>
        have HS : Hid ((ps.drop (j + 1)).any (namF s i) = true) := by
          show _ = _
          have := HY.out
          rw [HT.out, List.any_cons, HQ.out, Bool.false_or] at this
          exact this
        go_wp2_with fail
        refine hcl.mono ?_
        rintro e w1 ⟨rfl, hb1⟩
        go_wp2_with fail
        exact ⟨⟨j + 1, by omega, by go_num, HS.out, hb.trans (hb1.mono hb.size)⟩, by simp [intOf]; omega⟩
    · exfalso
      have := HY.out
      rw [List.drop_of_length_le (by rw [HN.out]; omega)] at this
      cases this
end Go.Proofs.YtedfjacmaidhkaaGreat
