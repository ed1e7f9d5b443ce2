/- region.On; a slice of one peer; the law's Num. -/
import Derived.Test.YtnenfflkldpbgaaG3
import Derived.Test.YtnenfflkldpbgaaG2
import Derived.BigQuiet
import Derived.Test.YtnenfflkldpbgaaG1
import Derived.Lib.SlBytesConst
namespace Go.Proofs.Ytnenfflkldpbgaa
open Go.RowKit
set_option linter.unusedVariables false
set_option maxRecDepth 100000

theorem rdpe_one {w : World} {g : Nat} {p0 : UInt64} {p1 : Int} {p2 : Bool} {t : TypeId} (h : w.heap[g]? = some (.cells #[.int .u64 (p0.toNat : Int), .int .i64 p1, .bool p2] t (0, 0))) : RdPe w (.slice (some ⟨g, 0, none⟩) 1 1) [(p0, p1, p2)] := by
  obtain ⟨c0, c1, c2, _⟩ := cells3 h
  refine ⟨some ⟨g, 0, none⟩, 1, rfl, by simp, by unfold maxLen; omega, (fun q => by cases q), fun i p hi => ?_⟩
  match i, hi with
  | 0, hi =>
    obtain rfl := Option.some.inj hi
    exact ⟨_, rfl, c0, c1, c2⟩
theorem num_anyR (x : Int) (w : World) : Calls Try.prog 18 #[.int .i64 x] w fun e w' => e = .returned (.int .i64 x) ∧ Below w.heap.size w w' := (lnum_any x w).mono (by rintro e w' ⟨rfl, rfl⟩; exact ⟨rfl, Below.refl _ _⟩)
set_option maxHeartbeats 2000000 in
theorem onR_any {i c r : Int} {sv ev pv : Value} {s e : List UInt8} {ps : List Pe} {st : Int} {w : World} (hs : Rd w sv s) (he : Rd w ev e) (hp : RdPe w pv ps) :
    Calls Try.prog 16 #[.agg #[.int .u64 i, sv, ev, .int .u64 c, .int .u64 r, pv], .int .i64 st] w fun x w' => x = .returned (.tuple #[peV ((onF ps st).getD noPe), .bool (onF ps st).isSome]) ∧ Below w.heap.size w w' := by
  obtain ⟨sa, sc, rfl⟩ := hs.shp
  obtain ⟨ea, ec, rfl⟩ := he.shp
  have HR : Hid (RdPe w pv ps) := hp
  obtain ⟨pa, pk, rfl, _⟩ := hp.shape
  clear hs he hp
  have hB0 : Below w.heap.size w ((w.alloc (.cells #[.int .u64 i, .slice sa s.length sc, .slice ea e.length ec, .int .u64 c, .int .u64 r, .slice pa ps.length pk] 28)).alloc (.cells #[.int .u64 0, .int .i64 0, .bool false] 31)) := (g_al w _).alloc (by simp) _
  have hk0 : ((w.alloc (.cells #[.int .u64 i, .slice sa s.length sc, .slice ea e.length ec, .int .u64 c, .int .u64 r, .slice pa ps.length pk] 28)).alloc (.cells #[.int .u64 0, .int .i64 0, .bool false] 31)).heap[w.heap.size]? = some (.cells #[.int .u64 i, .slice sa s.length sc, .slice ea e.length ec, .int .u64 c, .int .u64 r, .slice pa ps.length pk] 28 (0, 0)) := (Below.heap_alloc _ _ _ (by simp)).trans (heap_alloc_new w _)
  have hr0 : ((w.alloc (.cells #[.int .u64 i, .slice sa s.length sc, .slice ea e.length ec, .int .u64 c, .int .u64 r, .slice pa ps.length pk] 28)).alloc (.cells #[.int .u64 0, .int .i64 0, .bool false] 31)).heap[w.heap.size + 1]? = some (.cells #[.int .u64 0, .int .i64 0, .bool false] 31 (0, 0)) := by
    have := heap_alloc_new (w.alloc (.cells #[.int .u64 i, .slice sa s.length sc, .slice ea e.length ec, .int .u64 c, .int .u64 r, .slice pa ps.length pk] 28)) (.cells #[.int .u64 0, .int .i64 0, .bool false] 31)
    rw [World.size_alloc] at this
    exact this
  have hon : ∀ W, RdPe W (.slice pa ps.length pk) ps → Calls Try.prog 45 #[.slice pa ps.length pk, .int .i64 st] W fun x w' => x = .returned (.tuple #[peV ((onF ps st).getD noPe), .bool (onF ps st).isSome]) ∧ Below W.heap.size W w' := fun W h => on_any h
  generalize (onF ps st).getD noPe = pp at *
  generalize (onF ps st).isSome = ob at *
  obtain ⟨p0, p1, p2⟩ := pp
  go_enter Try.func16, Try.ntmps16
  go_wp2_with fail
  generalize ((w.alloc (.cells #[.int .u64 i, .slice sa s.length sc, .slice ea e.length ec, .int .u64 c, .int .u64 r, .slice pa ps.length pk] 28)).alloc (.cells #[.int .u64 0, .int .i64 0, .bool false] 31)) = W at *
  refine (hon _ (HR.out.below hB0 (Nat.le_refl _))).mono ?_
  rintro x w1 ⟨rfl, hb1⟩
  simp only [peV]
  have hr1 := (hb1.block _ (Array.getElem?_eq_some_iff.1 hr0).1).trans hr0
  have hB1 : Below w.heap.size w w1 := hB0.trans (hb1.mono hB0.size)
  obtain ⟨r0, r1, r2, rz⟩ := cells3 hr1
  have rz0 := rz 0
  have rz1 := rz 1
  have rz2 := rz 2
  clear rz hk0 hr0
  have hch := set3_chg w1 (w.heap.size + 1) (.int .u64 (p0.toNat : Int)) (.int .i64 p1) (.bool p2)
  have HZ : Hid _ := And.intro (cells3 (set3_block hr1 (.int .u64 (p0.toNat : Int)) (.int .i64 p1) (.bool p2))) (hB1.trans (hch.below (fun b q => by omega) hB1.size))
  clear hch hr1
  go_wp2_with fail
  obtain ⟨⟨k0, k1, k2, _⟩, hBz⟩ := HZ.out
  generalize (((w1.setCell ⟨w.heap.size + 1, 0, none⟩ (.int .u64 (p0.toNat : Int))).setCell ⟨w.heap.size + 1, 1, none⟩ (.int .i64 p1)).setCell ⟨w.heap.size + 1, 2, none⟩ (.bool p2)) = wz at *
  refine bodyPost_ret (v := .tuple #[.agg #[.int .u64 (p0.toNat : Int), .int .i64 p1, .bool p2], .bool ob]) (by simp [results, Try.results16, go_sem, k0, k1, k2]; try rfl) rfl ?_
  exact ⟨rfl, hBz⟩
end Go.Proofs.Ytnenfflkldpbgaa

/- SamePeers: are two lists of peers the same? -/
namespace Go.Proofs.Ytnenfflkldpbgaa
open Go.RowKit
set_option linter.unusedVariables false
set_option maxRecDepth 100000

set_option maxHeartbeats 4000000 in
theorem samePeers_any {va vb : Value} {la lb : List Pe} {w : World} (ha : RdPe w va la) (hb : RdPe w vb lb) :
    Calls Try.prog 29 #[va, vb] w fun e w' => e = .returned (.bool (decide (la = lb))) ∧ ∃ n, w' = w.drewN n := by
  obtain ⟨ao, ca, rfl, a1, a2, a3, a4⟩ := ha
  obtain ⟨bo, cb, rfl, b1, b2, b3, b4⟩ := hb
  unfold maxLen at a2 b2
  by_cases hn : la.length = lb.length
  · have hres : decide (la = lb) = decide (la.drop 0 = lb.drop 0) := rfl
    generalize decide (la = lb) = res at *
    have HR : Hid (res = decide (la.drop 0 = lb.drop 0)) := hres
    have HN : Hid _ := hn
    clear hres
    rw [← hn]
    clear hn
    go_enter Try.func29, Try.ntmps29
    go_wp2_with fail
    go_loopw [5] (fun i wr => ∃ k : Nat, k ≤ la.length ∧ i = .int .i64 k ∧ Hid (res = decide (la.drop k = lb.drop k)) ∧ ∃ m, wr = w.drewN m) (fun i _ => la.length - (intOf i).toNat)
    case atStart => exact ⟨0, Nat.zero_le _, rfl, HR, 0, rfl⟩
    case round =>
      obtain ⟨k, hk, rfl, HX, m, rfl⟩ := hrel
      by_cases hlt : k < la.length
      · obtain ⟨p, hp⟩ : ∃ p, la[k]? = some p := ⟨_, List.getElem?_eq_getElem hlt⟩
        obtain ⟨q, hq⟩ : ∃ q, lb[k]? = some q := ⟨_, List.getElem?_eq_getElem (by have := HN.out; omega)⟩
        obtain ⟨a, rfl, hpa⟩ := a4 k p hp
        obtain ⟨b, rfl, hqb⟩ := b4 k q hq
        have c0 : (w.drewN m).cell? (a.add (k * 3)) = _ := hpa.c0
        have c1 : (w.drewN m).cell? _ = _ := hpa.c1
        have c2 : (w.drewN m).cell? _ = _ := hpa.c2
        have d0 : (w.drewN m).cell? (b.add (k * 3)) = _ := hqb.c0
        have d1 : (w.drewN m).cell? _ = _ := hqb.c1
        have d2 : (w.drewN m).cell? _ = _ := hqb.c2
        have HD : Hid (decide (la.drop k = lb.drop k) = (decide (p = q) && decide (la.drop (k + 1) = lb.drop (k + 1)))) := by
          show _ = _
          obtain ⟨h1, rfl⟩ := List.getElem?_eq_some_iff.1 hp
          obtain ⟨h2, rfl⟩ := List.getElem?_eq_some_iff.1 hq
          rw [List.drop_eq_getElem_cons h1, List.drop_eq_getElem_cons h2]
          by_cases e1 : la[k] = lb[k]
          · by_cases e2 : la.drop (k + 1) = lb.drop (k + 1)
            · rw [decide_eq_true (by rw [e1, e2]), decide_eq_true e1, decide_eq_true e2]; rfl
            · rw [decide_eq_false (fun q => e2 (List.cons.inj q).2), decide_eq_true e1, decide_eq_false e2]; rfl
          · rw [decide_eq_false (fun q => e1 (List.cons.inj q).1), decide_eq_false e1]; rfl
        clear hpa hqb a4 b4 hp hq
        have HW : Hid (∃ m', w.drewN m = w.drewN m') := ⟨m, rfl⟩
        generalize w.drewN m = W at *
        obtain ⟨p0, p1, p2⟩ := p
        obtain ⟨q0, q1, q2⟩ := q
        simp only [] at c0 c1 c2 d0 d1 d2
        have hkl : (k : Int) < (la.length : Int) := by omega
        have fin : ∀ nq, ∃ n, W.drewN nq = w.drewN n := fun nq => by
          obtain ⟨m', e⟩ := HW.out
          exact ⟨m' + nq, by rw [e]; simp [World.drewN, Nat.add_assoc]⟩
        by_cases h0 : p0 = q0
        · have hn0 : p0.toNat = q0.toNat := by rw [h0]
          have g0 : ((p0.toNat : Int) != (q0.toNat : Int)) = false := by rw [h0]; simp
          by_cases h1 : p1 = q1
          · have g1 : (p1 != q1) = false := by rw [h1]; simp
            by_cases h2 : p2 = q2
            · have g2 : (p2 != q2) = false := by rw [h2]; simp
              have HY : Hid (res = decide (la.drop (k + 1) = lb.drop (k + 1))) := by show _ = _; rw [HX.out, HD.out, decide_eq_true (by rw [h0, h1, h2]), Bool.true_and]
              subst h0
              subst h1
              subst h2
              go_wp2_with fail
              go_quiet (fail)
              go_wp2_with fail
              exact ⟨⟨k + 1, by omega, by go_num, HY, fin _⟩, by simp [intOf]; omega⟩
            · have HY : Hid (res = false) := by show _ = _; rw [HX.out, HD.out, decide_eq_false (fun q => h2 (Prod.mk.inj (Prod.mk.inj q).2).2), Bool.false_and]
              subst h0
              subst h1
              have hbb : (p2 = true ∧ q2 = false) ∨ (p2 = false ∧ q2 = true) := by cases p2 <;> cases q2 <;> simp_all
              clear h2 HD
              rcases hbb with ⟨rfl, rfl⟩ | ⟨rfl, rfl⟩
              · go_wp2_with fail
                go_quiet (fail)
                go_wp2_with fail
                go_ret
                exact ⟨by rw [HY.out]; rfl, fin _⟩
              · go_wp2_with fail
                go_quiet (fail)
                go_wp2_with fail
                go_ret
                exact ⟨by rw [HY.out]; rfl, fin _⟩
          · have g1 : (p1 != q1) = true := by simp [h1]
            have HY : Hid (res = false) := by show _ = _; rw [HX.out, HD.out, decide_eq_false (fun q => h1 (Prod.mk.inj (Prod.mk.inj q).2).1), Bool.false_and]
            subst h0
            go_wp2_with fail
            go_quiet (fail)
            go_wp2_with fail
            go_ret
            exact ⟨by rw [HY.out]; rfl, fin _⟩
        · have hn0 : ¬ (p0.toNat : Int) = (q0.toNat : Int) := fun q => h0 (UInt64.toNat_inj.1 (by omega))
          have g0 : ((p0.toNat : Int) != (q0.toNat : Int)) = true := by simp; omega
          have HY : Hid (res = false) := by show _ = _; rw [HX.out, HD.out, decide_eq_false (fun q => h0 (Prod.mk.inj q).1), Bool.false_and]
          go_wp2_with fail
          go_quiet (fail)
          go_wp2_with fail
          go_ret
          exact ⟨by rw [HY.out]; rfl, fin _⟩
      · obtain rfl : k = la.length := by omega
        have HT : Hid (res = true) := by
          show _ = _
          rw [HX.out, List.drop_length, List.drop_of_length_le (by have := HN.out; omega)]; rfl
        go_wp2_with fail
        go_ret
        exact ⟨by rw [HT.out]; rfl, _, rfl⟩
  · have g1 : ((la.length : Int) != (lb.length : Int)) = true := by simp; omega
    have g2 : ¬ (la.length : Int) = (lb.length : Int) := by omega
    have HR : Hid (decide (la = lb) = false) := decide_eq_false (fun q => hn (by rw [q]))
    go_enter Try.func29, Try.ntmps29
    go_wp2_with fail
    go_ret
    exact ⟨by rw [HR.out]; rfl, 0, rfl⟩
end Go.Proofs.Ytnenfflkldpbgaa

/- A configuration in memory. -/
namespace Go.Proofs.Ytnenfflkldpbgaa
open Go.RowKit
set_option linter.unusedVariables false
set_option maxRecDepth 100000

/-- A configuration: voters, those of before, learners. -/
abbrev Cn := List UInt64 × List UInt64 × List UInt64
/-- Three values that read as a configuration. -/
def Rc (w : World) (x y z : Value) (c : Cn) : Prop := Ru w x c.1 ∧ Ru w y c.2.1 ∧ Ru w z c.2.2
theorem Rc.below {B : Nat} {w w' : World} {x y z : Value} {c : Cn} (h : Rc w x y z c) (hb : Below B w w') (hB : w.heap.size ≤ B) : Rc w' x y z c := ⟨h.1.below hb hB, h.2.1.below hb hB, h.2.2.below hb hB⟩
theorem Rc.nil (w : World) : Rc w (.slice none 0 0) (.slice none 0 0) (.slice none 0 0) ([], [], []) := ⟨Ru.nil _, Ru.nil _, Ru.nil _⟩

/-- Three cells of a new block. -/
theorem box3 {w : World} {x y z : Value} {t : TypeId} {b : Nat} {W : World} (hb : Below (b + 1) (w.alloc (.cells #[x, y, z] t)) W) (e : b = w.heap.size) : W.cell? ⟨b, 0, none⟩ = some x ∧ W.cell? ⟨b, 1, none⟩ = some y ∧ W.cell? ⟨b, 2, none⟩ = some z := by
  subst e
  have hc : ∀ j u, #[x, y, z][j]? = some u → W.cell? ⟨w.heap.size, j, none⟩ = some u := fun j u e => by
    rw [hb.cell (by simp), World.cell?_alloc_at _ _ _ _ rfl]; exact e
  exact ⟨hc 0 x rfl, hc 1 y rfl, hc 2 z rfl⟩
theorem u_al (w : World) (o : Obj) : Below w.heap.size w (w.alloc o) := (Below.refl _ _).alloc (Nat.le_refl _) o

theorem u_drew (w : World) : Below w.heap.size w w.drew := Below.dN w 1
end Go.Proofs.Ytnenfflkldpbgaa

/- Plain mathematics of a configuration's bytes. No program is named here. -/
namespace Go.Proofs.Ytnenfflkldpbgaa.M
set_option maxRecDepth 100000

/-- The bytes of a list of numbers. -/
def vis (l : List UInt64) : List (List UInt8) := l.map fun n => vi n.toNat
def nums (l : List UInt64) : List UInt8 := row (vis l)
/-- The bytes of a configuration. -/
def enc (c : List UInt64 × List UInt64 × List UInt64) : List UInt8 := row [nums c.1, nums c.2.1, nums c.2.2]
/-- Fields read as numbers. -/
def nF : List (List UInt8) → Option (List UInt64)
  | [] => some []
  | f :: r => if (tv f).2.2 = 0 ∧ (tv f).2.1 = [] then (nF r).map (UInt64.ofNat (tv f).1 :: ·) else none
/-- Bytes read as numbers. -/
def dn (b : List UInt8) : Option (List UInt64) := if (tr b).2 = 0 then nF (tr b).1 else none
def d3 : List (List UInt8) → Option (List UInt64 × List UInt64 × List UInt64)
  | [f, g, h] => match dn f, dn g, dn h with
    | some x, some y, some z => some (x, y, z)
    | _, _, _ => none
  | _ => none
/-- Bytes read as a configuration. -/
def dc (b : List UInt8) : Option (List UInt64 × List UInt64 × List UInt64) := if (tr b).2 = 0 then d3 (tr b).1 else none

theorem rowB_len (ls : List (List UInt8)) (m : Nat) (h : ∀ f ∈ ls, f.length ≤ m) : (rowB ls).length ≤ ls.length * (m + 10) := by
  induction ls with
  | nil => simp [rowB]
  | cons f r ih =>
    have h1 := h f (List.mem_cons_self ..)
    have h2 := ih (fun g hg => h g (List.mem_cons_of_mem _ hg))
    have h3 := viF_length 9 f.length
    have h4 : (vi f.length).length ≤ 10 := h3
    simp only [rowB, List.length_append, List.length_cons, Nat.succ_mul]
    omega
theorem row_len (ls : List (List UInt8)) (m : Nat) (h : ∀ f ∈ ls, f.length ≤ m) : (row ls).length ≤ ls.length * (m + 10) + 10 := by
  have h1 := rowB_len ls m h
  have h4 : (vi ls.length).length ≤ 10 := viF_length 9 _
  simp only [row, List.length_append]
  omega
theorem vis_mem (l : List UInt64) : ∀ f ∈ vis l, f.length ≤ 10 := by
  intro f hf
  obtain ⟨n, _, rfl⟩ := List.mem_map.1 hf
  exact viF_length 9 _
theorem nums_len (l : List UInt64) : (nums l).length ≤ 20 * l.length + 10 := by
  have := row_len (vis l) 10 (vis_mem l)
  unfold nums
  simp only [vis, List.length_map] at this ⊢
  omega
theorem vis_take (l : List UInt64) (k : Nat) (h : k < l.length) : vis (l.take (k + 1)) = vis (l.take k) ++ [vi l[k].toNat] := by
  unfold vis
  rw [List.take_succ_eq_append_getElem h, List.map_append]
  rfl

theorem nF_back (l : List UInt64) : nF (vis l) = some l := by
  induction l with
  | nil => rfl
  | cons n r ih =>
    have h := tv_vi n.toNat [] n.toNat_lt
    rw [List.append_nil] at h
    rw [vis, List.map_cons, nF, h]
    simp only [and_self, if_true]
    have : nF (List.map (fun n => vi n.toNat) r) = some r := ih
    rw [this]
    simp
theorem dn_back (l : List UInt64) (h : l.length < 1099511627776) : dn (nums l) = some l := by
  have e : tr (nums l) = (vis l, 0) := tr_row _ (by simp [vis]; omega) (fun f hf => by have := vis_mem l f hf; omega)
  unfold dn
  rw [e]
  simpa using nF_back l
theorem dc_back (c : List UInt64 × List UInt64 × List UInt64) (h1 : c.1.length < 1099511627776) (h2 : c.2.1.length < 1099511627776) (h3 : c.2.2.length < 1099511627776) : dc (enc c) = some c := by
  have e : tr (enc c) = ([nums c.1, nums c.2.1, nums c.2.2], 0) := tr_row _ (by simp) (fun f hf => by
    have n1 := nums_len c.1
    have n2 := nums_len c.2.1
    have n3 := nums_len c.2.2
    simp only [List.mem_cons, List.not_mem_nil, or_false] at hf
    rcases hf with rfl | rfl | rfl <;> omega)
  unfold dc
  rw [e]
  simp only [if_true, d3]
  rw [dn_back _ h1, dn_back _ h2, dn_back _ h3]
theorem enc_len (c : List UInt64 × List UInt64 × List UInt64) : (enc c).length ≤ 20 * (c.1.length + c.2.1.length + c.2.2.length) + 70 := by
  have n1 := nums_len c.1
  have n2 := nums_len c.2.1
  have n3 := nums_len c.2.2
  have v0 : (vi 3).length ≤ 10 := viF_length 9 _
  have v1 : (vi (nums c.1).length).length ≤ 10 := viF_length 9 _
  have v2 : (vi (nums c.2.1).length).length ≤ 10 := viF_length 9 _
  have v3 : (vi (nums c.2.2).length).length ≤ 10 := viF_length 9 _
  simp only [enc, row, rowB, List.length_append, List.length_cons, List.length_nil, Nat.zero_add, Nat.reduceAdd]
  omega
end Go.Proofs.Ytnenfflkldpbgaa.M

/- What is read of a configuration's bytes with more behind, or a byte less. No program is named here. -/
namespace Go.Proofs.Ytnenfflkldpbgaa.M
set_option maxRecDepth 100000

theorem tr_more (ls : List (List UInt8)) (r : List UInt8) (hr : 0 < r.length) (hn : ls.length < 18446744073709551616) (h : ∀ f ∈ ls, f.length < 18446744073709551616) : tr (row ls ++ r) = ([], 12) := by
  have e : tv (row ls ++ r) = (ls.length, rowB ls ++ r, 0) := by rw [row, List.append_assoc]; exact tv_vi _ _ hn
  have e2 := rf_back ls r h
  have hp := rowB_pos ls
  unfold tr
  rw [e]
  simp only [ne_eq, not_true_eq_false, if_false]
  rw [if_neg (by simp; omega), e2]
  simp only [not_true_eq_false, if_false]
  rw [if_pos (by omega)]
abbrev C3 := List UInt64 × List UInt64 × List UInt64
theorem enc_tr (c : C3) (h : c.1.length + c.2.1.length + c.2.2.length < 1099511627776) : tr (enc c) = ([nums c.1, nums c.2.1, nums c.2.2], 0) := tr_row _ (by simp) (fun f hf => by
  have n1 := nums_len c.1
  have n2 := nums_len c.2.1
  have n3 := nums_len c.2.2
  simp only [List.mem_cons, List.not_mem_nil, or_false] at hf
  rcases hf with rfl | rfl | rfl <;> omega)
theorem dc_more (c : C3) (x : UInt8) (h : c.1.length + c.2.1.length + c.2.2.length < 1099511627776) : dc (enc c ++ [x]) = none := by
  have e : tr (enc c ++ [x]) = ([], 12) := tr_more _ _ (by simp) (by simp) (fun f hf => by
    have n1 := nums_len c.1
    have n2 := nums_len c.2.1
    have n3 := nums_len c.2.2
    simp only [List.mem_cons, List.not_mem_nil, or_false] at hf
    rcases hf with rfl | rfl | rfl <;> omega)
  unfold dc
  rw [e, if_neg (by decide)]
theorem mem_rowB (ls : List (List UInt8)) (f : List UInt8) (hf : f ∈ ls) : f.length ≤ (rowB ls).length := by
  induction ls with
  | nil => cases hf
  | cons g r ih =>
    simp only [rowB, List.length_append]
    rcases List.mem_cons.1 hf with rfl | hf
    · omega
    · have := ih hf; omega
theorem dc_less (c : C3) (h : c.1.length + c.2.1.length + c.2.2.length < 1099511627776) : dc ((enc c).take ((enc c).length - 1)) = none := by
  have hl := enc_len c
  have hp : 1 ≤ (enc c).length := by
    have := vi_pos 3
    simp only [enc, row, List.length_append, List.length_cons, List.length_nil]
    have e : (0 + 1 + 1 + 1 : Nat) = 3 := rfl
    rw [e]; omega
  unfold dc
  by_cases h0 : (tr ((enc c).take ((enc c).length - 1))).2 = 0
  · exfalso
    have hf := tr_form _ h0
    generalize (tr ((enc c).take ((enc c).length - 1))).1 = fs at hf
    have hlen : (row fs).length < 1099511627776000 := by rw [hf, List.length_take]; omega
    have hrow : (vi fs.length).length + (rowB fs).length = (row fs).length := by simp [row]
    have hfl := rowB_pos fs
    have hsp : enc c = row fs ++ (enc c).drop ((enc c).length - 1) := by rw [hf, List.take_append_drop]
    have hm := tr_more fs ((enc c).drop ((enc c).length - 1)) (by rw [List.length_drop]; omega) (by omega) (fun f hf => by have := mem_rowB fs f hf; omega)
    rw [← hsp, enc_tr c h] at hm
    cases hm
  · rw [if_neg h0]
theorem enc_inj (a b : C3) (ha : a.1.length + a.2.1.length + a.2.2.length < 1099511627776) (hb : b.1.length + b.2.1.length + b.2.2.length < 1099511627776) : decide (enc a = enc b) = decide (a = b) := by
  by_cases h : a = b
  · subst h; simp
  · have : enc a ≠ enc b := fun e => by
      have h1 := dc_back a (by omega) (by omega) (by omega)
      rw [e, dc_back b (by omega) (by omega) (by omega)] at h1
      exact h (Option.some.inj h1).symm
    simp [h, this]
end Go.Proofs.Ytnenfflkldpbgaa.M

/- What varintSize, readVarint and readPart answer of any bytes. -/
namespace Go.Proofs.Ytnenfflkldpbgaa
open Go.RowKit
set_option linter.unusedVariables false
set_option maxRecDepth 100000

/-- How many bytes a number takes, and the error. -/
def vsz (l : List UInt8) : Nat × Nat :=
  if M.cont 10 l = 10 then (0, 12) else if l.length ≤ M.cont 10 l then (0, 10) else (M.cont 10 l + 1, 0)

set_option maxHeartbeats 400000 in
theorem vsize_any {v : Value} {l : List UInt8} {w : World} (hr : Rd w v l) :
    Calls Try.prog 86 #[v] w fun e w' => e = .returned (.tuple #[.int .i64 (vsz l).1, .int .i64 (vsz l).2]) ∧ ∃ k, w' = w.drewN k := by
  obtain ⟨ao, c, rfl, h1, h2, h3, h4⟩ := hr
  unfold maxLen at h2
  go_enter Try.func86, Try.ntmps86
  go_wp2
  all_goals
    go_loopw [4, 8] (fun _ i wr => ∃ k : Nat, k ≤ l.length ∧ k ≤ 10 ∧ i = .int .i64 k ∧ (∀ j, (h : j < l.length) → j < k → 128 ≤ l[j].toNat) ∧ wr = w) (fun _ i _ => 10 - (intOf i).toNat)
    case atStart => exact ⟨0, Nat.zero_le _, Nat.zero_le _, rfl, fun j _ hj => by omega, rfl⟩
    case round =>
      obtain ⟨k, hk, hk10, rfl, hs, rfl⟩ := hrel
      by_cases hlt : k < l.length ∧ k < 10
      · obtain ⟨hlt, hlt10⟩ := hlt
        obtain ⟨a, rfl, hc⟩ := h4 k hlt
        have HS : Hid _ := hs
        clear hs h4
        by_cases hx : l[k].toNat < 128
        · go_wp2
          go_ret2
          have e : M.cont 10 l = k := M.cont_eq 10 k l hk10 hk (fun j hj => HS.out j (by omega) hj) (.inr (.inr ⟨hlt, hx⟩))
          have e2 : vsz l = (k + 1, 0) := by unfold vsz; rw [e, if_neg (by omega), if_neg (by omega)]
          rw [e2]
          exact ⟨by simp, 0, rfl⟩
        · go_wp2
          refine ⟨⟨k + 1, by omega, by omega, by go_num, fun j h hj => ?_, trivial⟩, by simp [intOf]; omega⟩
          by_cases hj' : j < k
          · exact HS.out j h hj'
          · obtain rfl : j = k := by omega
            omega
      · have HS : Hid _ := hs
        clear hs h4
        have e : M.cont 10 l = k := M.cont_eq 10 k l hk10 hk (fun j hj => HS.out j (by omega) hj) (by omega)
        have HE : Hid _ := e
        clear e
        have hlt1 : l.length ≤ k ∨ 10 ≤ k := by omega
        clear hlt
        go_wp2
        all_goals
          go_ret2
          refine ⟨?_, 0, rfl⟩
          have e2 := HE.out
          unfold vsz
          rw [e2]
          first | rw [if_neg (by omega), if_pos (by omega)] | rw [if_pos (by omega)]
          try rfl

set_option maxHeartbeats 400000 in
theorem part_any2 {v : Value} {l : List UInt8} {n : Nat} {w : World} (hr : Rd w v l) (hn : n < 18446744073709551616) :
    Calls Try.prog 87 #[v, .int .u64 n] w fun e w' => ∃ v1 v2, e = .returned (.tuple #[v1, v2, .int .i64 (M.part l n).2.2]) ∧ (∀ w0, Rd w0 v l → Rd w0 v1 (M.part l n).1 ∧ Rd w0 v2 (M.part l n).2.1) ∧ ∃ k, w' = w.drewN k := by
  obtain ⟨ao, c, rfl, h1, h2, h3, h4⟩ := hr
  unfold maxLen at h2
  by_cases hlt : l.length < n
  · go_enter Try.func87, Try.ntmps87
    go_wp2
    go_ret3
    have e : M.part l n = ([], [], 10) := by unfold M.part; rw [if_pos hlt]
    rw [e]
    exact ⟨_, _, rfl, fun _ _ => ⟨Rd.nil _, Rd.nil _⟩, 0, rfl⟩
  · have e : M.part l n = (l.take n, l.drop n, 0) := by unfold M.part; rw [if_neg hlt]
    rw [e]
    clear e
    by_cases hcn : c = n
    · subst hcn
      have hp := fun (w0 : World) (hr' : Rd w0 (.slice ao l.length c) l) => hr'.post c (by omega) ao ⟨fun _ => rfl, fun h => absurd rfl h⟩
      rw [Nat.sub_self, show l.length - c = 0 by omega] at hp
      go_enter Try.func87, Try.ntmps87
      go_wp2
      go_region
      all_goals go_wp2
      all_goals go_ret3
      all_goals exact ⟨_, _, rfl, fun w0 hr' => ⟨hr'.pre c (by omega), hp w0 hr'⟩, _, rfl⟩
    · go_enter Try.func87, Try.ntmps87
      go_wp2
      go_region
      all_goals go_wp2
      all_goals go_ret3
      all_goals exact ⟨_, _, rfl, fun w0 hr' => ⟨hr'.pre n (by omega), hr'.post n (by omega) _ ⟨fun h => absurd h hcn, fun _ => rfl⟩⟩, _, rfl⟩
theorem part_any {v : Value} {l : List UInt8} {n : Nat} {w : World} (hr : Rd w v l) (hn : n < 18446744073709551616) :
    Calls Try.prog 87 #[v, .int .u64 n] w fun e w' => ∃ v1 v2, e = .returned (.tuple #[v1, v2, .int .i64 (M.part l n).2.2]) ∧ Rd w v1 (M.part l n).1 ∧ Rd w v2 (M.part l n).2.1 ∧ ∃ k, w' = w.drewN k :=
  (part_any2 hr hn).mono fun e w' ⟨v1, v2, h1, h2, h3⟩ => ⟨v1, v2, h1, (h2 w hr).1, (h2 w hr).2, h3⟩

theorem vsz_cases (l : List UInt8) : (∃ e, (e = 12 ∨ e = 10) ∧ vsz l = (0, e) ∧ M.tv l = (0, [], e)) ∨ ∃ s, s < 10 ∧ s < l.length ∧ vsz l = (s + 1, 0) ∧
    M.tv l = if 0 < s ∧ (l.getD s 0).toNat = 0 ∨ s = 9 ∧ 1 < (l.getD s 0).toNat then (0, [], 12) else (M.val (l.take (s + 1)), l.drop (s + 1), 0) := by
  have hle := M.cont_le 10 l
  by_cases h1 : M.cont 10 l = 10
  · refine .inl ⟨12, .inl rfl, ?_, ?_⟩
    · unfold vsz; rw [if_pos h1]
    · unfold M.tv; simp only []; rw [if_pos h1]
  · by_cases h2 : l.length ≤ M.cont 10 l
    · refine .inl ⟨10, .inr rfl, ?_, ?_⟩
      · unfold vsz; rw [if_neg h1, if_pos h2]
      · unfold M.tv; simp only []; rw [if_neg h1, if_pos h2]
    · refine .inr ⟨M.cont 10 l, by omega, by omega, ?_, ?_⟩
      · unfold vsz; rw [if_neg h1, if_neg h2]
      · unfold M.tv; simp only []; rw [if_neg h1, if_neg h2]

theorem vstep (l : List UInt8) (s k : Nat) (hk : k ≤ s) (hs : s < 10) (hl : k < l.length) (h9 : k = 9 → l[k].toNat ≤ 1) :
    bits BinOp.or IntKind.u64 (M.val (l.take k) : Int) (IntKind.u64.wrap (IntKind.u64.wrap (bits BinOp.andNot IntKind.u8 (l[k].toNat : Int) 128) * 2 ^ (7 * k))) = (M.val (l.take (k + 1)) : Int) := by
  have hx := l[k].toNat_lt
  have hpow : ∀ j, 128 ^ j = 2 ^ (7 * j) := fun j => by rw [Nat.pow_mul]
  rw [show (128 : Int) = ((128 : Nat) : Int) from rfl, u8_andNot_nat _ _ hx (by decide), show 255 - 128 = 127 from rfl, nat_mask7]
  rw [IntWalk.u64_in ((l[k].toNat % 128 : Nat) : Int) (by omega)]
  have hle : l[k].toNat % 128 * 2 ^ (7 * k) ≤ 9223372036854775808 + 9223372036854775807 := by
    by_cases hk9 : k = 9
    · have := h9 hk9
      subst hk9
      have h63 : (2 : Nat) ^ (7 * 9) = 9223372036854775808 := by decide
      rw [h63]; omega
    · have h56 : (2 : Nat) ^ (7 * k) ≤ 72057594037927936 := by
        have := Nat.pow_le_pow_right (n := 2) (by decide) (show 7 * k ≤ 56 by omega)
        simpa using this
      have := Nat.mul_le_mul (show l[k].toNat % 128 ≤ 127 by omega) h56
      omega
  have e1 : (((l[k].toNat % 128 : Nat) : Int) * 2 ^ (7 * k)) = ((l[k].toNat % 128 * 2 ^ (7 * k) : Nat) : Int) := by
    rw [Int.natCast_mul, Int.natCast_pow]; rfl
  rw [e1, IntWalk.u64_in ((l[k].toNat % 128 * 2 ^ (7 * k) : Nat) : Int) (by omega)]
  have hv := M.val_lt (l.take k)
  rw [List.length_take, Nat.min_eq_left (by omega), hpow] at hv
  have h63 : (2 : Nat) ^ (7 * k) ≤ 9223372036854775808 := by
    have := Nat.pow_le_pow_right (n := 2) (by decide) (show 7 * k ≤ 63 by omega)
    simpa using this
  rw [u64_or_nat _ _ (by omega) (by omega), Nat.or_comm, nat_join (7 * k) _ _ (Nat.mul_mod_left _ _) hv, take_snoc l k hl, M.val_append, List.length_take, Nat.min_eq_left (by omega), hpow]
  simp only [M.val, Nat.mul_zero, Nat.add_zero]
  rw [Nat.mul_comm (2 ^ (7 * k)), Nat.add_comm]

set_option maxHeartbeats 800000 in
theorem rvar_bad {l : List UInt8} {s c : Nat} {a : Addr} {w : World} (hl : l.length ≤ 9223372036854775807) (hvs : Calls Try.prog 86 #[.slice (some a) l.length c] w fun e w' => e = .returned (.tuple #[.int .i64 ((s + 1 : Nat) : Int), .int .i64 0]) ∧ ∃ k, w' = w.drewN k)
    (hs10 : s < 10) (hsl : s < l.length) (hc : w.cell? (a.add s) = some (.int .u8 (l[s].toNat : Int))) (hbad : 0 < s ∧ l[s].toNat = 0 ∨ s = 9 ∧ 1 < l[s].toNat) :
    Calls Try.prog 69 #[.slice (some a) l.length c] w fun e w' => ∃ v2, e = .returned (.tuple #[.int .u64 0, v2, .int .i64 12]) ∧ (∀ w0 : World, Rd w0 (.slice (some a) l.length c) l → Rd w0 v2 []) ∧ ∃ k, w' = w.drewN k := by
  have hx := l[s].toNat_lt
  go_enter Try.func69, Try.ntmps69
  go_wp2_with (go_at_call 86; refine hvs.mono ?_; rintro e w' ⟨rfl, kk, rfl⟩)
  all_goals go_ret3
  all_goals exact ⟨_, rfl, fun _ _ => Rd.nil _, _, rfl⟩

set_option maxHeartbeats 1000000 in
theorem rvar_good {l : List UInt8} {s c : Nat} {a : Addr} {w : World} (hr : Rd w (.slice (some a) l.length c) l) (hlc : l.length ≤ c) (hcm : c ≤ 9223372036854775807) (hvs : Calls Try.prog 86 #[.slice (some a) l.length c] w fun e w' => e = .returned (.tuple #[.int .i64 ((s + 1 : Nat) : Int), .int .i64 0]) ∧ ∃ k, w' = w.drewN k)
    (hs10 : s < 10) (hsl : s < l.length) (h4 : ∀ i, (h : i < l.length) → w.cell? (a.add i) = some (.int .u8 (l[i].toNat : Int))) (hok : ¬ (0 < s ∧ l[s].toNat = 0 ∨ s = 9 ∧ 1 < l[s].toNat)) :
    Calls Try.prog 69 #[.slice (some a) l.length c] w fun e w' => ∃ v2, e = .returned (.tuple #[.int .u64 (M.val (l.take (s + 1))), v2, .int .i64 0]) ∧ (∀ w0, Rd w0 (.slice (some a) l.length c) l → Rd w0 v2 (l.drop (s + 1))) ∧ ∃ k, w' = w.drewN k := by
  have hx := l[s].toNat_lt
  have hc := h4 s hsl
  have hst : ∀ k, (h : k < l.length) → k ≤ s → bits BinOp.or IntKind.u64 (M.val (l.take k) : Int) (IntKind.u64.wrap (IntKind.u64.wrap (bits BinOp.andNot IntKind.u8 (l[k].toNat : Int) 128) * 2 ^ (7 * k))) = (M.val (l.take (k + 1)) : Int) :=
    fun k h hk => vstep l s k hk hs10 h (fun h9 => by
      have e : s = k := by omega
      subst e
      omega)
  have HST : Hid _ := hst
  clear hst
  have hp := fun (w0 : World) (hr0 : Rd w0 (.slice (some a) l.length c) l) => hr0.post (s + 1) (by omega) (if c = s + 1 then some a else some (a.add (s + 1))) ⟨fun h => by rw [if_pos h], fun h => by rw [if_neg h]; rfl⟩
  have HP : Hid _ := hp
  clear hp
  go_enter Try.func69, Try.ntmps69
  go_wp2_with (go_at_call 86; refine hvs.mono ?_; rintro e w' ⟨rfl, kk, rfl⟩)
  all_goals
    clear hvs
    go_loopw [8, 9, 10, 42] (fun m _ _ i wr => ∃ k : Nat, k ≤ s + 1 ∧ i = .int .i64 k ∧ m = .int .u64 (M.val (l.take k)) ∧ wr = w.drewN kk) (fun _ _ _ i _ => s + 1 - (intOf i).toNat)
    case atStart => exact ⟨0, Nat.zero_le _, rfl, rfl, rfl⟩
    case round =>
      obtain ⟨k, hk, rfl, rfl, rfl⟩ := hrel
      by_cases hlt : k < s + 1
      · have hck := h4 k (by omega)
        have hxk := (l[k]'(by omega)).toNat_lt
        go_wp2
        exact ⟨⟨k + 1, by omega, by go_num, congrArg _ (HST.out k (by omega) (by omega)), trivial⟩, by simp [intOf]; omega⟩
      · obtain rfl : k = s + 1 := by omega
        have hp := HP.out
        by_cases hcn : c = s + 1
        · rw [if_pos hcn] at hp
          have HP2 : Hid _ := hp
          clear hp
          go_wp2
          go_region
          all_goals go_wp2
          all_goals go_ret3
          all_goals exact ⟨_, rfl, fun w0 h0 => Rd.cong (HP2.out w0 h0) rfl (by omega) (by omega), kk + 1, rfl⟩
        · rw [if_neg hcn] at hp
          have HP2 : Hid _ := hp
          clear hp
          go_wp2
          go_region
          all_goals go_wp2
          all_goals go_ret3
          all_goals exact ⟨_, rfl, fun w0 h0 => Rd.cong (HP2.out w0 h0) (by simp [Addr.add]; try omega) (by omega) (by omega), kk + 1, rfl⟩

/-- What is answered is a piece of what came in: it reads so in whatever world that reads so. -/
theorem rvar_any2 {v : Value} {l : List UInt8} {w : World} (hr : Rd w v l) :
    Calls Try.prog 69 #[v] w fun e w' => ∃ v2, e = .returned (.tuple #[.int .u64 (M.tv l).1, v2, .int .i64 (M.tv l).2.2]) ∧ (∀ w0, Rd w0 v l → Rd w0 v2 (M.tv l).2.1) ∧ ∃ k, w' = w.drewN k := by
  have hvs := vsize_any hr
  rcases vsz_cases l with ⟨er, her, h1, h2⟩ | ⟨s, hs10, hsl, h1, h2⟩
  · rw [h1] at hvs
    rw [h2]
    clear h1 h2
    go_enter Try.func69, Try.ntmps69
    have hne : (((er : Nat) : Int) != 0) = true := by rcases her with rfl | rfl <;> rfl
    go_wp2_with (go_at_call 86; refine hvs.mono ?_; rintro e w' ⟨rfl, kk, rfl⟩)
    go_ret3
    exact ⟨_, rfl, fun _ _ => Rd.nil _, _, rfl⟩
  · rw [h1] at hvs
    rw [h2]
    clear h1 h2
    have eg : l.getD s 0 = l[s] := by simp [hsl]
    rw [eg]
    clear eg
    rcases hr.two with ⟨rfl, rfl⟩ | ⟨a, c, rfl, h1, h2, h4⟩
    · simp at hsl
    · unfold maxLen at h2
      by_cases hbad : 0 < s ∧ l[s].toNat = 0 ∨ s = 9 ∧ 1 < l[s].toNat
      · rw [if_pos hbad]
        exact rvar_bad (by omega) hvs hs10 hsl (h4 s hsl) hbad
      · rw [if_neg hbad]
        exact rvar_good hr h1 (by omega) hvs hs10 hsl h4 hbad
theorem rvar_any {v : Value} {l : List UInt8} {w : World} (hr : Rd w v l) :
    Calls Try.prog 69 #[v] w fun e w' => ∃ v2, e = .returned (.tuple #[.int .u64 (M.tv l).1, v2, .int .i64 (M.tv l).2.2]) ∧ Rd w v2 (M.tv l).2.1 ∧ ∃ k, w' = w.drewN k :=
  (rvar_any2 hr).mono fun e w' ⟨v2, h1, h2, h3⟩ => ⟨v2, h1, h2 w hr, h3⟩
end Go.Proofs.Ytnenfflkldpbgaa

/- How long what is read as a number is. -/
namespace Go.Proofs.Ytnenfflkldpbgaa
open Go.RowKit
set_option linter.unusedVariables false
set_option maxRecDepth 100000

theorem Ow.drewN {B : Nat} {w : World} {v : Value} {l : List UInt8} (h : Ow B w v l) (n : Nat) : Ow B (w.drewN n) v l := h.below (below_drewN (Below.refl _ _) n) (Nat.le_refl _)
theorem vi_len (n : Nat) : (M.vi n).length ≤ 10 := M.viF_length 9 n
theorem tv_lt (l : List UInt8) : (M.tv l).1 < 18446744073709551616 := by
  unfold M.tv
  simp only []
  have hle := M.cont_le 10 l
  split
  · decide
  · split
    · decide
    · split
      · decide
      · rename_i h1 h2 h3
        simp only []
        have hv := M.val_lt (l.take (M.cont 10 l))
        rw [List.length_take, Nat.min_eq_left (by omega)] at hv
        rw [take_snoc l _ (by omega), M.val_append, List.length_take, Nat.min_eq_left (by omega)]
        simp only [M.val, Nat.mul_zero, Nat.add_zero]
        have eg : l.getD (M.cont 10 l) 0 = l[M.cont 10 l]'(by omega) := by simp [show M.cont 10 l < l.length by omega]
        rw [eg] at h3
        have hx9 : M.cont 10 l = 9 → (l[M.cont 10 l]'(by omega)).toNat ≤ 1 := fun h => by omega
        clear h3 eg
        generalize (l[M.cont 10 l]'(by omega)).toNat = x at *
        by_cases h9 : M.cont 10 l = 9
        · have hx1 := hx9 h9
          have h63 : (128 : Nat) ^ M.cont 10 l = 9223372036854775808 := by rw [h9]
          rw [h63]
          rw [h63] at hv
          have : x % 128 ≤ 1 := by omega
          omega
        · have hp := Nat.pow_le_pow_right (n := 128) (by decide) (show M.cont 10 l ≤ 8 by omega)
          have h56 : (128 : Nat) ^ 8 = 72057594037927936 := by decide
          rw [h56] at hp
          have := Nat.mul_le_mul hp (show x % 128 ≤ 127 by omega)
          omega
theorem tv_len (l : List UInt8) : (M.tv l).2.1.length ≤ l.length := by
  unfold M.tv
  simp only []
  split
  · simp
  · split
    · simp
    · split
      · simp
      · simp
end Go.Proofs.Ytnenfflkldpbgaa

/- Lists of byte slices in memory. -/
namespace Go.Proofs.Ytnenfflkldpbgaa
open Go.RowKit
set_option linter.unusedVariables false
set_option maxRecDepth 100000

/-- The slice value v reads as these texts. -/
def Rds (w : World) (v : Value) (ls : List (List UInt8)) : Prop :=
  ∃ ao c, v = .slice ao ls.length c ∧ ls.length ≤ c ∧ c ≤ maxLen ∧ ∀ i, (h : i < ls.length) → ∃ a u, ao = some a ∧ w.cell? (a.add i) = some u ∧ Rd w u ls[i]

theorem Rds.below {B : Nat} {w w' : World} {v : Value} {ls : List (List UInt8)} (h : Rds w v ls) (hb : Below B w w') (hB : w.heap.size ≤ B) : Rds w' v ls := by
  obtain ⟨ao, c, h0, h1, h2, h4⟩ := h
  refine ⟨ao, c, h0, h1, h2, fun i hi => ?_⟩
  obtain ⟨a, u, e, hc, hr⟩ := h4 i hi
  have hlt := World.block_lt_of_cell? w _ hc
  exact ⟨a, u, e, by rw [hb.cell (by omega)]; exact hc, hr.below hb hB⟩
end Go.Proofs.Ytnenfflkldpbgaa

/- Lists of byte slices that are the call's own: the row and each of its texts in a block of its own. -/
namespace Go.Proofs.Ytnenfflkldpbgaa
open Go.RowKit
set_option linter.unusedVariables false
set_option maxRecDepth 100000

/-- An operation whose guard lets it by is carried out as one without a guard. -/
theorem wpList_unguard {P : Program} {w : World} {ops : Array Oper} {rest : List Oper} {o : Oper} {a : Act} {Q : Exit → Act → World → Prop} (hw : Region.wanted o (yielded ops a.tmps) = true) (h : wpList P ops Q ({ o with guard := none } :: rest) a w) : wpList P ops Q (o :: rest) a w := by
  unfold wpList at h ⊢
  rw [if_pos hw]
  rw [if_pos (by rfl)] at h
  exact h

/-- A slice of slices of the call's own, from block B on. -/
structure Ows (B : Nat) (w : World) (v : Value) (ls : List (List UInt8)) (us : List Value) : Prop where
  row : w.ownsRow B 23 1 v us.length us
  len : us.length = ls.length
  el : ∀ (i : Nat) (u : Value) (l : List UInt8), us[i]? = some u → ls[i]? = some l → Ow B w u l
  off : ∀ u ∈ us, ∀ b, u.ownBlock = some b → v.ownBlock ≠ some b
  sep : us.Pairwise Apart

theorem Ows.nil (B : Nat) (w : World) : Ows B w (.slice none 0 0) [] [] := ⟨World.ownsRow_nil _ _ _ _, rfl, by simp, by simp, .nil⟩

theorem ownsRow_bel {B C n : Nat} {e : TypeId} {w w' : World} {v : Value} {xs : List Value} (h : w.ownsRow B e 1 v n xs) (hb : Below C w w') (hC : w.heap.size ≤ C) : w'.ownsRow B e 1 v n xs := by
  obtain ⟨h1, h2⟩ := h
  refine ⟨h1, ?_⟩
  rcases h2 with h2 | ⟨g, cap, cur, hv, hg, hh, r⟩
  · exact .inl h2
  · refine .inr ⟨g, cap, cur, hv, hg, ?_, r⟩
    have hlt : g < w.heap.size := (Array.getElem?_eq_some_iff.1 hh).1
    rw [hb.block g (by omega)]; exact hh

theorem Ows.below {B C : Nat} {w w' : World} {v : Value} {ls : List (List UInt8)} {us : List Value} (h : Ows B w v ls us) (hb : Below C w w') (hC : w.heap.size ≤ C) : Ows B w' v ls us :=
  ⟨ownsRow_bel h.row hb hC, h.len, fun i u l e1 e2 => (h.el i u l e1 e2).below hb hC, h.off, h.sep⟩

theorem Ows.elem {B : Nat} {w : World} {v : Value} {ls : List (List UInt8)} {us : List Value} (h : Ows B w v ls us) (u : Value) (hu : u ∈ us) : ∃ l, Ow B w u l := by
  obtain ⟨i, hi, rfl⟩ := List.getElem_of_mem hu
  have hi' : i < ls.length := by have := h.len; omega
  exact ⟨ls[i], h.el i _ _ (by simp [hi]) (by simp [hi'])⟩

theorem cell_new1 (w : World) (v : Value) (t : TypeId) : (w.alloc (.cells #[v] t)).cell? ⟨w.heap.size, 0, none⟩ = some v := by
  rw [World.cell?_alloc_at _ _ _ _ rfl]; rfl
theorem Ow.shape {B : Nat} {w : World} {v : Value} {l : List UInt8} (h : Ow B w v l) : ∃ a c, v = .slice a l.length c := by
  obtain ⟨ao, c, e, _⟩ := h.rd
  exact ⟨_, _, e⟩

/-- One text more, in a new block. -/
theorem Ows.snoc {B C : Nat} {w w2 w3 : World} {v v' u : Value} {ls : List (List UInt8)} {us : List Value} {l : List UInt8} {o : Obj} (h : Ows B w v ls us) (hb : Below C w w2) (hC : w.heap.size ≤ C) (hu : Ow w.heap.size w2 u l) (hB : B ≤ w.heap.size)
    (hrow : w3.ownsRow B 23 1 v' (us.length + 1) (us ++ [u])) (hg : (w2.alloc o).grownBy w3 v.ownBlock) (hv : v'.ownBlock = v.ownBlock ∨ v'.ownBlock = some (w2.alloc o).heap.size) : Ows B w3 v' (ls ++ [l]) (us ++ [u]) := by
  have h2 := h.below hb hC
  have hlt : ∀ b, u.ownBlock = some b → w.heap.size ≤ b ∧ b < w2.heap.size := fun b e => World.ownsRow.lt hu b e
  have hvlt : ∀ b, v.ownBlock = some b → b < w.heap.size := fun b e => (World.ownsRow.lt h.row b e).2
  have huv : ∀ b, u.ownBlock = some b → v.ownBlock ≠ some b := fun b e q => by have := hlt b e; have := hvlt b q; omega
  have kp : ∀ (x : Value) (m : List UInt8) (D : Nat), Ow D w2 x m → (∀ b, x.ownBlock = some b → v.ownBlock ≠ some b) → Ow D w3 x m := by
    intro x m D hx hne
    refine World.ownsRow.kept (hx.alloc o) hg ?_
    by_cases e : x.ownBlock = none
    · exact .inl e
    · obtain ⟨b, hb⟩ := Option.ne_none_iff_exists'.1 e
      exact .inr (fun q => hne b hb (by rw [← q]; exact hb))
  refine ⟨by simpa using hrow, by simp [h.len], ?_, ?_, ?_⟩
  · intro i x m e1 e2
    have hlen := h.len
    by_cases hi : i < us.length
    · rw [List.getElem?_append_left hi] at e1
      rw [List.getElem?_append_left (by omega)] at e2
      have hm : x ∈ us := List.mem_of_getElem? e1
      exact kp x m B (h2.el i x m e1 e2) (fun b e => h.off x hm b e)
    · rw [List.getElem?_append_right (by omega)] at e1
      rw [List.getElem?_append_right (by omega)] at e2
      rw [List.getElem?_singleton] at e1 e2
      split at e1
      · rename_i h0
        rw [if_pos (by omega)] at e2
        obtain rfl := Option.some.inj e1
        obtain rfl := Option.some.inj e2
        exact (kp u l _ hu huv).mono hB
      · cases e1
  · intro x hx b e
    have hxlt : b < w2.heap.size ∧ v.ownBlock ≠ some b := by
      rcases List.mem_append.1 hx with hx | hx
      · obtain ⟨m, hm⟩ := h2.elem x hx
        exact ⟨(World.ownsRow.lt hm b e).2, h.off x hx b e⟩
      · obtain rfl := List.mem_singleton.1 hx
        exact ⟨(hlt b e).2, huv b e⟩
    rcases hv with q | q
    · rw [q]; exact hxlt.2
    · rw [q]
      intro q2
      have := Option.some.inj q2
      simp at this
      omega
  · rw [List.pairwise_append]
    refine ⟨h.sep, List.pairwise_singleton .., fun a ha x hx => ?_⟩
    obtain rfl := List.mem_singleton.1 hx
    obtain ⟨m, hm⟩ := h.elem a ha
    exact hm.apart hu (Nat.le_refl _)

theorem Rd.grown {w w' : World} {r : Option Nat} {v : Value} {l : List UInt8} (h : Rd w v l) (hg : w.grownBy w' r) (hne : ∀ b, v.ownBlock = some b → r ≠ some b) : Rd w' v l := by
  obtain ⟨ao, c, rfl, h1, h2, h3, h4⟩ := h
  refine ⟨ao, c, rfl, h1, h2, h3, fun i hi => ?_⟩
  obtain ⟨a, rfl, hc⟩ := h4 i hi
  have hlt := World.block_lt_of_cell? w _ hc
  rw [add_block] at hlt
  refine ⟨a, rfl, ?_⟩
  rw [World.cell?_of_block (w := w) (by rw [add_block]; exact hg.block a.block hlt (fun e => hne a.block rfl e.symm))]
  exact hc

theorem Ows.rds {B : Nat} {w : World} {v : Value} {ls : List (List UInt8)} {us : List Value} (h : Ows B w v ls us) : Rds w v ls := by
  have hlen := h.len
  have hrow := h.row
  rcases hrow.2 with ⟨hv, h0⟩ | ⟨g, cap, cur, hv, hg, hh, hn, hcap, hsz, htake⟩
  · have : ls = [] := List.length_eq_zero_iff.1 (by omega)
    subst this
    exact ⟨none, 0, hv, by simp, by simp, fun i hi => by simp at hi⟩
  · refine ⟨some ⟨g, 0, none⟩, cap, by rw [hv, hlen], by omega, hcap, fun i hi => ?_⟩
    have hiu : i < us.length := by omega
    refine ⟨⟨g, 0, none⟩, us[i], rfl, ?_, (h.el i us[i] ls[i] (by simp [hiu]) (by simp [hi])).rd⟩
    rw [Addr.add_lit, Nat.zero_add]
    subst hv
    rw [hrow.cellAt i (by omega)]
    simp [hiu]
end Go.Proofs.Ytnenfflkldpbgaa

/- One text appended to a list of texts of the call's own, inside a region that draws its order. -/
namespace Go.Proofs.Ytnenfflkldpbgaa
open Go.RowKit
set_option linter.unusedVariables false
set_option maxRecDepth 100000

theorem step_app1 {P : Program} {ops : Array Oper} {o : Oper} {a : Act} {w : World} {K : Act → World → Prop} {Q : Exit → Act → World → Prop} {E : Prop} (hgd : o.guard = none) (s x : Operand) (t : TypeId)
    (ho : o.op = .call { callee := .builtin .append, args := #[s, x], argTypes := #[t, t] })
    (base : Nat) (e : TypeId) (z : Value) (bytes : Nat) (ht : P.underlying t = some (.slice e)) (hinf : (P.info? e).map (fun i => (i.zero, i.size, i.bytes)) = some (some z, 1, bytes)) (hzs : z.cells.size = 1)
    (v : Value) (n : Nat) (xs : List Value) (hs : a.eval s = v) (hown : w.ownsRow base e 1 v n xs) (ad : Addr) (c : Nat) (u : Value) (hx : a.eval x = .slice (some ad) 1 c) (hu : w.cell? ad = some u) (h1 : u.oneCell' = true)
    (h63 : n + 1 ≤ maxLen) (hb : (n + 1) * bytes ≤ 140737488355328) (hbase : base ≤ w.heap.size)
    (hK : ∀ v' w', w'.ownsRow base e 1 v' (n + 1) (xs ++ [u]) → w.grownBy w' v.ownBlock → (v'.ownBlock = v.ownBlock ∨ v'.ownBlock = some w.heap.size) → K (a.put o.dst v') w') : if Region.wanted o (yielded ops a.tmps) = true then Oper.wp P o a w K Q else E := by
  have hw : Region.wanted o (yielded ops a.tmps) = true := by simp [Region.wanted, hgd]
  rw [if_pos hw]
  obtain ⟨v', w', hr, h2, h3, h4⟩ := run_app1 (P := P) w base t o.type e z bytes ht hinf hzs v n xs hown ad c u hu h1 h63 hb hbase
  unfold Oper.wp execOp
  simp only [ho, resolve, invoke, builtin, Sem.run_bind, Sem.run_pure, Result.andThen_ok, List.map_toArray, List.map_cons, List.map_nil, hs, hx, hr]
  exact hK v' w' h2 h3 h4
end Go.Proofs.Ytnenfflkldpbgaa

/- What the document's own Row answers of any fields. -/
namespace Go.Proofs.Ytnenfflkldpbgaa
open Go.RowKit
set_option linter.unusedVariables false
set_option maxRecDepth 100000

set_option maxHeartbeats 1000000 in
theorem rrow_any {v : Value} {ls : List (List UInt8)} {w : World} (hr : Rds w v ls) (hl : (M.row ls).length ≤ 1099511627776) (hn : ls.length ≤ 1099511627776) :
    Calls Try.prog 57 #[v] w fun e w' => ∃ v', e = .returned v' ∧ Ow w.heap.size w' v' (M.row ls) ∧ Below w.heap.size w w' := by
  obtain ⟨ao, c, rfl, h1, h2, h4⟩ := hr
  unfold maxLen at h2
  have hvl := vi_len ls.length
  have hrl : (M.rowB ls).length ≤ 1099511627776 := by simp [M.row] at hl; omega
  clear hl
  go_enter Try.func57, Try.ntmps57
  go_wp2_with fail
  refine (rvarint_any ls.length _ (by omega)).mono ?_
  rintro e w1 ⟨v1, rfl, ho1, hb1⟩
  go_wp2_with fail
  go_loopw [3, 4] (fun out i wr => ∃ k : Nat, k ≤ ls.length ∧ i = .int .i64 k ∧ Ow w.heap.size wr out (M.vi ls.length ++ M.rowB (ls.take k)) ∧ Below w.heap.size w wr) (fun _ i _ => ls.length - (intOf i).toNat)
  case atStart => exact ⟨0, Nat.zero_le _, rfl, by simpa [M.rowB] using ho1, hb1⟩
  case round =>
    obtain ⟨k, hk, rfl, ho, hb⟩ := hrel
    clear ho1 hb1
    have hB := hb.size
    by_cases hlt : k < ls.length
    · obtain ⟨a, u, rfl, hc, hru⟩ := h4 k hlt
      have hcx : wr.cell? (a.add k) = some u := by rw [hb.cell (World.block_lt_of_cell? w _ hc)]; exact hc
      have hfl := M.rowB_field ls k hlt
      have hvf := vi_len ls[k].length
      have hsn := M.rowB_snoc ls k hlt
      have HSN : Hid _ := hsn
      have hru' := hru
      obtain ⟨au, cu, rfl, u1, u2, _, _⟩ := hru
      unfold maxLen at u2
      have hdl : (M.vi ls.length ++ M.rowB (ls.take k)).length + (M.vi ls[k].length).length + ls[k].length ≤ 1099511628000 := by simp only [List.length_append]; omega
      have HC3 : Hid (∀ W, Below w.heap.size w W → W.cell? (a.add k) = some (.slice au ls[k].length cu)) := fun W hW => by rw [hW.cell (World.block_lt_of_cell? w _ hc)]; exact hc
      generalize hcur : M.vi ls.length ++ M.rowB (ls.take k) = cur at *
      generalize hfk : ls[k] = fk at *
      have HC : Hid _ := And.intro hcur hfk
      clear hcur hsn hfl hc h4
      go_wp2_with fail
      refine (rvarint_any fk.length _ (by omega)).mono ?_
      rintro e w2 ⟨v2, rfl, ho2, hb2⟩
      have ho' := ho.below hb2 (Nat.le_refl _)
      have hb' : Below w.heap.size w w2 := hb.trans (hb2.mono hB)
      have hB2 := hb'.size
      go_wp2_with (first | (at_builtin; refine wpList_app rfl _ _ rfl w.heap.size _ cur rfl ho' _ (M.vi fk.length) rfl ho2.rd hB2 (by omega) ?_; intro v3 w3 ho3 hb3 hg3; have hc3 := HC3.out w3 (hb'.trans hb3)) | (at_builtin; refine wpList_app rfl _ _ rfl w.heap.size _ (cur ++ M.vi fk.length) rfl ho3 _ fk rfl ?r1 ?r2 ?r3 ?_; rotate_right; intro v4 w4 ho4 hb4 hg4) | fail)
      case r1 => exact hru'.below (hb'.trans hb3) (Nat.le_refl _)
      case r2 => exact (hb'.trans hb3).size
      case r3 => rw [List.length_append]; omega
      refine ⟨⟨k + 1, by omega, by go_num, ?_, (hb'.trans hb3).trans hb4⟩, by simp [intOf]; omega⟩
      have e : M.vi ls.length ++ M.rowB (ls.take (k + 1)) = cur ++ M.vi fk.length ++ fk := by
        rw [HSN.out, ← HC.out.1]; simp
      rw [e]; exact ho4
    · obtain rfl : k = ls.length := by omega
      go_wp2_with fail
      go_ret
      refine ⟨_, rfl, ?_, hb⟩
      rw [List.take_of_length_le (Nat.le_refl _)] at ho
      exact ho
end Go.Proofs.Ytnenfflkldpbgaa

/- What the document's own TakeVarint answers of any bytes. -/
namespace Go.Proofs.Ytnenfflkldpbgaa
open Go.RowKit
set_option linter.unusedVariables false
set_option maxRecDepth 100000

/-- What is to be read where the bytes end at s. -/
theorem rtv_step (l : List UInt8) (s k : Nat) (hk : k ≤ s) (hs : s < 10) (hl : s < l.length) (h9 : s = 9 → l[s].toNat ≤ 1) :
    M.val ((l.take (s + 1)).drop (k + 1)) * 128 + (l[k]'(by omega)).toNat % 128 = M.val ((l.take (s + 1)).drop k) ∧ M.val ((l.take (s + 1)).drop (k + 1)) < 144115188075855872 := by
  have hkl : k < (l.take (s + 1)).length := by simp; omega
  constructor
  · rw [List.drop_eq_getElem_cons hkl, M.val]
    simp only [List.getElem_take]
    omega
  · have hlen : ((l.take (s + 1)).drop (k + 1)).length = s - k := by simp; omega
    by_cases h : s = 9 ∧ k = 0
    · obtain ⟨rfl, rfl⟩ := h
      have h1 := h9 rfl
      have e : (l.take (9 + 1)).drop (0 + 1) = ((l.take 9).drop 1) ++ [l[9]] := by
        rw [take_snoc l 9 hl, List.drop_append_of_le_length (by simp; omega)]
      rw [e, M.val_append]
      have hv := M.val_lt ((l.take 9).drop 1)
      have hl8 : ((l.take 9).drop 1).length = 8 := by simp; omega
      rw [hl8] at hv ⊢
      simp only [M.val, Nat.mul_zero, Nat.add_zero]
      have h56 : (128 : Nat) ^ 8 = 72057594037927936 := by decide
      rw [h56] at hv ⊢
      have : l[9].toNat % 128 ≤ 1 := by omega
      omega
    · have hv := M.val_lt ((l.take (s + 1)).drop (k + 1))
      rw [hlen] at hv
      have := Nat.pow_le_pow_right (n := 128) (by decide) (show s - k ≤ 8 by omega)
      have h56 : (128 : Nat) ^ 8 = 72057594037927936 := by decide
      omega

theorem tv_cases (l : List UInt8) : (M.cont 10 l = 10 ∧ M.tv l = (0, [], 12)) ∨ (M.cont 10 l < 10 ∧ l.length = M.cont 10 l ∧ M.tv l = (0, [], 10)) ∨ ∃ s, M.cont 10 l = s ∧ s < 10 ∧ ∃ h : s < l.length,
    ((0 < s ∧ l[s].toNat = 0 ∨ s = 9 ∧ 1 < l[s].toNat) ∧ M.tv l = (0, [], 12)) ∨ (¬ (0 < s ∧ l[s].toNat = 0 ∨ s = 9 ∧ 1 < l[s].toNat) ∧ M.tv l = (M.val (l.take (s + 1)), l.drop (s + 1), 0)) := by
  have hle := M.cont_le 10 l
  by_cases h1 : M.cont 10 l = 10
  · refine .inl ⟨h1, ?_⟩
    unfold M.tv; simp only []; rw [if_pos h1]
  · by_cases h2 : l.length ≤ M.cont 10 l
    · refine .inr (.inl ⟨by omega, by omega, ?_⟩)
      unfold M.tv; simp only []; rw [if_neg h1, if_pos h2]
    · refine .inr (.inr ⟨M.cont 10 l, rfl, by omega, by omega, ?_⟩)
      have eg : l.getD (M.cont 10 l) 0 = l[M.cont 10 l]'(by omega) := by simp [show M.cont 10 l < l.length by omega]
      by_cases h3 : 0 < M.cont 10 l ∧ (l.getD (M.cont 10 l) 0).toNat = 0 ∨ M.cont 10 l = 9 ∧ 1 < (l.getD (M.cont 10 l) 0).toNat
      · refine .inl ⟨by rw [eg] at h3; exact h3, ?_⟩
        unfold M.tv; simp only []; rw [if_neg h1, if_neg h2, if_pos h3]
      · refine .inr ⟨by rw [eg] at h3; exact h3, ?_⟩
        unfold M.tv; simp only []; rw [if_neg h1, if_neg h2, if_neg h3]

set_option maxHeartbeats 1000000 in
theorem rtakeV_any {v : Value} {l : List UInt8} {w : World} (hr : Rd w v l) (hl : l.length ≤ 140737488355000) :
    Calls Try.prog 78 #[v] w fun e w' => ∃ v2, e = .returned (.tuple #[.int .u64 (M.tv l).1, v2, .int .i64 (M.tv l).2.2]) ∧ Ow w.heap.size w' v2 (M.tv l).2.1 ∧ Below w.heap.size w w' := by
  have hr' := hr
  obtain ⟨ao, c, rfl, h1, h2, h3, h4⟩ := hr
  unfold maxLen at h2
  clear h3
  have HT : Hid _ := tv_cases l
  generalize htv : M.tv l = T at *
  clear htv
  go_enter Try.func78, Try.ntmps78
  go_wp2
  go_loopw [5] (fun i wr => ∃ k : Nat, k ≤ l.length ∧ k ≤ 10 ∧ i = .int .i64 k ∧ (∀ j, (h : j < l.length) → j < k → 128 ≤ l[j].toNat) ∧ wr = w) (fun i _ => 10 - (intOf i).toNat)
  case atStart => exact ⟨0, Nat.zero_le _, Nat.zero_le _, rfl, fun j _ hj => by omega, rfl⟩
  case round =>
    obtain ⟨k, hk, hk10, rfl, hs, rfl⟩ := hrel
    have HS : Hid _ := hs
    clear hs
    by_cases hlt : k < l.length
    · obtain ⟨a, rfl, hc⟩ := h4 k hlt
      by_cases hlt10 : k < 10
      · by_cases hx : 128 ≤ l[k].toNat
        · clear h4 hr'
          go_wp2
          refine ⟨⟨k + 1, by omega, by omega, by go_num, fun j h hj => ?_, trivial⟩, by simp [intOf]; omega⟩
          by_cases hj' : j < k
          · exact HS.out j h hj'
          · obtain rfl : j = k := by omega
            exact hx
        · have e : M.cont 10 l = k := M.cont_eq 10 k l hk10 hk (fun j hj => HS.out j (by omega) hj) (.inr (.inr ⟨hlt, by omega⟩))
          have eT : ((0 < k ∧ l[k].toNat = 0 ∨ k = 9 ∧ 1 < l[k].toNat) ∧ T = (0, [], 12)) ∨ (¬ (0 < k ∧ l[k].toNat = 0 ∨ k = 9 ∧ 1 < l[k].toNat) ∧ T = (M.val (l.take (k + 1)), l.drop (k + 1), 0)) := by
            rcases HT.out with ⟨q, _⟩ | ⟨_, q, _⟩ | ⟨s, q, q2, q3, q4⟩
            · omega
            · omega
            · rw [e] at q
              subst q
              exact q4
          clear e HT
          have hx2 := l[k].toNat_lt
          rcases eT with ⟨hbad, rfl⟩ | ⟨hok, rfl⟩
          · clear h4 hr'
            by_cases h9 : 9 ≤ k
            · have h9' : ((k : Int) == 9) = true := by simp; omega
              go_wp2
              all_goals go_ret3
              all_goals exact ⟨_, rfl, Ow.nil _ _, Below.refl _ _⟩
            · have h9' : ((k : Int) == 9) = false := by simp; omega
              go_wp2
              all_goals go_ret3
              all_goals exact ⟨_, rfl, Ow.nil _ _, Below.refl _ _⟩
          · have hpost := hr'.post (k + 1) (by omega) (if c = k + 1 then some a else some (a.add (k + 1))) ⟨fun h => by rw [if_pos h], fun h => by rw [if_neg h]; rfl⟩
            have hdl : (l.drop (k + 1)).length ≤ 140737488355000 := by simp; omega
            have HP : Hid _ := And.intro hpost hdl
            have HV : Hid (∀ j, (h : j ≤ k) → _) := fun j h => rtv_step l k j h hlt10 hlt (by omega)
            clear hpost hdl hr'
            have h3 : (((k : Int) == 9) = true ∧ (((l[k].toNat : Nat) : Int) == 0) = false ∧ 9 ≤ k ∧ 1 ≤ l[k].toNat ∧ l[k].toNat ≤ 1) ∨ (((k : Int) == 9) = false ∧ (((l[k].toNat : Nat) : Int) == 0) = false ∧ 1 ≤ k ∧ k ≤ 8 ∧ 1 ≤ l[k].toNat) ∨ (((k : Int) == 9) = false ∧ k < 1) := by
              simp only [beq_iff_eq, beq_eq_false_iff_ne]
              omega
            clear hok
            rcases h3 with ⟨q0, r0, q1, q2, q3⟩ | ⟨q0, r0, q1, q2, q3⟩ | ⟨q0, q1⟩
            all_goals
              go_wp2_with fail
              go_loopw [6, 7] (fun m i wx => ∃ j : Nat, j ≤ k + 1 ∧ i = .int .i64 ((j : Int) - 1) ∧ m = .int .u64 (M.val ((l.take (k + 1)).drop j)) ∧ wx = wr) (fun _ i _ => (intOf i + 1).toNat)
              case atStart =>
                refine ⟨k + 1, Nat.le_refl _, by go_num, ?_, rfl⟩
                have e0 : (l.take (k + 1)).drop (k + 1) = [] := by
                  apply List.drop_eq_nil_of_le
                  simp
                  omega
                rw [e0]; rfl
              case round =>
                obtain ⟨j, hj, rfl, rfl, rfl⟩ := hrel
                cases j with
                | zero =>
                  have hp := HP.out.1
                  by_cases hcn : c = k + 1
                  · rw [if_pos hcn] at hp
                    have HP2 : Hid _ := hp
                    clear hp
                    go_wp2_with fail
                    refine (copy_any (l := l.drop (k + 1)) (Rd.cong HP2.out ?_ ?_ ?_) (by have := HP.out.2; omega)).mono ?_
                    · first | rfl | (simp; done)
                    · first | rfl | omega
                    · first | rfl | omega
                    rintro e w2 ⟨v2, rfl, ho2, hb2⟩
                    go_wp2_with fail
                    go_ret3
                    exact ⟨_, rfl, ho2, hb2⟩
                  · rw [if_neg hcn] at hp
                    have HP2 : Hid _ := hp
                    clear hp
                    go_wp2_with fail
                    refine (copy_any (l := l.drop (k + 1)) (Rd.cong HP2.out ?_ ?_ ?_) (by have := HP.out.2; omega)).mono ?_
                    · first | rfl | (simp [Addr.add]; done)
                    · first | rfl | omega
                    · first | rfl | omega
                    rintro e w2 ⟨v2, rfl, ho2, hb2⟩
                    go_wp2_with fail
                    go_ret3
                    exact ⟨_, rfl, ho2, hb2⟩
                | succ j =>
                  have hst := HV.out j (by omega)
                  obtain ⟨a', ea, hcj⟩ := h4 j (by omega)
                  obtain rfl := Option.some.inj ea
                  clear ea
                  have hxj := (l[j]'(by omega)).toNat_lt
                  have hlt' := hst.2
                  have HE : Hid ((M.val ((l.take (k + 1)).drop (j + 1)) : Int) * 128 + ((l[j]'(by omega)).toNat : Int) % 128 = (M.val ((l.take (k + 1)).drop j) : Int)) := by
                    show _ = _
                    have := hst.1
                    omega
                  clear hst
                  go_wp2
                  exact ⟨⟨j, by omega, by go_num, congrArg _ HE.out, trivial⟩, by simp [intOf]⟩
      · have e : M.cont 10 l = 10 := by
          obtain rfl : k = 10 := by omega
          exact M.cont_eq 10 10 l hk10 hk (fun j hj => HS.out j (by omega) hj) (by omega)
        obtain rfl : k = 10 := by omega
        have eT : T = (0, [], 12) := by
          rcases HT.out with ⟨_, q⟩ | ⟨q, _⟩ | ⟨s, q, q2, _⟩
          · exact q
          · omega
          · omega
        subst eT
        clear h4 hr' e
        go_wp2
        go_ret3
        exact ⟨_, rfl, Ow.nil _ _, Below.refl _ _⟩
    · obtain rfl : k = l.length := by omega
      have e : M.cont 10 l = l.length := M.cont_eq 10 l.length l hk10 hk (fun j hj => HS.out j (by omega) hj) (by omega)
      by_cases h10 : l.length = 10
      · have eT : T = (0, [], 12) := by
          rcases HT.out with ⟨_, q⟩ | ⟨q, _⟩ | ⟨s, q, q2, q3, _⟩
          · exact q
          · omega
          · omega
        subst eT
        clear h4 hr' e HT
        go_wp2
        go_ret3
        exact ⟨_, rfl, Ow.nil _ _, Below.refl _ _⟩
      · have eT : T = (0, [], 10) := by
          rcases HT.out with ⟨q, _⟩ | ⟨_, _, q⟩ | ⟨s, q, q2, q3, _⟩
          · omega
          · exact q
          · omega
        subst eT
        clear h4 hr' e HT
        have h10' : ((l.length : Int) == 10) = false := by simp; omega
        go_wp2
        go_ret3
        exact ⟨_, rfl, Ow.nil _ _, Below.refl _ _⟩
end Go.Proofs.Ytnenfflkldpbgaa
