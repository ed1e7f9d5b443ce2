/- The statement SchedRests, walked. -/
import Derived.Test.YtedfjacmaidhkaaGreatG45
import Derived.Test.YtedfjacmaidhkaaGreatG47
import Derived.Test.YtedfjacmaidhkaaGreatG4
namespace Go.Proofs.YtedfjacmaidhkaaGreat
open Go.RowKit Go.Maps
set_option linter.unusedVariables false
set_option linter.unusedSimpArgs false
set_option maxRecDepth 100000

set_option maxRecDepth 512 in
theorem allS_smallR (s : Nat) (hk : s ≤ 6) : (allS (s - 1)).length + 1 ≤ 1099511627776 := by
  have := allS_len (s - 1)
  omega
/-- The region's box, its peers, the stores. -/
def RI (B bx : Nat) (w1 : World) (av : Value) (ps : List Pe) (W : World) : Prop := ∃ pa pc, W.heap[bx]? = some (.cells #[.int .u64 5, .slice none 0 0, .slice none 0 0, .int .u64 1, .int .u64 1, .slice pa ps.length pc] 40 (0, 0)) ∧ OwPe B W (.slice pa ps.length pc) ps ∧ OwSw B W av (allS 5) ∧ Below B w1 W ∧ B ≤ bx
theorem GP.snoc {ps : List Pe} {nx : Nat} (hG : GP ps nx) (s : Int) (lb : Bool) (h1 : 1 ≤ s) (h5 : s ≤ 5) (hs : ∀ q ∈ ps, q.2.1 < s) (hn : 0 < nx) (hnx : nx < 1000000) : GP (ps ++ [(UInt64.ofNat nx, s, lb)]) (nx + 1) := by
  have hnn : (UInt64.ofNat nx).toNat = nx := by rw [UInt64.toNat_ofNat']; omega
  refine ⟨List.pairwise_append.2 ⟨hG.ris, List.pairwise_singleton _ _, fun x hx y hy => ?_⟩, fun x hx => ?_, List.pairwise_append.2 ⟨hG.st, List.pairwise_singleton _ _, fun x hx y hy => ?_⟩, fun x hx => ?_⟩
  · rw [List.mem_singleton.1 hy]; show x.1.toNat < (UInt64.ofNat nx).toNat; rw [hnn]; exact (hG.pos x hx).2
  · rcases List.mem_append.1 hx with hx | hx
    · have := hG.pos x hx; omega
    · rw [List.mem_singleton.1 hx]; show 0 < (UInt64.ofNat nx).toNat ∧ (UInt64.ofNat nx).toNat < nx + 1; rw [hnn]; omega
  · rw [List.mem_singleton.1 hy]; have := hs x hx; show x.2.1 ≠ s; omega
  · rcases List.mem_append.1 hx with hx | hx
    · exact hG.dom x hx
    · rw [List.mem_singleton.1 hx]; exact ⟨h1, h5⟩
theorem RI.below {B bx C : Nat} {w1 W W' : World} {av : Value} {ps : List Pe} (h : RI B bx w1 av ps W) (hb : Below C W W') (hC : W.heap.size ≤ C) (hBC : B ≤ w1.heap.size := by exact Nat.le_refl _) : RI B bx w1 av ps W' := by
  obtain ⟨pa, pc, h1, h2, h3, h4, h5⟩ := h
  have hlt : bx < W.heap.size := (Array.getElem?_eq_some_iff.1 h1).1
  exact ⟨pa, pc, (hb.block bx (by omega)).trans h1, h2.below hb hC, h3.below hb hC, h4.trans (hb.mono (by have := h4.size; omega)), h5⟩
theorem chk_vt {ps : List Pe} (h : chkE 5 [] [] ps = 0) : 0 < vtF ps := by
  unfold chkE at h
  rw [if_neg (by decide), if_neg (by decide)] at h
  by_cases hg : grpF ps = false
  · rw [if_pos hg] at h; cases h
  · have hg' : grpF ps = true := by simpa using hg
    unfold grpF at hg'
    simp only [Bool.and_eq_true, decide_eq_true_eq] at hg'
    exact hg'.2
def kindP (o : Or) : Prop := o.kind = 1 ∨ o.kind = 2 ∨ o.kind = 3
theorem rest_stp {o : Or} {nx n m : Nat} {ps : List Pe} {A B : Prop} (hG : GP ps nx) (h : o.kind = 1 ∧ A ∨ o.kind = 2 ∧ B ∨ o.kind = 3 ∧ n + 1 = m ∧ ∃ q ∈ ps, q.2.2 = false ∧ o.store = q.2.1 ∧ o.peer = q.1.toNat) : o.kind = 1 ∨ o.kind = 2 ∨ (o.kind = 3 ∧ o.store ≠ 0 ∧ o.peer ≠ 0 ∧ ps.any (namF o.store o.peer) = true) := by
  rcases h with h | h | ⟨h, _, q, hq, _, e1, e2⟩
  · exact .inl h.1
  · exact .inr (.inl h.1)
  · have d := hG.dom q hq
    have p := hG.pos q hq
    refine .inr (.inr ⟨h, by rw [e1]; omega, by rw [e2]; omega, List.any_eq_true.2 ⟨q, hq, ?_⟩⟩)
    unfold namF; rw [e1, e2]; simp
theorem OwPe.monoR {B C : Nat} {w : World} {v : Value} {l : List Pe} (h : OwPe C w v l) (hB : B ≤ C) : OwPe B w v l := by
  refine ⟨h.1, ?_⟩
  rcases h.2 with q | ⟨g, cap, cur, e, h1, r⟩
  · exact .inl q
  · exact .inr ⟨g, cap, cur, e, Nat.le_trans hB h1, r⟩
theorem rdpe_z2 {w : World} {g : Nat} {z : Int} {p : Pe} (h : w.heap[g]? = some (.cells #[.int .u64 z, .int .i64 p.2.1, .bool p.2.2] 44 (0, 0))) (hz : z = (p.1.toNat : Int)) : RdPe w (.slice (some ⟨g, 0, none⟩) 1 1) [p] := by
  subst hz; exact rdpe_1 h
theorem or_cells {B : Nat} {w : World} {v : Value} {o : Or} (h : OwOr B w v [o]) : ∃ g c, v = .slice (some ⟨g, 0, none⟩) 1 c ∧ ∀ W, Below w.heap.size w W → W.cell? ⟨g, 0, none⟩ = some (.int .i64 o.kind) ∧ W.cell? ⟨g, 1, none⟩ = some (.int .u64 (o.reg : Int)) ∧ W.cell? ⟨g, 2, none⟩ = some (.int .i64 o.store) ∧ W.cell? ⟨g, 3, none⟩ = some (.int .u64 (o.peer : Int)) ∧ W.cell? ⟨g, 4, none⟩ = some (.int .u64 (o.other : Int)) := by
  obtain ⟨a, c, rfl, _, _, _, h4⟩ := row_reads h
  obtain ⟨g, rfl, q0⟩ := h4 0 _ rfl
  have k : ∀ j u, (ors [o])[j]? = some u → ∀ W, Below w.heap.size w W → W.cell? ⟨g, j, none⟩ = some u := fun j u hu W hW => by
    obtain ⟨g', e, q⟩ := h4 j u hu
    simp only [Option.some.injEq, Addr.mk.injEq, and_true] at e
    subst e
    rw [hW.cell (World.block_lt_of_cell? w _ q)]; exact q
  exact ⟨g, c, rfl, fun W hW => ⟨k 0 _ rfl W hW, k 1 _ rfl W hW, k 2 _ rfl W hW, k 3 _ rfl W hW, k 4 _ rfl W hW⟩⟩
theorem rsT_len (o : Or) (l : List Pe) : (rsT o l).length ≤ l.length := by
  induction l with
  | nil => exact Nat.le_refl _
  | cons a t ih =>
    have h1 : (rsS o a).length ≤ 1 := by unfold rsS; split; exact Nat.zero_le _; split <;> exact Nat.le_refl _
    show (rsS o a ++ rsT o t).length ≤ _
    rw [List.length_append, List.length_cons]; omega
set_option maxRecDepth 512 in
theorem rsT_small (o : Or) (l : List Pe) (h : l.length ≤ 5) : (rsT o l).length + 1 ≤ 1099511627776 := by
  have := rsT_len o l
  omega
/-- Decide over the one region. -/
theorem rest_call (N : Nat) {nx : Nat} {pa : Option Addr} {pc : Nat} {ps : List Pe} {v1 v2 : Value} {w : World} (h1 : 1 ≤ N) (h5 : N ≤ 5) (hG : GP ps nx) (hV : 0 < vtF ps) (hs : RdSw w v1 (allS 5)) (hr : RdRv w v2 [rR pa pc ps]) :
    Calls Tryz.prog 9 #[.agg #[.int .i64 (N : Int), .int .i64 0, .int .i64 0], v1, v2] w fun e w' => ∃ v os, e = .returned v ∧ RestP N ps os ∧ OwOr w.heap.size w' v os ∧ Below w.heap.size w w' := by
  have hl := hG.len
  have htr : trF [rR pa pc ps] = [rR pa pc ps] := by
    show trS [] (rR pa pc ps) = _
    unfold trS
    rw [if_pos ⟨rfl, hG.chk hV⟩]; rfl
  refine (decideAll_any (N : Int) 0 0 hs hr (by decide) (by simp) (by show ps.length + 2 + 0 + 2 < _; omega) (fun r hr => ?_) (fun r hr => ?_) (fun rs hrs r hr => .inr (.inl rfl))).mono ?_
  · obtain rfl := List.mem_singleton.1 hr
    refine ⟨fun q hq => ?_, by show i64 0; unfold i64; omega⟩
    have := hG.dom q hq
    unfold i64; omega
  · obtain rfl := List.mem_singleton.1 hr
    show ps.length ≤ _
    omega
  · rintro e w5 ⟨v, rs, p, os, rfl, hp1, _, hrun, ho, hb⟩
    rw [htr] at hp1
    obtain rfl := List.perm_singleton.1 hp1
    rw [allS_ts 5 (by omega), allS_len] at hrun
    exact ⟨v, os, rfl, rest_os h1 h5 hG hrun, ho, hb⟩
/-- One peer more stands in the region. -/
theorem RI.put {B bx : Nat} {w1 wC we w9 : World} {oa : Option Addr} {om od : Nat} {ps ps' : List Pe} {pa : Option Addr} {pc : Nat} {v9 : Value} (hI : RI B bx w1 (.slice oa om od) ps wC) (hB1 : B ≤ w1.heap.size) (hS : Below wC.heap.size wC we) (hpe : OwPe B we (.slice pa ps.length pc) ps) (ho9 : OwPe B w9 v9 ps') (hc9 : Chg (fun b => Value.ownBlock (.slice pa ps.length pc) = some b) we w9) (hx9 : ∃ u, w9.heap[bx]? = some (.cells #[.int .u64 5, .slice none 0 0, .slice none 0 0, .int .u64 1, .int .u64 1, u] 40 (0, 0))) : RI B bx w1 (.slice oa om od) ps' (w9.setCell ⟨bx, 5, none⟩ v9) := by
  obtain ⟨_, _, _, _, hsw, hbI, hbB⟩ := hI
  obtain ⟨u, hx9⟩ := hx9
  obtain ⟨qa, qc, rfl, _⟩ := row_reads ho9
  have hbE : Below B w1 we := hbI.trans (hS.mono (Nat.le_trans hB1 hbI.size))
  have hsw2 := hsw.below hS (Nat.le_refl _)
  have hsw9 : OwSw B w9 (.slice oa om od) (allS 5) := ownsRow_keptC hsw2 hc9 (fun b q1 q2 => by
    obtain ⟨_, cs, fr, e'⟩ := row_blk hpe q2
    exact row_nex hsw2 e' (by decide) b q1 rfl)
  have hb9 : Below B w1 w9 := hbE.trans (hc9.below (fun b q => (World.ownsRow.lt hpe b q).1) (Nat.le_trans hB1 hbE.size))
  refine ⟨qa, qc, by rw [heap_setCell_same _ _ 5 _ _ _ hx9]; rfl, ownsRow_keptC ho9 (chg_p bx 5 _ w9) (row_nex ho9 hx9 (by decide)), ownsRow_keptC hsw9 (chg_p bx 5 _ w9) (row_nex hsw9 hx9 (by decide)), hb9.trans ((chg_p bx 5 _ w9).below (fun b q => by rw [q]; exact hbB) (Nat.le_trans hB1 hb9.size)), hbB⟩
set_option maxHeartbeats 8000000 in
theorem rests_walk {v1 : Value} {on : List Int} {w : World} (n0 ln0 : Int) (hr : Rj w v1 on) :
    Calls Tryz.prog 5 #[.int .i64 n0, v1, .int .i64 ln0] w fun e w' => e = .returned (.bool true) ∧ Below w.heap.size w w' := by
  have haw := fun W => awake_any W
  have HR : Hid (Rj w v1 on) := hr
  obtain ⟨N, hN00, hN1, hN5⟩ := mask_oneS n0 5 (by omega) (by omega)
  have hN0 : wrap64 (1 + (bits .and .i64 n0 4611686018427387903).tmod 5) = (N : Int) := hN00
  clear hN00
  obtain ⟨ao, cc, rfl, k1, k2, -⟩ := hr
  generalize hon : on.length = n at *
  have HN : Hid (on.length = n) := hon
  clear hon
  go_enter Tryz.func5, Tryz.ntmps5
  go_wp2_with fail
  refine (haw _).mono ?_
  rintro e w1 ⟨rfl, hb1⟩
  have HB1 : Hid (Below w.heap.size w w1) := hb1
  have hsw0 : OwSw w1.heap.size w1 (.slice none 0 0) [] := OwSw.nil _ _
  clear haw hb1
  go_wp2_with fail
  simp only [hN0]
  clear hN0
  go_loopw [7, 8] (fun av i wr => ∃ s : Nat, 1 ≤ s ∧ s ≤ 6 ∧ i = .int .i64 (s : Int) ∧ (∃ a m d, av = .slice a m d) ∧ Hid (OwSw w1.heap.size wr av (allS (s - 1))) ∧ Hid (Below w1.heap.size w1 wr)) (fun _ i _ => 6 - (intOf i).toNat)
  case atStart => exact ⟨1, Nat.le_refl _, by omega, rfl, ⟨_, _, _, rfl⟩, hsw0, Below.refl _ _⟩
  case round =>
    obtain ⟨s, hs1, hs6, rfl, ⟨oa, om, od, rfl⟩, HA, HB⟩ := hrel
    generalize wr = wA at *
    clear hsw0
    have hBA : w1.heap.size ≤ wA.heap.size := HB.out.size
    by_cases hle : s ≤ 5
    · have hsi : (s : Int) ≤ 5 := by omega
      have hl5 := allS_smallR s (by omega)
      go_wp2_with (first | (at_builtin; refine wpList_appSw rfl _ _ rfl w1.heap.size _ (allS (s - 1)) rfl (HA.out.below (ob_al wA _) (Nat.le_refl _)) _ _ ((s : Int), true) rfl (sw_cells (heap_new wA _)) ?hx1 ?hx2 ?_; rotate_right; (intro v7 w7 ho7 hg7 hw7; have hb7 : Below w1.heap.size (wA.alloc (.cells #[.int .i64 (s : Int), .bool true] 48)) w7 := (Below.refl _ _).grown hg7 (by rw [World.size_alloc]; exact Nat.le_succ_of_le hBA) (fun j e => (World.ownsRow.lt HA.out j e).1); obtain ⟨a7, m7, d7, rfl⟩ := row_shape ho7)) | fail)
      case hx1 => rw [World.size_alloc]; exact Nat.le_succ_of_le hBA
      case hx2 => exact hl5
      refine ⟨⟨s + 1, by omega, by omega, by go_num, ⟨_, _, _, rfl⟩, ?_, (HB.out.trans ((ob_al wA _).mono hBA)).trans hb7⟩, by simp [intOf]; omega⟩
      show OwSw _ _ _ _
      have e := allS_snoc (s - 1)
      rw [Nat.sub_add_cancel hs1] at e
      rw [Nat.add_sub_cancel, e]
      exact ho7
    · have hs5 : s - 1 = 5 := by omega
      have hA5 := HA.out
      rw [hs5] at hA5
      have HA5 : Hid (OwSw w1.heap.size wA (.slice oa om od) (allS 5)) := hA5
      clear hA5 HA
      have hbx := ob_al wA (.cells #[.int .u64 5, .slice none 0 0, .slice none 0 0, .int .u64 1, .int .u64 1, .slice none 0 0] 40)
      have hkx := heap_new wA (.cells #[.int .u64 5, .slice none 0 0, .slice none 0 0, .int .u64 1, .int .u64 1, .slice none 0 0] 40)
      have HI0 : Hid (RI w1.heap.size wA.heap.size w1 (.slice oa om od) [] (wA.alloc (.cells #[.int .u64 5, .slice none 0 0, .slice none 0 0, .int .u64 1, .int .u64 1, .slice none 0 0] 40))) := ⟨none, 0, hkx, OwPe.nil _ _, HA5.out.below hbx (Nat.le_refl _), HB.out.trans (hbx.mono hBA), hBA⟩
      go_upto_region 11 with fail
      generalize wA.alloc _ = wB at *
      generalize wA.heap.size = bx at *
      clear hbx hkx HA5 HB hs5 hle
      have hG0 : GP [] 1 := ⟨List.Pairwise.nil, by simp, List.Pairwise.nil, by simp⟩
      go_wp2_with fail
      go_loopw [10, 11] (fun nv i wr => ∃ s nx : Nat, 1 ≤ s ∧ s ≤ 6 ∧ i = .int .i64 (s : Int) ∧ nv = .int .u64 (nx : Int) ∧ 1 ≤ nx ∧ nx ≤ s ∧ Hid (∃ ps : List Pe, RI w1.heap.size bx w1 (.slice oa om od) ps wr ∧ GP ps nx ∧ ∀ q ∈ ps, q.2.1 < (s : Int))) (fun _ i _ => 6 - (intOf i).toNat)
      case atStart => exact ⟨1, 1, Nat.le_refl _, by omega, rfl, rfl, Nat.le_refl _, Nat.le_refl _, ⟨[], HI0.out, hG0, by simp⟩⟩
      case round =>
        obtain ⟨s2, nx, hs1, hs6, rfl, rfl, hn1, hns, HQ⟩ := hrel
        generalize wr = wC at *
        clear hG0 HI0
        by_cases hle : s2 ≤ 5
        · have hsi : (s2 : Int) ≤ 5 := by omega
          have hsub : wrap64 ((s2 : Int) - 1) = ((s2 - 1 : Nat) : Int) := by unfold wrap64; omega
          by_cases hlt : s2 - 1 < n
          · have hlt1 : ((s2 - 1 : Nat) : Int) < (n : Int) := by omega
            obtain ⟨z, a, rfl, hz⟩ : ∃ z a, ao = some a ∧ wC.cell? (a.add ((s2 - 1 : Nat) : Nat)) = some (.int .i64 z) := by
              obtain ⟨ao', c', e, _, _, _, h4⟩ := HR.out
              simp only [Value.slice.injEq] at e
              have hlt2 : s2 - 1 < on.length := by rw [HN.out]; exact hlt
              obtain ⟨a, ea, hc⟩ := h4 (s2 - 1) hlt2
              obtain ⟨ps, hI, _⟩ := HQ.out
              obtain ⟨_, _, _, _, _, hbI, _⟩ := hI
              refine ⟨on[s2 - 1], a, by rw [e.1]; exact ea, ?_⟩
              rw [hbI.cell (Nat.lt_of_lt_of_le (World.block_lt_of_cell? w _ hc) HB1.out.size), HB1.out.cell (World.block_lt_of_cell? w _ hc)]
              exact hc
            by_cases hone : bits .and .i64 z 1 = 1
            · clear hsub
              go_upto_region 15 with fail
              obtain ⟨ps, hI, hG, hst⟩ := HQ.out
              have HI : Hid _ := hI
              obtain ⟨pa, pc, hxb, hpe, hsw, hbI, hbB⟩ := hI
              have HX5 : Hid (∀ W, Below wC.heap.size wC W → W.cell? ⟨bx, 5, none⟩ = some (.slice pa ps.length pc)) := fun W hW => (cells6 (keep_blk hxb hW)).2.2.2.2.2.1
              generalize hbb : (bits .and .i64 (ln0 / 2 ^ s2) 1 == 1) = lb at *
              refine wp_region_heldN (S := fun W => W.heap[bx]? = some (.cells #[.int .u64 5, .slice none 0 0, .slice none 0 0, .int .u64 1, .int .u64 1, .slice pa ps.length pc] 40 (0, 0))) (L := [13]) (by kernel_rfl) ?_
              have hS0 : Below wC.heap.size wC wC.drew := (Below.refl _ _).drew
              have hSx : wC.drew.heap[bx]? = some (.cells #[.int .u64 5, .slice none 0 0, .slice none 0 0, .int .u64 1, .int .u64 1, .slice pa ps.length pc] 40 (0, 0)) := keep_blk hxb hS0
              generalize wC.drew = wd at *
              refine wpAnyN_take (i := 0) (v := .pointer (some ⟨bx, 5, none⟩)) rfl (by kernel_rfl) (by kernel_rfl) (by kernel_rfl) (by kernel_rfl) (fun _ _ _ h => h) (.inl ⟨by kernel_rfl, fun W hW => by kernel_rfl⟩) hSx ?_
              refine wpAnyN_take (i := 1) (v := .slice pa ps.length pc) rfl (by kernel_rfl) (by kernel_rfl) (by kernel_rfl) (by kernel_rfl) (fun _ _ _ h => h) (.inl ⟨by kernel_rfl, fun W hW => by have c := (cells6 hW).2.2.2.2.2.1; go_simp⟩) hSx ?_
              refine wpAnyN_take (i := 2) (v := .int .u64 (nx : Int)) rfl (by kernel_rfl) (by kernel_rfl) (by kernel_rfl) (by kernel_rfl) (fun _ _ _ h => h) (.inl ⟨by kernel_rfl, fun W hW => by kernel_rfl⟩) hSx ?_
              refine wpAnyN_take (i := 3) (v := .int .i64 (s2 : Int)) rfl (by kernel_rfl) (by kernel_rfl) (by kernel_rfl) (by kernel_rfl) (fun _ _ _ h => h) (.inl ⟨by kernel_rfl, fun W hW => by kernel_rfl⟩) hSx ?_
              refine wpAnyN_take (i := 4) (v := .int .i64 ln0) rfl (by kernel_rfl) (by kernel_rfl) (by kernel_rfl) (by kernel_rfl) (fun _ _ _ h => h) (.inl ⟨by kernel_rfl, fun W hW => by kernel_rfl⟩) hSx ?_
              refine wpAnyN_take (i := 5) (v := .int .i64 (s2 : Int)) rfl (by kernel_rfl) (by kernel_rfl) (by kernel_rfl) (by kernel_rfl) (fun _ _ _ h => h) (.inl ⟨by kernel_rfl, fun W hW => by kernel_rfl⟩) hSx ?_
              refine wpAnyN_take (i := 6) (v := .int .i64 (ln0 / 2 ^ s2)) rfl (by kernel_rfl) (by kernel_rfl) (by kernel_rfl) (by kernel_rfl) (fun _ _ _ h => h) (.inl ⟨by kernel_rfl, fun W hW => by go_simp⟩) hSx ?_
              refine wpAnyN_take (i := 7) (v := .int .i64 (bits .and .i64 (ln0 / 2 ^ s2) 1)) rfl (by kernel_rfl) (by kernel_rfl) (by kernel_rfl) (by kernel_rfl) (fun _ _ _ h => h) (.inl ⟨by kernel_rfl, fun W hW => by go_simp⟩) hSx ?_
              refine wpAnyN_take (i := 8) (v := .bool lb) rfl (by kernel_rfl) (by kernel_rfl) (by kernel_rfl) (by kernel_rfl) (fun _ _ _ h => h) (.inl ⟨by kernel_rfl, fun W hW => by go_simp⟩) hSx ?_
              refine wpAnyN_take (i := 9) (v := .agg #[.int .u64 (nx : Int), .int .i64 (s2 : Int), .bool lb]) rfl (by kernel_rfl) (by kernel_rfl) (by kernel_rfl) (by kernel_rfl) (fun _ _ _ h => h) (.inl ⟨by kernel_rfl, fun W hW => by kernel_rfl⟩) hSx ?_
              refine wpAnyN_one (i := 10) (by kernel_rfl) rfl (fun K hK => ?_)
              rw [if_pos (by kernel_rfl)]
              go_simp
              have hal := ob_al wd (.cells #[.int .u64 (nx : Int), .int .i64 (s2 : Int), .bool lb] 44)
              have hkl := heap_new wd (.cells #[.int .u64 (nx : Int), .int .i64 (s2 : Int), .bool lb] 44)
              have hS1 := hS0.trans (hal.mono hS0.size)
              have hSy := keep_blk hSx hal
              refine hK _ _ (fun _ => hSy) ?_
              clear hK K
              generalize wd.alloc _ = we at *
              refine wpAnyN_one (i := 11) (by kernel_rfl) rfl (fun K hK => ?_)
              have hnx : ((UInt64.ofNat nx).toNat : Int) = (nx : Int) := by rw [UInt64.toNat_ofNat']; omega
              have hpe2 := hpe.below hS1 (Nat.le_refl _)
              obtain ⟨l0, l1, l2, _⟩ := cells3 hkl
              have hBe : w1.heap.size ≤ we.heap.size := Nat.le_trans hbI.size hS1.size
              have hl5 := hG.len
              have hx1 := keep_blk hxb hS1
              refine step_appPe rfl _ _ rfl w1.heap.size _ ps rfl hpe2 ⟨wd.heap.size, 0, none⟩ _ (UInt64.ofNat nx, (s2 : Int), lb) rfl (by rw [hnx]; exact l0) l1 l2 hBe (by omega) ?_
              intro v9 w9 ho9 hg9 hv9
              have hc9 := Chg.of_grown hg9 (S := fun b => Value.ownBlock (.slice pa ps.length pc) = some b) (fun b e _ => e)
              have hn9 : ¬ Value.ownBlock (.slice pa ps.length pc) = some bx := fun q => row_nex hpe2 hx1 (by decide) bx q rfl
              have hx9 := (hc9.block bx (Array.getElem?_eq_some_iff.1 hx1).1 hn9).trans hx1
              obtain ⟨a9, m9, d9, rfl⟩ := row_shape ho9
              refine hK _ _ (fun _ => hx9) ?_
              clear hK K
              refine wpAnyN_one (i := 12) (by kernel_rfl) rfl (fun K hK => ?_)
              rw [if_pos (by kernel_rfl)]
              go_simp
              refine hK _ _ (fun _ => hx9) ?_
              clear hK K
              obtain ⟨t0, t1, t2, t3, t4, t5, tf⟩ := cells6 hx9
              have tf5 := tf 5
              refine wpAnyN_one (i := 13) (by kernel_rfl) rfl (fun K hK => ?_)
              rw [if_pos (by kernel_rfl)]
              go_simp
              refine hK _ _ (fun q => by cases q) ?_
              clear hK K
              refine ⟨by kernel_rfl, ?_⟩
              go_simp
              have HNEW : Hid (∃ ps' : List Pe, RI w1.heap.size bx w1 (.slice oa om od) ps' (w9.setCell ⟨bx, 5, none⟩ (.slice a9 m9 d9)) ∧ GP ps' (nx + 1) ∧ ∀ q ∈ ps', q.2.1 < ((s2 + 1 : Nat) : Int)) := by
                refine ⟨ps ++ [(UInt64.ofNat nx, (s2 : Int), lb)], RI.put HI.out (Nat.le_refl _) hS1 hpe2 ho9 hc9 ⟨_, hx9⟩, hG.snoc (s2 : Int) lb (by omega) hsi hst (by omega) (by omega), fun q hq => ?_⟩
                rcases List.mem_append.1 hq with hq | hq
                · have := hst q hq; omega
                · rw [List.mem_singleton.1 hq]; show (s2 : Int) < _; omega
              clear t0 t1 t2 t3 t4 t5 tf tf5 hx9 hc9 hn9 hg9 ho9 hv9 hx1 hl5 hpe2 hnx l0 l1 l2 hSy hSx hS1 hS0 hkl hal
              go_wp2_with fail
              exact ⟨⟨s2 + 1, nx + 1, by omega, by omega, by go_num, by go_num, by omega, by omega, HNEW.out⟩, by simp [intOf]; omega⟩
            · have HST : Hid (∃ ps : List Pe, RI w1.heap.size bx w1 (.slice oa om od) ps wC ∧ GP ps nx ∧ ∀ q ∈ ps, q.2.1 < ((s2 + 1 : Nat) : Int)) := by
                obtain ⟨ps, q1, q2, q3⟩ := HQ.out
                exact ⟨ps, q1, q2, fun q hq => by have := q3 q hq; omega⟩
              have hz1 : (bits .and .i64 z 1 == 1) = false := beq_eq_false_iff_ne.2 hone
              go_wp2_with fail
              exact ⟨⟨s2 + 1, nx, by omega, by omega, by go_num, rfl, by omega, by omega, HST.out⟩, by simp [intOf]; omega⟩
          · have HST : Hid (∃ ps : List Pe, RI w1.heap.size bx w1 (.slice oa om od) ps wC ∧ GP ps nx ∧ ∀ q ∈ ps, q.2.1 < ((s2 + 1 : Nat) : Int)) := by
              obtain ⟨ps, q1, q2, q3⟩ := HQ.out
              exact ⟨ps, q1, q2, fun q hq => by have := q3 q hq; omega⟩
            have hlt1 : ¬ ((s2 - 1 : Nat) : Int) < (n : Int) := by omega
            go_wp2_with fail
            exact ⟨⟨s2 + 1, nx, by omega, by omega, by go_num, rfl, by omega, by omega, HST.out⟩, by simp [intOf]; omega⟩
        · obtain ⟨ps, hI, hG, _⟩ := HQ.out
          have HI : Hid (RI w1.heap.size bx w1 (.slice oa om od) ps wC) := hI
          obtain ⟨pa, pc, hxb, hpe, hsw, hbI, hbB⟩ := hI
          obtain ⟨y0, y1, y2, y3, y4, y5, _⟩ := cells6 hxb
          have hck := check_any (id := 5) (cf := 1) (vr := 1) (Rd.nil wC) (Rd.nil wC) hpe.rd
          have HG : Hid (GP ps nx) := hG
          have HNX : Hid (1 ≤ nx ∧ nx ≤ 6) := ⟨hn1, by omega⟩
          generalize hce : chkE 5 [] [] ps = ce at *
          have HCE : Hid (chkE 5 [] [] ps = ce) := hce
          clear hce hxb hpe hsw hbI hbB hG HQ hn1 hns
          by_cases hce0 : ce = 0
          · subst hce0
            go_wp2_with fail
            refine hck.mono ?_
            rintro e wD ⟨rfl, hbD⟩
            have hbI : Below w1.heap.size w1 wC := by obtain ⟨_, _, _, _, _, q, _⟩ := HI.out; exact q
            have HI1 : Hid (RI w1.heap.size bx w1 (.slice oa om od) ps wD) := HI.out.below hbD (Nat.le_refl _)
            have HV : Hid (0 < vtF ps) := chk_vt HCE.out
            have HPH : Hid (phi N ps ≤ 30) := phi_le hN5 HG.out
            have HNX1 : Hid (1 ≤ nx ∧ nx ≤ 6) := HNX.out
            clear hck y0 y1 y2 y3 y4 y5 HCE HI hbD hbI HNX
            go_wp2_with fail
            go_loopw [10, 12, 13, 14, 15, 16, 17] (fun nv i _ _ _ _ _ wr => ∃ k nx : Nat, k ≤ 30 ∧ i = .int .i64 (k : Int) ∧ nv = .int .u64 (nx : Int) ∧ 1 ≤ nx ∧ nx ≤ 6 + k ∧ Hid (∃ ps : List Pe, RI w1.heap.size bx w1 (.slice oa om od) ps wr ∧ GP ps nx ∧ 0 < vtF ps ∧ phi N ps + k ≤ 30)) (fun _ i _ _ _ _ _ _ => 40 - (intOf i).toNat)
            case atStart => exact ⟨0, nx, by omega, rfl, rfl, HNX1.out.1, HNX1.out.2, ⟨ps, HI1.out, HG.out, HV.out, HPH.out⟩⟩
            case round =>
              obtain ⟨k, nx, hk30, rfl, rfl, hn1, hnk, HQ⟩ := hrel
              generalize wr = wC at *
              clear HI1 HV HPH HNX1 HG
              have hk40 : (k : Int) < 40 := by omega
              obtain ⟨ps, hI, hG, hV, hPh⟩ := HQ.out
              have HI : Hid (RI w1.heap.size bx w1 (.slice oa om od) ps wC) := hI
              have HG : Hid (GP ps nx) := hG
              have HV : Hid (0 < vtF ps ∧ phi N ps + k ≤ 30) := ⟨hV, hPh⟩
              obtain ⟨pa, pc, hxb, hpe, hsw, hbI, hbB⟩ := hI
              obtain ⟨y0, y1, y2, y3, y4, y5, _⟩ := cells6 hxb
              have hal := ob_al wC (.cells (r9 (rR pa pc ps)) 42)
              have hkl := heap_new wC (.cells (r9 (rR pa pc ps)) 42)
              have hrv : RdRv (wC.alloc (.cells (r9 (rR pa pc ps)) 42)) (.slice (some ⟨wC.heap.size, 0, none⟩) 1 1) [rR pa pc ps] := rv_rd (B := 0) (ownsRow_lit hkl rfl rfl (Nat.zero_le _) (by show (1 : Nat) ≤ maxLen; unfold maxLen; omega)) (fun r hr => by
                obtain rfl := List.mem_singleton.1 hr
                exact ⟨Rd.nil _, Rd.nil _, (hpe.below hal (Nat.le_refl _)).rd⟩)
              have hrs : RdSw (wC.alloc (.cells (r9 (rR pa pc ps)) 42)) (.slice oa om od) (allS 5) := sw_rd (hsw.below hal (Nat.le_refl _))
              have hde := rest_call N hN1 hN5 hG hV hrs hrv
              have HBE : Hid (Below w.heap.size w (wC.alloc (.cells (r9 (rR pa pc ps)) 42))) := (HB1.out.trans (hbI.mono HB1.out.size)).trans (hal.mono (HB1.out.trans (hbI.mono HB1.out.size)).size)
              have HIE : Hid (RI w1.heap.size bx w1 (.slice oa om od) ps (wC.alloc (.cells (r9 (rR pa pc ps)) 42))) := HI.out.below hal (Nat.le_refl _)
              clear hrv hrs hal hkl hxb hpe hsw hbI hbB hG hV hPh HQ
              simp only [r9, rR] at hde HBE HIE
              go_wp2_with fail
              refine hde.mono ?_
              rintro e w5 ⟨v, os, rfl, hrest, how, hb5⟩
              have HBE5 : Hid (Below w.heap.size w w5) := HBE.out.trans (hb5.mono HBE.out.size)
              have HI5 : Hid (RI w1.heap.size bx w1 (.slice oa om od) ps w5) := HIE.out.below hb5 (Nat.le_refl _)
              clear hde y0 y1 y2 y3 y4 y5 HBE HIE HI
              have hcs : (os = [] ∧ vtF ps = N) ∨ ∃ o, os = [o] ∧ RestP N ps [o] := by
                cases hrest with
                | rest h => exact .inl ⟨rfl, h⟩
                | prom q a b c => exact .inr ⟨_, rfl, .prom q a b c⟩
                | add s a b c d => exact .inr ⟨_, rfl, .add s a b c d⟩
                | rem q a b c => exact .inr ⟨_, rfl, .rem q a b c⟩
              rcases hcs with ⟨rfl, hvt⟩ | ⟨o, rfl, hro⟩
              · obtain ⟨av, cv, rfl, _⟩ := row_reads how
                have HVT : Hid (vtF ps = N) := hvt
                have HGL : Hid (ps.length ≤ 5) := HG.out.len
                clear how hb5 hvt hrest HV HG
                obtain ⟨pa5, pc5, hxb, hpe, _, _, _⟩ := HI5.out
                have HPE : Hid (OwPe w1.heap.size w5 (.slice pa5 ps.length pc5) ps) := hpe
                obtain ⟨y0, y1, y2, y3, y4, y5, _⟩ := cells6 hxb
                have hl1 := HGL.out
                clear hxb hpe HI5
                generalize hpn : ps.length = pn at *
                have HPN : Hid (ps.length = pn) := hpn
                clear hpn
                go_wp2_with fail
                go_loopw [18, 19] (fun cv i wr => ∃ j : Nat, j ≤ pn ∧ i = .int .i64 (j : Int) ∧ cv = .int .i64 (vtF (ps.take j) : Int) ∧ wr = w5) (fun _ i _ => pn - (intOf i).toNat)
                case atStart => exact ⟨0, Nat.zero_le _, rfl, rfl, rfl⟩
                case round =>
                  obtain ⟨j, hj, rfl, rfl, hwr⟩ := hrel
                  subst hwr
                  by_cases hlt : j < pn
                  · have hlt' : j < ps.length := by rw [HPN.out]; exact hlt
                    have hji : (j : Int) < (pn : Int) := by omega
                    have HT : Hid (ps.take (j + 1) = ps.take j ++ [ps[j]]) := by show _ = _; rw [List.take_append_getElem hlt']
                    have HVB : Hid (vtF (ps.take j) ≤ 5) := by
                      have e1 : vtF (ps.take j) ≤ (ps.take j).length := List.length_filter_le _ _
                      rw [List.length_take] at e1
                      show _ ≤ _; omega
                    obtain ⟨ao', c', e, _, _, _, h4⟩ := HPE.out.rd
                    simp only [Value.slice.injEq] at e
                    obtain ⟨rfl, -, rfl⟩ := e
                    obtain ⟨a, rfl, hc⟩ := h4 j _ (List.getElem?_eq_getElem hlt')
                    clear h4
                    obtain ⟨c0, c1, c2⟩ := hc
                    have HVS := vtF_snoc (ps.take j) ps[j]
                    rw [← HT.out] at HVS
                    generalize ps[j] = pe at *
                    obtain ⟨p0, p1, p2⟩ := pe
                    simp only [] at c0 c1 c2 HVS
                    have hvb := HVB.out
                    generalize vtF (ps.take j) = vj at *
                    have HVS2 : Hid _ := HVS
                    clear HVS
                    cases p2 with
                    | false =>
                      go_wp2_with fail
                      exact ⟨⟨j + 1, by omega, by go_num, by rw [HVS2.out]; go_num, by first | rfl | trivial⟩, by simp [intOf]; omega⟩
                    | true =>
                      go_wp2_with fail
                      exact ⟨⟨j + 1, by omega, by go_num, by rw [HVS2.out]; rfl, by first | rfl | trivial⟩, by simp [intOf]; omega⟩
                  · have hv2 : vtF (ps.take j) = N := by
                      rw [List.take_of_length_le (by rw [HPN.out]; omega)]
                      exact HVT.out
                    rw [hv2]
                    go_wp2_with fail
                    go_ret
                    exact ⟨rfl, HBE5.out⟩
              · obtain ⟨g, cv, rfl, hcell⟩ : ∃ g c, v = .slice (some ⟨g, 0, none⟩) 1 c ∧ ∀ W, Below w5.heap.size w5 W → W.cell? ⟨g, 0, none⟩ = some (.int .i64 o.kind) ∧ W.cell? ⟨g, 1, none⟩ = some (.int .u64 (o.reg : Int)) ∧ W.cell? ⟨g, 2, none⟩ = some (.int .i64 o.store) ∧ W.cell? ⟨g, 3, none⟩ = some (.int .u64 (o.peer : Int)) ∧ W.cell? ⟨g, 4, none⟩ = some (.int .u64 (o.other : Int)) := or_cells how
                have HOC : Hid _ := hcell
                have hrn := rest_next hN1 hN5 HG.out HV.out.1 (by omega) (by omega) hro
                have HRN : Hid _ := hrn
                obtain ⟨pa5, pc5, hxb, hpe, hsw, hbI, hbB⟩ := HI5.out
                have HX5 : Hid (∀ W, Below w5.heap.size w5 W → W.heap[bx]? = some (.cells #[.int .u64 5, .slice none 0 0, .slice none 0 0, .int .u64 1, .int .u64 1, .slice pa5 ps.length pc5] 40 (0, 0))) := fun W hW => keep_blk hxb hW
                have HPE : Hid (OwPe w1.heap.size w5 (.slice pa5 ps.length pc5) ps) := hpe
                have HGL : Hid (ps.length ≤ 5) := HG.out.len
                have HPR : Hid (∀ W, Below w5.heap.size w5 W → RdPe W (.slice pa5 ps.length pc5) ps) := fun W hW => hpe.rd.below hW (Nat.le_refl _)
                have HPE2 : Hid (∀ W, Below w5.heap.size w5 W → OwPe w1.heap.size W (.slice pa5 ps.length pc5) ps) := fun W hW => hpe.below hW (Nat.le_refl _)
                have HSTP : Hid (o.kind = 1 ∨ o.kind = 2 ∨ (o.kind = 3 ∧ o.store ≠ 0 ∧ o.peer ≠ 0 ∧ ps.any (namF o.store o.peer) = true)) := rest_stp HG.out hrn.2.2.2
                have HS5 : Hid (w1.heap.size ≤ w5.heap.size) := hbI.size
                have hkd : o.kind = 1 ∨ o.kind = 2 ∨ o.kind = 3 := by rcases hrn.2.2.2 with h | h | h <;> simp [h.1]
                have hol0 : OwPe w5.heap.size w5 (.slice none 0 0) (rsT o (ps.take 0)) := OwPe.nil _ _
                have hk39 : ((k : Int) == 39) = false := beq_eq_false_iff_ne.2 (by omega)
                have hy5 := (cells6 hxb).2.2.2.2.2.1
                clear how hro hrest hrn hxb hpe hsw hbI hbB hcell hb5
                generalize hpn : ps.length = pn at *
                have HPN : Hid (ps.length = pn) := hpn
                clear hpn
                have hpn5 : pn ≤ 5 := HGL.out
                go_upto_region 27 with fail
                clear hk39
                go_wp2_with fail
                go_loopw [14, 15, 16] (fun lv i _ wr => ∃ j : Nat, j ≤ pn ∧ i = .int .i64 (j : Int) ∧ (∃ a m d, lv = .slice a m d) ∧ Hid (OwPe w5.heap.size wr lv (rsT o (ps.take j))) ∧ Hid (Below w5.heap.size w5 wr)) (fun _ i _ _ => pn - (intOf i).toNat)
                case atStart => exact ⟨0, Nat.zero_le _, rfl, ⟨_, _, _, rfl⟩, hol0, Below.refl _ _⟩
                case round =>
                  obtain ⟨j, hj, rfl, ⟨la, lm, ld, rfl⟩, HL, HBJ⟩ := hrel
                  generalize wr = wI at *
                  clear hol0 hy5
                  have y5 := (cells6 (HX5.out wI HBJ.out)).2.2.2.2.2.1
                  by_cases hlt : j < pn
                  · have hlt' : j < ps.length := by rw [HPN.out]; exact hlt
                    have hji : (j : Int) < (pn : Int) := by omega
                    have HT : Hid (ps.take (j + 1) = ps.take j ++ [ps[j]]) := by show _ = _; rw [List.take_append_getElem hlt']
                    obtain ⟨ao', c', e, _, _, _, h4⟩ := HPE.out.rd.below HBJ.out (Nat.le_refl _)
                    simp only [Value.slice.injEq] at e
                    obtain ⟨rfl, -, rfl⟩ := e
                    obtain ⟨a, rfl, hc⟩ := h4 j _ (List.getElem?_eq_getElem hlt')
                    clear h4
                    obtain ⟨c0, c1, c2⟩ := hc
                    have HRS : Hid (rsT o (ps.take (j + 1)) = rsT o (ps.take j) ++ rsS o ps[j]) := by show _ = _; rw [HT.out, rsT_snoc]
                    generalize ps[j] = pe at *
                    obtain ⟨p0, p1, p2⟩ := pe
                    simp only [] at c0 c1 c2
                    have hbq := ob_al wI (.cells #[.int .u64 (p0.toNat : Int), .int .i64 p1, .bool p2] 44)
                    have hkq := heap_new wI (.cells #[.int .u64 (p0.toNat : Int), .int .i64 p1, .bool p2] 44)
                    have HL1 : Hid (OwPe w5.heap.size (wI.alloc (.cells #[.int .u64 (p0.toNat : Int), .int .i64 p1, .bool p2] 44)) (.slice la lm ld) (rsT o (ps.take j))) := HL.out.below hbq (Nat.le_refl _)
                    have HBX : Hid (Below w5.heap.size w5 (wI.alloc (.cells #[.int .u64 (p0.toNat : Int), .int .i64 p1, .bool p2] 44))) := HBJ.out.trans (hbq.mono HBJ.out.size)
                    have hsI : w5.heap.size ≤ wI.heap.size := HBJ.out.size
                    have hll : ∀ b, Value.ownBlock (.slice la lm ld) = some b → b < wI.heap.size := fun b q => (World.ownsRow.lt HL.out b q).2
                    have HLN : Hid ((rsT o (ps.take j)).length + 1 ≤ 1099511627776) := rsT_small o _ (by rw [List.length_take]; have := HGL.out; omega)
                    clear HL HBJ hbq
                    go_upto_region 31 with fail
                    generalize wI.alloc _ = wx at *
                    generalize wI.heap.size = bq at *
                    clear y5 c0 c1 c2
                    obtain ⟨q0, q1, q2, qf⟩ := cells3 hkq
                    obtain ⟨o0, o1, o2, o3, o4⟩ := HOC.out wx HBX.out
                    have hrs0 : o.kind ≠ 3 → o.kind ≠ 2 → rsS o (p0, p1, p2) = [(p0, p1, p2)] := fun a b => by unfold rsS; rw [if_neg (fun e => a e.1), if_neg (fun e => b e.1)]
                    have hrs1 : p0.toNat ≠ o.peer → rsS o (p0, p1, p2) = [(p0, p1, p2)] := fun a => by unfold rsS; rw [if_neg (fun e => a e.2), if_neg (fun e => a e.2)]
                    have hrs2 : o.kind = 2 → p0.toNat = o.peer → rsS o (p0, p1, p2) = [(p0, p1, false)] := fun a b => by unfold rsS; rw [if_neg (fun e => by rw [a] at e; exact absurd e.1 (by decide)), if_pos ⟨a, b⟩]
                    have hrs3 : o.kind = 3 → p0.toNat = o.peer → rsS o (p0, p1, p2) = [] := fun a b => by unfold rsS; rw [if_pos ⟨a, b⟩]
                    by_cases hid : p0.toNat = o.peer
                    · have z1 : ((p0.toNat : Int) == (o.peer : Int)) = true := by rw [hid]; simp
                      rcases hkd with hk | hk | hk
                      · have HR1 : Hid (rsS o (p0, p1, p2) = [(p0, p1, p2)]) := hrs0 (by rw [hk]; decide) (by rw [hk]; decide)
                        clear hrs0 hrs1 hrs2 hrs3 hid
                        rw [hk] at o0
                        go_quiet (fail)
                        go_wp2_with fail
                        have HBY : Hid (Below w5.heap.size w5 (wx.drewN nq)) := HBX.out.trans ((Below.dN wx nq).mono HBX.out.size)
                        have hkY := keep_blkT hkq (Below.dN wx nq)
                        have HLY : Hid (OwPe w5.heap.size (wx.drewN nq) (.slice la lm ld) (rsT o (ps.take j))) := HL1.out.below (Below.dN wx nq) (Nat.le_refl _)
                        clear q0 q1 q2 qf o0 o1 o2 o3 o4
                        generalize wx.drewN nq = wy at *
                        clear nq
                        obtain ⟨q0, q1, q2, qf⟩ := cells3 hkY
                        obtain ⟨o0, o1, o2, o3, o4⟩ := HOC.out wy HBY.out
                        rw [hk] at o0
                        go_quiet (fail)
                        go_upto_region 34 with fail
                        have HBZ : Hid (Below w5.heap.size w5 (wy.drewN nq)) := HBY.out.trans ((Below.dN wy nq).mono HBY.out.size)
                        have hkZ := keep_blkT hkY (Below.dN wy nq)
                        have HLZ : Hid (OwPe w5.heap.size (wy.drewN nq) (.slice la lm ld) (rsT o (ps.take j))) := HLY.out.below (Below.dN wy nq) (Nat.le_refl _)
                        clear q0 q1 q2 qf o0 o1 o2 o3 o4
                        generalize wy.drewN nq = wz at *
                        clear nq
                        obtain ⟨q0, q1, q2, qf⟩ := cells3 hkZ
                        obtain ⟨o0, o1, o2, o3, o4⟩ := HOC.out wz HBZ.out
                        rw [hk] at o0
                        have hsz : w5.heap.size ≤ wz.heap.size := HBZ.out.size
                        go_wp2_with (first | (at_builtin; refine wpList_appPe rfl _ _ rfl w5.heap.size _ (rsT o (ps.take j)) rfl (HLZ.out.below (ob_al wz _) (Nat.le_refl _)) _ [(p0, p1, p2)] rfl (rdpe_1 (heap_new wz _)) ?hx3 ?hx4 ?_; rotate_right; (intro v9 w9 ho9 hg9 hw9; have hb9 : Below w5.heap.size (wz.alloc (.cells #[.int .u64 (p0.toNat : Int), .int .i64 p1, .bool p2] 44)) w9 := (Below.refl _ _).grown hg9 (by rw [World.size_alloc]; exact Nat.le_succ_of_le hsz) (fun j e => (World.ownsRow.lt HLZ.out j e).1); obtain ⟨a9, m9, d9, rfl⟩ := row_shape ho9)) | fail)
                        case hx3 => rw [World.size_alloc]; exact Nat.le_succ_of_le hsz
                        case hx4 => exact HLN.out
                        exact ⟨⟨j + 1, by omega, by go_num, ⟨_, _, _, rfl⟩, by show OwPe _ _ _ _; rw [HRS.out, HR1.out]; exact ho9, (HBZ.out.trans ((ob_al wz _).mono hsz)).trans hb9⟩, by simp [intOf]; omega⟩
                      · have HR1 : Hid (rsS o (p0, p1, p2) = [(p0, p1, false)]) := hrs2 hk hid
                        clear hrs0 hrs1 hrs2 hrs3 hid
                        rw [hk] at o0
                        go_quiet (fail)
                        go_wp2_with fail
                        have HBY : Hid (Below w5.heap.size w5 (wx.drewN nq)) := HBX.out.trans ((Below.dN wx nq).mono HBX.out.size)
                        have hkY := keep_blkT hkq (Below.dN wx nq)
                        have HLY : Hid (OwPe w5.heap.size (wx.drewN nq) (.slice la lm ld) (rsT o (ps.take j))) := HL1.out.below (Below.dN wx nq) (Nat.le_refl _)
                        clear q0 q1 q2 qf o0 o1 o2 o3 o4
                        generalize wx.drewN nq = wy at *
                        clear nq
                        obtain ⟨q0, q1, q2, qf⟩ := cells3 hkY
                        obtain ⟨o0, o1, o2, o3, o4⟩ := HOC.out wy HBY.out
                        rw [hk] at o0
                        go_quiet (fail)
                        go_upto_region 33 with fail
                        have HBZ : Hid (Below w5.heap.size w5 (wy.drewN nq)) := HBY.out.trans ((Below.dN wy nq).mono HBY.out.size)
                        have hkZ := keep_blkT hkY (Below.dN wy nq)
                        have HLZ : Hid (OwPe w5.heap.size (wy.drewN nq) (.slice la lm ld) (rsT o (ps.take j))) := HLY.out.below (Below.dN wy nq) (Nat.le_refl _)
                        clear q0 q1 q2 qf o0 o1 o2 o3 o4
                        generalize wy.drewN nq = wz at *
                        clear nq
                        obtain ⟨q0, q1, q2, qf⟩ := cells3 hkZ
                        obtain ⟨o0, o1, o2, o3, o4⟩ := HOC.out wz HBZ.out
                        rw [hk] at o0
                        have qf2 := qf 2
                        have hch := chg_p bq 2 (.bool false) wz
                        have hkV : (wz.setCell ⟨bq, 2, none⟩ (.bool false)).heap[bq]? = some (.cells #[.int .u64 (p0.toNat : Int), .int .i64 p1, .bool false] 44 (0, 0)) := by rw [heap_setCell_same _ _ 2 _ _ _ hkZ]; rfl
                        have HBZ2 : Hid (Below w5.heap.size w5 (wz.setCell ⟨bq, 2, none⟩ (.bool false))) := HBZ.out.trans (hch.below (fun q e => by rw [e]; exact hsI) HBZ.out.size)
                        have HLZ2 : Hid (OwPe w5.heap.size (wz.setCell ⟨bq, 2, none⟩ (.bool false)) (.slice la lm ld) (rsT o (ps.take j))) := ownsRow_keptC HLZ.out hch (fun b e1 e2 => by have := hll b e1; omega)
                        go_upto_region 34 with fail
                        generalize wz.setCell _ _ = wv at *
                        clear q0 q1 q2 qf qf2 o0 o1 o2 o3 o4 hch
                        obtain ⟨q0, q1, q2, qf⟩ := cells3 hkV
                        have hsz : w5.heap.size ≤ wv.heap.size := HBZ2.out.size
                        go_wp2_with (first | (at_builtin; refine wpList_appPe rfl _ _ rfl w5.heap.size _ (rsT o (ps.take j)) rfl (HLZ2.out.below (ob_al wv _) (Nat.le_refl _)) _ [(p0, p1, false)] rfl (rdpe_1 (heap_new wv _)) ?hx3 ?hx4 ?_; rotate_right; (intro v9 w9 ho9 hg9 hw9; have hb9 : Below w5.heap.size (wv.alloc (.cells #[.int .u64 (p0.toNat : Int), .int .i64 p1, .bool false] 44)) w9 := (Below.refl _ _).grown hg9 (by rw [World.size_alloc]; exact Nat.le_succ_of_le hsz) (fun j e => (World.ownsRow.lt HLZ2.out j e).1); obtain ⟨a9, m9, d9, rfl⟩ := row_shape ho9)) | fail)
                        case hx3 => rw [World.size_alloc]; exact Nat.le_succ_of_le hsz
                        case hx4 => exact HLN.out
                        exact ⟨⟨j + 1, by omega, by go_num, ⟨_, _, _, rfl⟩, by show OwPe _ _ _ _; rw [HRS.out, HR1.out]; exact ho9, (HBZ2.out.trans ((ob_al wv _).mono hsz)).trans hb9⟩, by simp [intOf]; omega⟩
                      · have HR1 : Hid (rsS o (p0, p1, p2) = []) := hrs3 hk hid
                        clear hrs0 hrs1 hrs2 hrs3 hid
                        rw [hk] at o0
                        go_quiet (fail)
                        go_wp2_with fail
                        exact ⟨⟨j + 1, by omega, by go_num, ⟨_, _, _, rfl⟩, by show OwPe _ _ _ _; rw [HRS.out, HR1.out, List.append_nil]; exact HL1.out.below (Below.dN wx nq) (Nat.le_refl _), HBX.out.trans ((Below.dN wx nq).mono HBX.out.size)⟩, by simp [intOf]; omega⟩
                    · have z1 : ((p0.toNat : Int) == (o.peer : Int)) = false := beq_eq_false_iff_ne.2 (by omega)
                      rcases hkd with hk | hk | hk
                      · have HR1 : Hid (rsS o (p0, p1, p2) = [(p0, p1, p2)]) := hrs0 (by rw [hk]; decide) (by rw [hk]; decide)
                        clear hrs0 hrs1 hrs2 hrs3 hid
                        rw [hk] at o0
                        go_quiet (fail)
                        go_wp2_with fail
                        have HBY : Hid (Below w5.heap.size w5 (wx.drewN nq)) := HBX.out.trans ((Below.dN wx nq).mono HBX.out.size)
                        have hkY := keep_blkT hkq (Below.dN wx nq)
                        have HLY : Hid (OwPe w5.heap.size (wx.drewN nq) (.slice la lm ld) (rsT o (ps.take j))) := HL1.out.below (Below.dN wx nq) (Nat.le_refl _)
                        clear q0 q1 q2 qf o0 o1 o2 o3 o4
                        generalize wx.drewN nq = wy at *
                        clear nq
                        obtain ⟨q0, q1, q2, qf⟩ := cells3 hkY
                        obtain ⟨o0, o1, o2, o3, o4⟩ := HOC.out wy HBY.out
                        rw [hk] at o0
                        go_quiet (fail)
                        go_upto_region 34 with fail
                        have HBZ : Hid (Below w5.heap.size w5 (wy.drewN nq)) := HBY.out.trans ((Below.dN wy nq).mono HBY.out.size)
                        have hkZ := keep_blkT hkY (Below.dN wy nq)
                        have HLZ : Hid (OwPe w5.heap.size (wy.drewN nq) (.slice la lm ld) (rsT o (ps.take j))) := HLY.out.below (Below.dN wy nq) (Nat.le_refl _)
                        clear q0 q1 q2 qf o0 o1 o2 o3 o4
                        generalize wy.drewN nq = wz at *
                        clear nq
                        obtain ⟨q0, q1, q2, qf⟩ := cells3 hkZ
                        obtain ⟨o0, o1, o2, o3, o4⟩ := HOC.out wz HBZ.out
                        rw [hk] at o0
                        have hsz : w5.heap.size ≤ wz.heap.size := HBZ.out.size
                        go_wp2_with (first | (at_builtin; refine wpList_appPe rfl _ _ rfl w5.heap.size _ (rsT o (ps.take j)) rfl (HLZ.out.below (ob_al wz _) (Nat.le_refl _)) _ [(p0, p1, p2)] rfl (rdpe_1 (heap_new wz _)) ?hx3 ?hx4 ?_; rotate_right; (intro v9 w9 ho9 hg9 hw9; have hb9 : Below w5.heap.size (wz.alloc (.cells #[.int .u64 (p0.toNat : Int), .int .i64 p1, .bool p2] 44)) w9 := (Below.refl _ _).grown hg9 (by rw [World.size_alloc]; exact Nat.le_succ_of_le hsz) (fun j e => (World.ownsRow.lt HLZ.out j e).1); obtain ⟨a9, m9, d9, rfl⟩ := row_shape ho9)) | fail)
                        case hx3 => rw [World.size_alloc]; exact Nat.le_succ_of_le hsz
                        case hx4 => exact HLN.out
                        exact ⟨⟨j + 1, by omega, by go_num, ⟨_, _, _, rfl⟩, by show OwPe _ _ _ _; rw [HRS.out, HR1.out]; exact ho9, (HBZ.out.trans ((ob_al wz _).mono hsz)).trans hb9⟩, by simp [intOf]; omega⟩
                      · have HR1 : Hid (rsS o (p0, p1, p2) = [(p0, p1, p2)]) := hrs1 hid
                        clear hrs0 hrs1 hrs2 hrs3 hid
                        rw [hk] at o0
                        go_quiet (fail)
                        go_wp2_with fail
                        have HBY : Hid (Below w5.heap.size w5 (wx.drewN nq)) := HBX.out.trans ((Below.dN wx nq).mono HBX.out.size)
                        have hkY := keep_blkT hkq (Below.dN wx nq)
                        have HLY : Hid (OwPe w5.heap.size (wx.drewN nq) (.slice la lm ld) (rsT o (ps.take j))) := HL1.out.below (Below.dN wx nq) (Nat.le_refl _)
                        clear q0 q1 q2 qf o0 o1 o2 o3 o4
                        generalize wx.drewN nq = wy at *
                        clear nq
                        obtain ⟨q0, q1, q2, qf⟩ := cells3 hkY
                        obtain ⟨o0, o1, o2, o3, o4⟩ := HOC.out wy HBY.out
                        rw [hk] at o0
                        go_quiet (fail)
                        go_upto_region 34 with fail
                        have HBZ : Hid (Below w5.heap.size w5 (wy.drewN nq)) := HBY.out.trans ((Below.dN wy nq).mono HBY.out.size)
                        have hkZ := keep_blkT hkY (Below.dN wy nq)
                        have HLZ : Hid (OwPe w5.heap.size (wy.drewN nq) (.slice la lm ld) (rsT o (ps.take j))) := HLY.out.below (Below.dN wy nq) (Nat.le_refl _)
                        clear q0 q1 q2 qf o0 o1 o2 o3 o4
                        generalize wy.drewN nq = wz at *
                        clear nq
                        obtain ⟨q0, q1, q2, qf⟩ := cells3 hkZ
                        obtain ⟨o0, o1, o2, o3, o4⟩ := HOC.out wz HBZ.out
                        rw [hk] at o0
                        have hsz : w5.heap.size ≤ wz.heap.size := HBZ.out.size
                        go_wp2_with (first | (at_builtin; refine wpList_appPe rfl _ _ rfl w5.heap.size _ (rsT o (ps.take j)) rfl (HLZ.out.below (ob_al wz _) (Nat.le_refl _)) _ [(p0, p1, p2)] rfl (rdpe_1 (heap_new wz _)) ?hx3 ?hx4 ?_; rotate_right; (intro v9 w9 ho9 hg9 hw9; have hb9 : Below w5.heap.size (wz.alloc (.cells #[.int .u64 (p0.toNat : Int), .int .i64 p1, .bool p2] 44)) w9 := (Below.refl _ _).grown hg9 (by rw [World.size_alloc]; exact Nat.le_succ_of_le hsz) (fun j e => (World.ownsRow.lt HLZ.out j e).1); obtain ⟨a9, m9, d9, rfl⟩ := row_shape ho9)) | fail)
                        case hx3 => rw [World.size_alloc]; exact Nat.le_succ_of_le hsz
                        case hx4 => exact HLN.out
                        exact ⟨⟨j + 1, by omega, by go_num, ⟨_, _, _, rfl⟩, by show OwPe _ _ _ _; rw [HRS.out, HR1.out]; exact ho9, (HBZ.out.trans ((ob_al wz _).mono hsz)).trans hb9⟩, by simp [intOf]; omega⟩
                      · have HR1 : Hid (rsS o (p0, p1, p2) = [(p0, p1, p2)]) := hrs1 hid
                        clear hrs0 hrs1 hrs2 hrs3 hid
                        rw [hk] at o0
                        go_quiet (fail)
                        go_wp2_with fail
                        have HBY : Hid (Below w5.heap.size w5 (wx.drewN nq)) := HBX.out.trans ((Below.dN wx nq).mono HBX.out.size)
                        have hkY := keep_blkT hkq (Below.dN wx nq)
                        have HLY : Hid (OwPe w5.heap.size (wx.drewN nq) (.slice la lm ld) (rsT o (ps.take j))) := HL1.out.below (Below.dN wx nq) (Nat.le_refl _)
                        clear q0 q1 q2 qf o0 o1 o2 o3 o4
                        generalize wx.drewN nq = wy at *
                        clear nq
                        obtain ⟨q0, q1, q2, qf⟩ := cells3 hkY
                        obtain ⟨o0, o1, o2, o3, o4⟩ := HOC.out wy HBY.out
                        rw [hk] at o0
                        go_quiet (fail)
                        go_upto_region 34 with fail
                        have HBZ : Hid (Below w5.heap.size w5 (wy.drewN nq)) := HBY.out.trans ((Below.dN wy nq).mono HBY.out.size)
                        have hkZ := keep_blkT hkY (Below.dN wy nq)
                        have HLZ : Hid (OwPe w5.heap.size (wy.drewN nq) (.slice la lm ld) (rsT o (ps.take j))) := HLY.out.below (Below.dN wy nq) (Nat.le_refl _)
                        clear q0 q1 q2 qf o0 o1 o2 o3 o4
                        generalize wy.drewN nq = wz at *
                        clear nq
                        obtain ⟨q0, q1, q2, qf⟩ := cells3 hkZ
                        obtain ⟨o0, o1, o2, o3, o4⟩ := HOC.out wz HBZ.out
                        rw [hk] at o0
                        have hsz : w5.heap.size ≤ wz.heap.size := HBZ.out.size
                        go_wp2_with (first | (at_builtin; refine wpList_appPe rfl _ _ rfl w5.heap.size _ (rsT o (ps.take j)) rfl (HLZ.out.below (ob_al wz _) (Nat.le_refl _)) _ [(p0, p1, p2)] rfl (rdpe_1 (heap_new wz _)) ?hx3 ?hx4 ?_; rotate_right; (intro v9 w9 ho9 hg9 hw9; have hb9 : Below w5.heap.size (wz.alloc (.cells #[.int .u64 (p0.toNat : Int), .int .i64 p1, .bool p2] 44)) w9 := (Below.refl _ _).grown hg9 (by rw [World.size_alloc]; exact Nat.le_succ_of_le hsz) (fun j e => (World.ownsRow.lt HLZ.out j e).1); obtain ⟨a9, m9, d9, rfl⟩ := row_shape ho9)) | fail)
                        case hx3 => rw [World.size_alloc]; exact Nat.le_succ_of_le hsz
                        case hx4 => exact HLN.out
                        exact ⟨⟨j + 1, by omega, by go_num, ⟨_, _, _, rfl⟩, by show OwPe _ _ _ _; rw [HRS.out, HR1.out]; exact ho9, (HBZ.out.trans ((ob_al wz _).mono hsz)).trans hb9⟩, by simp [intOf]; omega⟩
                  · have HLE : Hid (OwPe w5.heap.size wI (.slice la lm ld) (rsT o ps)) := by
                      have := HL.out
                      rw [List.take_of_length_le (by rw [HPN.out]; omega)] at this
                      exact this
                    have hsI : w5.heap.size ≤ wI.heap.size := HBJ.out.size
                    have HLN : Hid ((rsT o ps).length + 1 ≤ 1099511627776) := rsT_small o _ (by rw [HPN.out]; exact hpn5)
                    obtain ⟨o0, o1, o2, o3, o4⟩ := HOC.out wI HBJ.out
                    have hnn : ((UInt64.ofNat nx).toNat : Int) = (nx : Int) := by rw [UInt64.toNat_ofNat']; omega
                    clear HL
                    have HRL : Hid (kindP o) := hkd
                    rcases hkd with hk | hk | hk
                    · rw [hk] at o0
                      have HRS : Hid (rsN o ps nx = rsT o ps ++ [(UInt64.ofNat nx, o.store, true)]) := by show _ = _; unfold rsN; rw [if_pos hk]
                      have hlr : Hid ((if o.kind = 1 then nx + 1 else nx) = nx + 1) := if_pos hk
                      go_wp2_with (first | (at_builtin; refine wpList_appPe rfl _ _ rfl w5.heap.size _ (rsT o ps) rfl (HLE.out.below (ob_al wI _) (Nat.le_refl _)) _ [(UInt64.ofNat nx, o.store, true)] rfl (rdpe_z2 (heap_new wI _) hnn.symm) ?hx5 ?hx6 ?_; rotate_right; (intro v9 w9 ho9 hg9 hw9; have hb9 : Below w5.heap.size (wI.alloc (.cells #[.int .u64 (nx : Int), .int .i64 o.store, .bool true] 44)) w9 := (Below.refl _ _).grown hg9 (by rw [World.size_alloc]; exact Nat.le_succ_of_le hsI) (fun j e => (World.ownsRow.lt HLE.out j e).1); obtain ⟨a9, m9, d9, rfl⟩ := row_shape ho9)) | fail)
                      case hx5 => rw [World.size_alloc]; exact Nat.le_succ_of_le hsI
                      case hx6 => exact HLN.out
                      have HOWN : Hid (OwPe w5.heap.size w9 (.slice a9 m9 d9) (rsN o ps nx)) := by show OwPe _ _ _ _; rw [HRS.out]; exact ho9
                      have HBT : Hid (Below w5.heap.size w5 w9) := (HBJ.out.trans ((ob_al wI _).mono hsI)).trans hb9
                      clear ho9 hg9 hw9 hb9 HLE o0 o1 o2 o3 o4 hnn HRS
                      have HSO : Hid (∀ W, Below w5.heap.size w5 W → Calls Tryz.prog 14 #[.agg #[.int .i64 o.kind, .int .u64 (o.reg : Int), .int .i64 o.store, .int .u64 (o.peer : Int), .int .u64 (o.other : Int)], .agg #[.int .u64 5, .slice none 0 0, .slice none 0 0, .int .u64 1, .int .u64 1, .slice pa5 pn pc5]] W fun e w' => StpA W (if o.kind = 1 then (pn : Int) + 1 else if o.kind = 2 then (pn : Int) else (pn : Int) - 1) e w') := fun W hW => by
                        have h := steps_any (w := W) o (id := 5) (cf := 1) (vr := 1) (sv0 := .slice none 0 0) (ev0 := .slice none 0 0) (pa := pa5) (pc := pc5) (ps := ps) (by rw [HPN.out]; exact HPR.out _ hW) (by rw [HPN.out]; omega) rfl rfl HSTP.out
                        rw [HPN.out] at h
                        exact h
                      go_upto_region 38 with fail
                      have HK : Hid _ := hk
                      clear hk
                      refine wp_region_heldN (S := fun W => Below w5.heap.size w5 W) (L := []) (by kernel_rfl) ?_
                      have hT0 : Below w5.heap.size w5 w9.drew := HBT.out.drew
                      have HOWN0 : Hid (OwPe w5.heap.size w9.drew (.slice a9 m9 d9) (rsN o ps nx)) := HOWN.out.below (Below.dN w9 1) (Nat.le_refl _)
                      generalize w9.drew = wd at *
                      refine wpAnyN_take (i := 0) (v := .slice (some ⟨g, 0, none⟩) 1 cv) rfl (by kernel_rfl) (by kernel_rfl) (by kernel_rfl) (by kernel_rfl) (fun _ _ _ h => h) (.inl ⟨by kernel_rfl, fun W hW => by kernel_rfl⟩) hT0 ?_
                      refine wpAnyN_take (i := 1) (v := .pointer (some ⟨g, 0, none⟩)) rfl (by kernel_rfl) (by kernel_rfl) (by kernel_rfl) (by kernel_rfl) (fun _ _ _ h => h) (.inl ⟨by kernel_rfl, fun W hW => by go_simp⟩) hT0 ?_
                      refine wpAnyN_take (i := 2) (v := .agg #[.int .i64 o.kind, .int .u64 (o.reg : Int), .int .i64 o.store, .int .u64 (o.peer : Int), .int .u64 (o.other : Int)]) rfl (by kernel_rfl) (by kernel_rfl) (by kernel_rfl) (by kernel_rfl) (fun _ _ _ h => h) (.inl ⟨by kernel_rfl, fun W hW => by obtain ⟨u0, u1, u2, u3, u4⟩ := HOC.out W hW; go_simp⟩) hT0 ?_
                      refine wpAnyN_take (i := 3) (v := .agg #[.int .u64 5, .slice none 0 0, .slice none 0 0, .int .u64 1, .int .u64 1, .slice pa5 pn pc5]) rfl (by kernel_rfl) (by kernel_rfl) (by kernel_rfl) (by kernel_rfl) (fun _ _ _ h => h) (.inl ⟨by kernel_rfl, fun W hW => by obtain ⟨u0, u1, u2, u3, u4, u5, _⟩ := cells6 (HX5.out W hW); go_simp⟩) hT0 ?_
                      refine wpAnyN_one (i := 4) (by kernel_rfl) rfl (fun K hK => ?_)
                      rw [if_pos (by kernel_rfl)]
                      go_simp
                      refine (HSO.out wd hT0).mono ?_
                      rintro e wS ⟨gs, rfl, hgs, hgn, hbS⟩
                      have hT1 := hT0.trans (hbS.mono hT0.size)
                      refine hK _ _ (fun _ => hT1) ?_
                      clear hK K
                      refine wpAnyN_take (i := 5) (v := .slice (some ⟨gs, 0, none⟩) 2 2) rfl (by kernel_rfl) (by kernel_rfl) (by kernel_rfl) (by kernel_rfl) (fun _ _ _ h => h) (.inl ⟨by kernel_rfl, fun W hW => by kernel_rfl⟩) hT1 ?_
                      refine ⟨by kernel_rfl, ?_⟩
                      go_simp
                      have HOWS : Hid (OwPe w5.heap.size wS (.slice a9 m9 d9) (rsN o ps nx)) := HOWN0.out.below hbS (Nat.le_refl _)
                      have hxS := HX5.out wS hT1
                      have HNEW : Hid (RI w1.heap.size bx w1 (.slice oa om od) (rsN o ps nx) (wS.setCell ⟨bx, 5, none⟩ (.slice a9 m9 d9))) := RI.put (pa := pa5) (pc := pc5) HI5.out (Nat.le_refl _) hT1 (by rw [HPN.out]; exact HPE2.out wS hT1) (OwPe.monoR HOWS.out HS5.out) (Chg.refl _ _) ⟨_, hxS⟩
                      obtain ⟨t0, t1, t2, t3, t4, t5, tf⟩ := cells6 hxS
                      have tf5 := tf 5
                      obtain ⟨hG2, hV2, hP2, hl2⟩ := HRN.out
                      have hml : (if o.kind = 1 then (pn : Int) + 1 else if o.kind = 2 then (pn : Int) else (pn : Int) - 1) = ((rsN o ps nx).length : Int) := by
                        rcases hl2 with ⟨q, r⟩ | ⟨q, r⟩ | ⟨q, r, _⟩ <;> rw [q] <;> simp <;> omega
                      have HGV : Hid (GP (rsN o ps nx) (if o.kind = 1 then nx + 1 else nx) ∧ 0 < vtF (rsN o ps nx) ∧ phi N (rsN o ps nx) + 1 ≤ phi N ps) := ⟨hG2, hV2, hP2⟩
                      have hgs2 : (wS.setCell ⟨bx, 5, none⟩ (.slice a9 m9 d9)).cell? ⟨gs, 0, none⟩ = some (.int .i64 ((rsN o ps nx).length : Int)) := by
                        rw [← hml, ← hgs]
                        have hne : gs ≠ bx := fun q => by have h1 := (Array.getElem?_eq_some_iff.1 (HX5.out wd hT0)).1; omega
                        have hbk := (chg_p bx 5 ((.slice a9 m9 d9)) wS).block gs (World.block_lt_of_cell? wS _ hgs) hne
                        simp only [World.cell?, hbk]
                      obtain ⟨qa, qc, hqe, _⟩ := row_reads HOWS.out
                      simp only [Value.slice.injEq] at hqe
                      obtain ⟨rfl, rfl, rfl⟩ := hqe
                      have hck0 := hG2.chk hV2
                      have HGS : Hid _ := hgs2
                      clear hgs2 hgs hgn hml hbS hT0 hT1
                      go_upto_region 40 with fail
                      generalize wS.setCell _ _ = wT at *
                      clear t0 t1 t2 t3 t4 t5 tf tf5 hxS
                      obtain ⟨paT, pcT, hxT, hpT, _, _, _⟩ := HNEW.out
                      obtain ⟨t0, t1, t2, t3, t4, t5, _⟩ := cells6 hxT
                      have hck := check_any (id := 5) (cf := 1) (vr := 1) (Rd.nil wT) (Rd.nil wT) hpT.rd
                      rw [hck0] at hck
                      have hgs3 := HGS.out
                      clear hck0 hxT hpT hG2 hV2 hP2 hl2
                      generalize hrl : (rsN o ps nx).length = rl at *
                      clear hrl
                      go_wp2_with fail
                      refine hck.mono ?_
                      rintro e wU ⟨rfl, hbU⟩
                      have HNU : Hid (RI w1.heap.size bx w1 (.slice oa om od) (rsN o ps nx) wU) := HNEW.out.below hbU (Nat.le_refl _)
                      have hfin : k + 1 ≤ 30 ∧ phi N (rsN o ps nx) + (k + 1) ≤ 30 := by
                        have e1 := HV.out.2
                        have e2 := HGV.out.2.2
                        omega
                      have hgnx : GP (rsN o ps nx) (nx + 1) := by have q := HGV.out.1; rw [hlr.out] at q; exact q
                      clear hck t0 t1 t2 t3 t4 t5 hgs3
                      go_wp2_with fail
                      exact ⟨⟨k + 1, nx + 1, hfin.1, by go_num, by first | rfl | go_num, by omega, by omega, ⟨rsN o ps nx, HNU.out, hgnx, HGV.out.2.1, hfin.2⟩⟩, by simp [intOf]; omega⟩
                    · rw [hk] at o0
                      have HRS : Hid (rsN o ps nx = rsT o ps) := by show _ = _; unfold rsN; rw [if_neg (by rw [hk]; decide), List.append_nil]
                      have hlr : Hid ((if o.kind = 1 then nx + 1 else nx) = nx) := if_neg (by rw [hk]; decide)
                      have HOWN : Hid (OwPe w5.heap.size wI (.slice la lm ld) (rsN o ps nx)) := by show OwPe _ _ _ _; rw [HRS.out]; exact HLE.out
                      have HBT : Hid (Below w5.heap.size w5 wI) := HBJ.out
                      clear HLE o1 o2 o3 o4 hnn HRS
                      go_upto_region 38 with fail
                      clear o0
                      have HSO : Hid (∀ W, Below w5.heap.size w5 W → Calls Tryz.prog 14 #[.agg #[.int .i64 o.kind, .int .u64 (o.reg : Int), .int .i64 o.store, .int .u64 (o.peer : Int), .int .u64 (o.other : Int)], .agg #[.int .u64 5, .slice none 0 0, .slice none 0 0, .int .u64 1, .int .u64 1, .slice pa5 pn pc5]] W fun e w' => StpA W (if o.kind = 1 then (pn : Int) + 1 else if o.kind = 2 then (pn : Int) else (pn : Int) - 1) e w') := fun W hW => by
                        have h := steps_any (w := W) o (id := 5) (cf := 1) (vr := 1) (sv0 := .slice none 0 0) (ev0 := .slice none 0 0) (pa := pa5) (pc := pc5) (ps := ps) (by rw [HPN.out]; exact HPR.out _ hW) (by rw [HPN.out]; omega) rfl rfl HSTP.out
                        rw [HPN.out] at h
                        exact h
                      have HK : Hid _ := hk
                      clear hk
                      refine wp_region_heldN (S := fun W => Below w5.heap.size w5 W) (L := []) (by kernel_rfl) ?_
                      have hT0 : Below w5.heap.size w5 wI.drew := HBT.out.drew
                      have HOWN0 : Hid (OwPe w5.heap.size wI.drew (.slice la lm ld) (rsN o ps nx)) := HOWN.out.below (Below.dN wI 1) (Nat.le_refl _)
                      generalize wI.drew = wd at *
                      refine wpAnyN_take (i := 0) (v := .slice (some ⟨g, 0, none⟩) 1 cv) rfl (by kernel_rfl) (by kernel_rfl) (by kernel_rfl) (by kernel_rfl) (fun _ _ _ h => h) (.inl ⟨by kernel_rfl, fun W hW => by kernel_rfl⟩) hT0 ?_
                      refine wpAnyN_take (i := 1) (v := .pointer (some ⟨g, 0, none⟩)) rfl (by kernel_rfl) (by kernel_rfl) (by kernel_rfl) (by kernel_rfl) (fun _ _ _ h => h) (.inl ⟨by kernel_rfl, fun W hW => by go_simp⟩) hT0 ?_
                      refine wpAnyN_take (i := 2) (v := .agg #[.int .i64 o.kind, .int .u64 (o.reg : Int), .int .i64 o.store, .int .u64 (o.peer : Int), .int .u64 (o.other : Int)]) rfl (by kernel_rfl) (by kernel_rfl) (by kernel_rfl) (by kernel_rfl) (fun _ _ _ h => h) (.inl ⟨by kernel_rfl, fun W hW => by obtain ⟨u0, u1, u2, u3, u4⟩ := HOC.out W hW; go_simp⟩) hT0 ?_
                      refine wpAnyN_take (i := 3) (v := .agg #[.int .u64 5, .slice none 0 0, .slice none 0 0, .int .u64 1, .int .u64 1, .slice pa5 pn pc5]) rfl (by kernel_rfl) (by kernel_rfl) (by kernel_rfl) (by kernel_rfl) (fun _ _ _ h => h) (.inl ⟨by kernel_rfl, fun W hW => by obtain ⟨u0, u1, u2, u3, u4, u5, _⟩ := cells6 (HX5.out W hW); go_simp⟩) hT0 ?_
                      refine wpAnyN_one (i := 4) (by kernel_rfl) rfl (fun K hK => ?_)
                      rw [if_pos (by kernel_rfl)]
                      go_simp
                      refine (HSO.out wd hT0).mono ?_
                      rintro e wS ⟨gs, rfl, hgs, hgn, hbS⟩
                      have hT1 := hT0.trans (hbS.mono hT0.size)
                      refine hK _ _ (fun _ => hT1) ?_
                      clear hK K
                      refine wpAnyN_take (i := 5) (v := .slice (some ⟨gs, 0, none⟩) 2 2) rfl (by kernel_rfl) (by kernel_rfl) (by kernel_rfl) (by kernel_rfl) (fun _ _ _ h => h) (.inl ⟨by kernel_rfl, fun W hW => by kernel_rfl⟩) hT1 ?_
                      refine ⟨by kernel_rfl, ?_⟩
                      go_simp
                      have HOWS : Hid (OwPe w5.heap.size wS (.slice la lm ld) (rsN o ps nx)) := HOWN0.out.below hbS (Nat.le_refl _)
                      have hxS := HX5.out wS hT1
                      have HNEW : Hid (RI w1.heap.size bx w1 (.slice oa om od) (rsN o ps nx) (wS.setCell ⟨bx, 5, none⟩ (.slice la lm ld))) := RI.put (pa := pa5) (pc := pc5) HI5.out (Nat.le_refl _) hT1 (by rw [HPN.out]; exact HPE2.out wS hT1) (OwPe.monoR HOWS.out HS5.out) (Chg.refl _ _) ⟨_, hxS⟩
                      obtain ⟨t0, t1, t2, t3, t4, t5, tf⟩ := cells6 hxS
                      have tf5 := tf 5
                      obtain ⟨hG2, hV2, hP2, hl2⟩ := HRN.out
                      have hml : (if o.kind = 1 then (pn : Int) + 1 else if o.kind = 2 then (pn : Int) else (pn : Int) - 1) = ((rsN o ps nx).length : Int) := by
                        rcases hl2 with ⟨q, r⟩ | ⟨q, r⟩ | ⟨q, r, _⟩ <;> rw [q] <;> simp <;> omega
                      have HGV : Hid (GP (rsN o ps nx) (if o.kind = 1 then nx + 1 else nx) ∧ 0 < vtF (rsN o ps nx) ∧ phi N (rsN o ps nx) + 1 ≤ phi N ps) := ⟨hG2, hV2, hP2⟩
                      have hgs2 : (wS.setCell ⟨bx, 5, none⟩ (.slice la lm ld)).cell? ⟨gs, 0, none⟩ = some (.int .i64 ((rsN o ps nx).length : Int)) := by
                        rw [← hml, ← hgs]
                        have hne : gs ≠ bx := fun q => by have h1 := (Array.getElem?_eq_some_iff.1 (HX5.out wd hT0)).1; omega
                        have hbk := (chg_p bx 5 ((.slice la lm ld)) wS).block gs (World.block_lt_of_cell? wS _ hgs) hne
                        simp only [World.cell?, hbk]
                      obtain ⟨qa, qc, hqe, _⟩ := row_reads HOWS.out
                      simp only [Value.slice.injEq] at hqe
                      obtain ⟨rfl, rfl, rfl⟩ := hqe
                      have hck0 := hG2.chk hV2
                      have HGS : Hid _ := hgs2
                      clear hgs2 hgs hgn hml hbS hT0 hT1
                      go_upto_region 40 with fail
                      generalize wS.setCell _ _ = wT at *
                      clear t0 t1 t2 t3 t4 t5 tf tf5 hxS
                      obtain ⟨paT, pcT, hxT, hpT, _, _, _⟩ := HNEW.out
                      obtain ⟨t0, t1, t2, t3, t4, t5, _⟩ := cells6 hxT
                      have hck := check_any (id := 5) (cf := 1) (vr := 1) (Rd.nil wT) (Rd.nil wT) hpT.rd
                      rw [hck0] at hck
                      have hgs3 := HGS.out
                      clear hck0 hxT hpT hG2 hV2 hP2 hl2
                      generalize hrl : (rsN o ps nx).length = rl at *
                      clear hrl
                      go_wp2_with fail
                      refine hck.mono ?_
                      rintro e wU ⟨rfl, hbU⟩
                      have HNU : Hid (RI w1.heap.size bx w1 (.slice oa om od) (rsN o ps nx) wU) := HNEW.out.below hbU (Nat.le_refl _)
                      have hfin : k + 1 ≤ 30 ∧ phi N (rsN o ps nx) + (k + 1) ≤ 30 := by
                        have e1 := HV.out.2
                        have e2 := HGV.out.2.2
                        omega
                      have hgnx : GP (rsN o ps nx) (nx) := by have q := HGV.out.1; rw [hlr.out] at q; exact q
                      clear hck t0 t1 t2 t3 t4 t5 hgs3
                      go_wp2_with fail
                      exact ⟨⟨k + 1, nx, hfin.1, by go_num, by first | rfl | go_num, by omega, by omega, ⟨rsN o ps nx, HNU.out, hgnx, HGV.out.2.1, hfin.2⟩⟩, by simp [intOf]; omega⟩
                    · rw [hk] at o0
                      have HRS : Hid (rsN o ps nx = rsT o ps) := by show _ = _; unfold rsN; rw [if_neg (by rw [hk]; decide), List.append_nil]
                      have hlr : Hid ((if o.kind = 1 then nx + 1 else nx) = nx) := if_neg (by rw [hk]; decide)
                      have HOWN : Hid (OwPe w5.heap.size wI (.slice la lm ld) (rsN o ps nx)) := by show OwPe _ _ _ _; rw [HRS.out]; exact HLE.out
                      have HBT : Hid (Below w5.heap.size w5 wI) := HBJ.out
                      clear HLE o1 o2 o3 o4 hnn HRS
                      go_upto_region 38 with fail
                      clear o0
                      have HSO : Hid (∀ W, Below w5.heap.size w5 W → Calls Tryz.prog 14 #[.agg #[.int .i64 o.kind, .int .u64 (o.reg : Int), .int .i64 o.store, .int .u64 (o.peer : Int), .int .u64 (o.other : Int)], .agg #[.int .u64 5, .slice none 0 0, .slice none 0 0, .int .u64 1, .int .u64 1, .slice pa5 pn pc5]] W fun e w' => StpA W (if o.kind = 1 then (pn : Int) + 1 else if o.kind = 2 then (pn : Int) else (pn : Int) - 1) e w') := fun W hW => by
                        have h := steps_any (w := W) o (id := 5) (cf := 1) (vr := 1) (sv0 := .slice none 0 0) (ev0 := .slice none 0 0) (pa := pa5) (pc := pc5) (ps := ps) (by rw [HPN.out]; exact HPR.out _ hW) (by rw [HPN.out]; omega) rfl rfl HSTP.out
                        rw [HPN.out] at h
                        exact h
                      have HK : Hid _ := hk
                      clear hk
                      refine wp_region_heldN (S := fun W => Below w5.heap.size w5 W) (L := []) (by kernel_rfl) ?_
                      have hT0 : Below w5.heap.size w5 wI.drew := HBT.out.drew
                      have HOWN0 : Hid (OwPe w5.heap.size wI.drew (.slice la lm ld) (rsN o ps nx)) := HOWN.out.below (Below.dN wI 1) (Nat.le_refl _)
                      generalize wI.drew = wd at *
                      refine wpAnyN_take (i := 0) (v := .slice (some ⟨g, 0, none⟩) 1 cv) rfl (by kernel_rfl) (by kernel_rfl) (by kernel_rfl) (by kernel_rfl) (fun _ _ _ h => h) (.inl ⟨by kernel_rfl, fun W hW => by kernel_rfl⟩) hT0 ?_
                      refine wpAnyN_take (i := 1) (v := .pointer (some ⟨g, 0, none⟩)) rfl (by kernel_rfl) (by kernel_rfl) (by kernel_rfl) (by kernel_rfl) (fun _ _ _ h => h) (.inl ⟨by kernel_rfl, fun W hW => by go_simp⟩) hT0 ?_
                      refine wpAnyN_take (i := 2) (v := .agg #[.int .i64 o.kind, .int .u64 (o.reg : Int), .int .i64 o.store, .int .u64 (o.peer : Int), .int .u64 (o.other : Int)]) rfl (by kernel_rfl) (by kernel_rfl) (by kernel_rfl) (by kernel_rfl) (fun _ _ _ h => h) (.inl ⟨by kernel_rfl, fun W hW => by obtain ⟨u0, u1, u2, u3, u4⟩ := HOC.out W hW; go_simp⟩) hT0 ?_
                      refine wpAnyN_take (i := 3) (v := .agg #[.int .u64 5, .slice none 0 0, .slice none 0 0, .int .u64 1, .int .u64 1, .slice pa5 pn pc5]) rfl (by kernel_rfl) (by kernel_rfl) (by kernel_rfl) (by kernel_rfl) (fun _ _ _ h => h) (.inl ⟨by kernel_rfl, fun W hW => by obtain ⟨u0, u1, u2, u3, u4, u5, _⟩ := cells6 (HX5.out W hW); go_simp⟩) hT0 ?_
                      refine wpAnyN_one (i := 4) (by kernel_rfl) rfl (fun K hK => ?_)
                      rw [if_pos (by kernel_rfl)]
                      go_simp
                      refine (HSO.out wd hT0).mono ?_
                      rintro e wS ⟨gs, rfl, hgs, hgn, hbS⟩
                      have hT1 := hT0.trans (hbS.mono hT0.size)
                      refine hK _ _ (fun _ => hT1) ?_
                      clear hK K
                      refine wpAnyN_take (i := 5) (v := .slice (some ⟨gs, 0, none⟩) 2 2) rfl (by kernel_rfl) (by kernel_rfl) (by kernel_rfl) (by kernel_rfl) (fun _ _ _ h => h) (.inl ⟨by kernel_rfl, fun W hW => by kernel_rfl⟩) hT1 ?_
                      refine ⟨by kernel_rfl, ?_⟩
                      go_simp
                      have HOWS : Hid (OwPe w5.heap.size wS (.slice la lm ld) (rsN o ps nx)) := HOWN0.out.below hbS (Nat.le_refl _)
                      have hxS := HX5.out wS hT1
                      have HNEW : Hid (RI w1.heap.size bx w1 (.slice oa om od) (rsN o ps nx) (wS.setCell ⟨bx, 5, none⟩ (.slice la lm ld))) := RI.put (pa := pa5) (pc := pc5) HI5.out (Nat.le_refl _) hT1 (by rw [HPN.out]; exact HPE2.out wS hT1) (OwPe.monoR HOWS.out HS5.out) (Chg.refl _ _) ⟨_, hxS⟩
                      obtain ⟨t0, t1, t2, t3, t4, t5, tf⟩ := cells6 hxS
                      have tf5 := tf 5
                      obtain ⟨hG2, hV2, hP2, hl2⟩ := HRN.out
                      have hml : (if o.kind = 1 then (pn : Int) + 1 else if o.kind = 2 then (pn : Int) else (pn : Int) - 1) = ((rsN o ps nx).length : Int) := by
                        rcases hl2 with ⟨q, r⟩ | ⟨q, r⟩ | ⟨q, r, _⟩ <;> rw [q] <;> simp <;> omega
                      have HGV : Hid (GP (rsN o ps nx) (if o.kind = 1 then nx + 1 else nx) ∧ 0 < vtF (rsN o ps nx) ∧ phi N (rsN o ps nx) + 1 ≤ phi N ps) := ⟨hG2, hV2, hP2⟩
                      have hgs2 : (wS.setCell ⟨bx, 5, none⟩ (.slice la lm ld)).cell? ⟨gs, 0, none⟩ = some (.int .i64 ((rsN o ps nx).length : Int)) := by
                        rw [← hml, ← hgs]
                        have hne : gs ≠ bx := fun q => by have h1 := (Array.getElem?_eq_some_iff.1 (HX5.out wd hT0)).1; omega
                        have hbk := (chg_p bx 5 ((.slice la lm ld)) wS).block gs (World.block_lt_of_cell? wS _ hgs) hne
                        simp only [World.cell?, hbk]
                      obtain ⟨qa, qc, hqe, _⟩ := row_reads HOWS.out
                      simp only [Value.slice.injEq] at hqe
                      obtain ⟨rfl, rfl, rfl⟩ := hqe
                      have hck0 := hG2.chk hV2
                      have HGS : Hid _ := hgs2
                      clear hgs2 hgs hgn hml hbS hT0 hT1
                      go_upto_region 40 with fail
                      generalize wS.setCell _ _ = wT at *
                      clear t0 t1 t2 t3 t4 t5 tf tf5 hxS
                      obtain ⟨paT, pcT, hxT, hpT, _, _, _⟩ := HNEW.out
                      obtain ⟨t0, t1, t2, t3, t4, t5, _⟩ := cells6 hxT
                      have hck := check_any (id := 5) (cf := 1) (vr := 1) (Rd.nil wT) (Rd.nil wT) hpT.rd
                      rw [hck0] at hck
                      have hgs3 := HGS.out
                      clear hck0 hxT hpT hG2 hV2 hP2 hl2
                      generalize hrl : (rsN o ps nx).length = rl at *
                      clear hrl
                      go_wp2_with fail
                      refine hck.mono ?_
                      rintro e wU ⟨rfl, hbU⟩
                      have HNU : Hid (RI w1.heap.size bx w1 (.slice oa om od) (rsN o ps nx) wU) := HNEW.out.below hbU (Nat.le_refl _)
                      have hfin : k + 1 ≤ 30 ∧ phi N (rsN o ps nx) + (k + 1) ≤ 30 := by
                        have e1 := HV.out.2
                        have e2 := HGV.out.2.2
                        omega
                      have hgnx : GP (rsN o ps nx) (nx) := by have q := HGV.out.1; rw [hlr.out] at q; exact q
                      clear hck t0 t1 t2 t3 t4 t5 hgs3
                      go_wp2_with fail
                      exact ⟨⟨k + 1, nx, hfin.1, by go_num, by first | rfl | go_num, by omega, by omega, ⟨rsN o ps nx, HNU.out, hgnx, HGV.out.2.1, hfin.2⟩⟩, by simp [intOf]; omega⟩
          · have hce1 : (ce == 0) = false := beq_eq_false_iff_ne.2 hce0
            go_wp2_with fail
            refine hck.mono ?_
            rintro e wD ⟨rfl, hbD⟩
            have HE : Hid (Below w.heap.size w wD) := by
              obtain ⟨_, _, _, _, _, hbI, _⟩ := HI.out
              exact (HB1.out.trans (hbI.mono HB1.out.size)).trans (hbD.mono (HB1.out.trans (hbI.mono HB1.out.size)).size)
            clear hck y0 y1 y2 y3 y4 y5
            go_wp2_with fail
            go_ret
            exact ⟨rfl, HE.out⟩
end Go.Proofs.YtedfjacmaidhkaaGreat
