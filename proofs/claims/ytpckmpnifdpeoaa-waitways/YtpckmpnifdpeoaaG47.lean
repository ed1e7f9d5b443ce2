/- The statement WaitNever, walked. -/
import Derived.Test.YtpckmpnifdpeoaaG46
import Derived.Test.YtpckmpnifdpeoaaG18
import Derived.Test.YtpckmpnifdpeoaaG44
namespace Go.Proofs.Ytpckmpnifdpeoaa
open Go.RowKit
set_option linter.unusedVariables false
set_option maxRecDepth 100000

theorem stE_mem {E : List Ed} {a b : UInt64} {e : Ed} (h : e ∈ stE E a b) : e ∈ E := (List.mem_filter.1 h).1
theorem stE_len (E : List Ed) (a b : UInt64) : (stE E a b).length ≤ E.length := List.length_filter_le _ _
theorem box3 {W : World} {u0 u1 u2 : Value} {t : TypeId} {g : Nat} (h : W.heap[g]? = some (.cells #[u0, u1, u2] t (0, 0))) : W.cell? ⟨g, 0, none⟩ = some u0 ∧ W.cell? ⟨g, 1, none⟩ = some u1 ∧ W.cell? ⟨g, 2, none⟩ = some u2 :=
  ⟨by rw [cell_of_row _ _ _ _ _ _ h]; rfl, by rw [cell_of_row _ _ _ _ _ _ h]; rfl, by rw [cell_of_row _ _ _ _ _ _ h]; rfl⟩
theorem has_w {v : Value} {E : List Ed} {w : World} (h : RdE w v E) (hl : E.length ≤ 8192) (a b : UInt64) (hm : (a, b) ∈ E) (q : Nat) :
    Calls Try.prog 15 #[v, .int .u64 (a.toNat : Int), .int .u64 (b.toNat : Int)] (w.drewN q) fun r w' => r = .returned (.bool true) ∧ ∃ n, w' = w.drewN n := by
  refine (has_any (h.below (Below.dN w q) (Nat.le_refl _)) hl a b).mono ?_
  rintro r w' ⟨rfl, rfl⟩
  exact ⟨by rw [decide_eq_true hm], q, rfl⟩
/-- What the loop keeps. -/
def NvR (w : World) (B x k : Nat) (wr : World) : Prop := ∃ (v : Value) (E : List Ed), Gr B x v E wr ∧ E.length ≤ k ∧ W.Acy E ∧ Below w.heap.size w wr
theorem wt_acy {E : List Ed} {a b : UInt64} {ro : Option (List UInt64)} (h : W.Acy E) (hb : W.Bfs E a [[b]] [b] ro) : W.Acy (wtE E a b ro) := by
  unfold wtE
  split
  · exact h
  · obtain ⟨s, h1, h2, h3⟩ := (hb.tells (W.Bi.start E b a)).2 rfl
    split
    · exact h
    · split
      · exact h
      · exact h.ins h1 h2 h3
theorem wt_in {E : List Ed} (hr : W.Ris E) (hl : E.length < 4096) (a b : UInt64) : (a, b) ∈ wtE E a b none := by
  unfold wtE
  simp only []
  split
  · rename_i q; exact (W.is_iff hr _).1 q
  · rw [if_neg (by omega)]; exact W.mem_ins.2 (.inl rfl)
theorem wt_ok {E : List Ed} (hl : E.length < 4096) (a b : UInt64) : wtN E a b none = 0 := by
  unfold wtN
  simp only []
  split
  · rfl
  · rw [if_neg (by omega)]

set_option maxHeartbeats 4000000 in
theorem never_walk {v0 : Value} {n : Nat} {w : World} (hA : Stps w v0 n) :
    Calls Try.prog 5 #[v0] w fun r w' => r = .returned (.bool true) ∧ Below w.heap.size w w' := by
  obtain ⟨a0, c0, rfl, hn1, hn2, hA4⟩ := hA
  have hnm : n ≤ 9223372036854775807 := by omega
  have HA : Hid (∀ i, i < n → ∃ d p q ad, a0 = some ad ∧ StAt w (ad.add (i * 3)) d p q) := hA4
  clear hA4
  have haw := wtawake_any w
  go_enter Try.func5, Try.ntmps5
  go_wp2_with fail
  refine haw.mono ?_
  rintro r wa ⟨rfl, hba⟩
  have hnew := gnew_any wa
  clear haw
  go_wp2_with fail
  refine hnew.mono ?_
  rintro r wb ⟨x, rfl, hg0, hbb⟩
  have hB : Below w.heap.size w wb := Below.tr hba hbb
  have hsz : w.heap.size ≤ wa.heap.size := hba.size
  have hN0 : NvR w wa.heap.size x 0 wb := ⟨_, [], hg0, Nat.le_refl _, ⟨fun _ => 0, fun x y h => by cases h⟩, hB⟩
  clear hnew hbb hg0 hB hba
  go_wp2_with fail
  go_loopw [4, 5, 6, 7, 8, 9] (fun i _ _ _ _ _ wr => ∃ k : Nat, k ≤ n ∧ k ≤ 60 ∧ i = .int .i64 k ∧ NvR w wa.heap.size x k wr) (fun i _ _ _ _ _ _ => 60 - (intOf i).toNat)
  case atStart => exact ⟨0, Nat.zero_le _, Nat.zero_le _, rfl, hN0⟩
  case round =>
    obtain ⟨k, hk, hk6, rfl, hNv⟩ := hrel
    clear hN0
    go_upto_region 5 with fail
    go_cut [20] from 13 to 119 (fun s wx => s = .bool (decide (k < n ∧ k < 60)) ∧ wx = wr)
    case first =>
      by_cases q1 : k < n
      · have l1 : (k : Int) < (n : Int) := by omega
        by_cases q2 : k < 60
        · have l2 : (k : Int) < 60 := by omega
          go_wp2_with fail
          go_meet
          exact ⟨by simp [q1, q2], rfl⟩
        · have l2 : decide ((k : Int) < 60) = false := decide_eq_false (by omega)
          go_wp2_with fail
          go_meet
          exact ⟨by simp [q1, q2], rfl⟩
      · have l1 : decide ((k : Int) < (n : Int)) = false := decide_eq_false (by omega)
        go_wp2_with fail
        go_meet
        exact ⟨by simp [q1], rfl⟩
    case rest =>
    obtain ⟨rfl, rfl⟩ := hcut
    by_cases hlt : k < n ∧ k < 60
    · rw [decide_eq_true hlt]
      obtain ⟨v, E, hg, hEl, hac, hb⟩ := hNv
      obtain ⟨d, p, q, ad, rfl, hst⟩ := HA.out k hlt.1
      obtain ⟨y0, y1, y2⟩ := hst.below hb (Nat.le_refl _)
      have hki : (k : Int) < (n : Int) := by omega
      have hbA := w_al wc (.cells #[.int .i64 d, .int .u64 (p.toNat : Int), .int .u64 (q.toNat : Int)] 42)
      have hnw := heap_alloc_new wc (.cells #[.int .i64 d, .int .u64 (p.toNat : Int), .int .u64 (q.toNat : Int)] 42)
      obtain ⟨x0, x1, x2⟩ := box3 hnw
      have hg1 := hg.below hbA (Nat.le_refl _)
      have hB1 : Below w.heap.size w (wc.alloc (.cells #[.int .i64 d, .int .u64 (p.toNat : Int), .int .u64 (q.toNat : Int)] 42)) := hb.trans (hbA.mono hb.size)
      have hwr : IntKind.i64.wrap ((k : Int) + 1) = ((k + 1 : Nat) : Int) := by rw [IntKind.wrap_i64]; omega
      have hxl1 := hg1.xlt
      have hcl1 := World.block_lt_of_cell? _ _ x0
      clear hg hb hst hnw hbA
      by_cases hd2 : d = 2
      · subst hd2
        have hdn := gdone_any hg1 p
        have HNX : Hid (∀ v' w', Gr wa.heap.size x v' (dnE E p) w' → Chg (GS x v) (wc.alloc (.cells #[.int .i64 2, .int .u64 (p.toNat : Int), .int .u64 (q.toNat : Int)] 42)) w' → NvR w wa.heap.size x (k + 1) w') := fun v' w' q1 q2 => ⟨v', _, q1, by have := dnE_len E p; omega, hac.sub (fun e he => (dnE_mem he).1), hB1.trans ((hg1.bel q2).mono hsz)⟩
        clear hg1 hB1 hac
        go_wp2_with fail
        refine hdn.mono ?_
        rintro r w3 ⟨v3, rfl, hg3, hc3, -⟩
        have HE : Hid _ := HNX.out v3 w3 hg3 hc3
        clear hg3 hc3 hdn
        go_wp2_with fail
        exact ⟨⟨k + 1, by omega, by omega, by go_num, HE.out⟩, by simp [intOf]; omega⟩
      · have hd2b : (d == 2) = false := by rw [beq_eq_false_iff_ne]; exact hd2
        by_cases hd1 : d = 1
        · subst hd1
          have hdn := stop_any hg1 p q
          have HNX : Hid (∀ v' w', Gr wa.heap.size x v' (stE E p q) w' → Chg (GS x v) (wc.alloc (.cells #[.int .i64 1, .int .u64 (p.toNat : Int), .int .u64 (q.toNat : Int)] 42)) w' → NvR w wa.heap.size x (k + 1) w') := fun v' w' q1 q2 => ⟨v', _, q1, by have := stE_len E p q; omega, hac.sub (fun e he => stE_mem he), hB1.trans ((hg1.bel q2).mono hsz)⟩
          clear hg1 hB1 hac
          go_wp2_with fail
          refine hdn.mono ?_
          rintro r w3 ⟨v3, rfl, hg3, hc3, -⟩
          have HE : Hid _ := HNX.out v3 w3 hg3 hc3
          clear hg3 hc3 hdn
          go_wp2_with fail
          exact ⟨⟨k + 1, by omega, by omega, by go_num, HE.out⟩, by simp [intOf]; omega⟩
        · have hd1b : (d == 1) = false := by rw [beq_eq_false_iff_ne]; exact hd1
          have hed := edges_any hg1
          clear hd1 hd2
          go_wp2_with fail
          refine hed.mono ?_
          rintro r w2 ⟨vB, rfl, hoB, hb2⟩
          have hg2 := hg1.below hb2 (Nat.le_refl _)
          have hB2 : Below w.heap.size w w2 := hB1.trans (hb2.mono hB1.size)
          have hwt := wait_any hg2 p q
          have hq2 : ∀ c u, (wc.alloc (.cells #[.int .i64 d, .int .u64 (p.toNat : Int), .int .u64 (q.toNat : Int)] 42)).cell? c = some u → w2.cell? c = some u := fun c u e => by rw [hb2.cell (World.block_lt_of_cell? _ _ e)]; exact e
          have s1 := hq2 _ _ x1
          have s2 := hq2 _ _ x2
          have hxs : x ≠ wc.heap.size := fun e => by
            have h0 := hg1.cell
            rw [e, heap_alloc_new] at h0
            simp at h0
          have hvs : v.ownBlock ≠ some wc.heap.size := fun e => by
            rcases hg1.row.2 with ⟨z, _⟩ | ⟨g, cap, cur, z, _, hh, _⟩
            · rw [z] at e; cases e
            · rw [z] at e
              obtain rfl : g = wc.heap.size := Option.some.inj e
              rw [heap_alloc_new] at hh
              simp at hh
          have hBv : ∀ g, vB.ownBlock = some g → ¬ GS x v g := fun g e z => by
            have h1 := (hoB.lt g e).1
            rcases z with z | z
            · omega
            · have := (hg1.row.lt g z).2; omega
          obtain ⟨aB, cB, eB, hcB1, hcB2⟩ := hoB.rd.shape
          subst eB
          have hsl := World.block_lt_of_cell? w2 _ s1
          clear hed hg1 hB1 x0 x1 x2 hq2
          go_wp2_with fail
          refine hwt.mono ?_
          rintro r w3 ⟨vr, v3, ro, rfl, hbf, hou, hzz, hg3, hc3, hv3, hvv⟩
          have hB3 : Below w.heap.size w w3 := hB2.trans ((hg2.bel hc3).mono hsz)
          have t1 : w3.cell? ⟨wc.heap.size, 1, none⟩ = some (.int .u64 (p.toNat : Int)) := by
            rw [World.cell?_of_block (w := w2) (hc3.block wc.heap.size hsl (fun z => by rcases z with z | z; exact hxs z.symm; exact hvs z))]; exact s1
          have t2 : w3.cell? ⟨wc.heap.size, 2, none⟩ = some (.int .u64 (q.toNat : Int)) := by
            rw [World.cell?_of_block (w := w2) (hc3.block wc.heap.size hsl (fun z => by rcases z with z | z; exact hxs z.symm; exact hvs z))]; exact s2
          have hrB := (hoB.keptC hc3 hBv).rd
          have hac3 := wt_acy hac hbf
          have hE3l := wtE_len E p q ro
          have hris := hg2.ris
          have hE2l := hg2.len
          clear hwt hg2 hc3 hv3 hvv s1 s2 hoB hBv hB2
          cases ro with
          | none =>
            have e0 := wt_ok (E := E) (by omega) p q
            have hin := wt_in hris (by omega) p q
            rw [e0]
            obtain ⟨ar, cr, er⟩ := hou.shape
            have er' : vr = .slice ar 0 cr := er
            subst er'
            have hed3 := fun m => edges_any (hg3.below (Below.dN w3 m) (Nat.le_refl _))
            have HN3 : Hid (NvR w wa.heap.size x (k + 1) w3) := ⟨v3, _, hg3, by omega, hac3, hB3⟩
            have hl3 : (wtE E p q none).length ≤ 8192 := by omega
            have hN4 : ∀ w4 : World, Below w3.heap.size w3 w4 → NvR w wa.heap.size x (k + 1) w4 := fun w4 hb4 => ⟨v3, _, hg3.below hb4 (Nat.le_refl _), by omega, hac3, hB3.trans (hb4.mono hB3.size)⟩
            have HN4 : Hid (∀ w4 : World, Below w3.heap.size w3 w4 → NvR w wa.heap.size x (k + 1) w4) := hN4
            have hkk : ∀ w4 : World, Below w3.heap.size w3 w4 → w4.cell? ⟨wc.heap.size, 1, none⟩ = some (.int .u64 (p.toNat : Int)) ∧ w4.cell? ⟨wc.heap.size, 2, none⟩ = some (.int .u64 (q.toNat : Int)) := fun w4 hb4 => ⟨by rw [hb4.cell (World.block_lt_of_cell? w3 _ t1)]; exact t1, by rw [hb4.cell (World.block_lt_of_cell? w3 _ t2)]; exact t2⟩
            have HKK : Hid (∀ w4 : World, Below w3.heap.size w3 w4 → w4.cell? ⟨wc.heap.size, 1, none⟩ = some (.int .u64 (p.toNat : Int)) ∧ w4.cell? ⟨wc.heap.size, 2, none⟩ = some (.int .u64 (q.toNat : Int))) := hkk
            have HIN : Hid ((p, q) ∈ wtE E p q none) := hin
            clear e0 hin hg3 hB3 hrB hac3 hbf hzz hou hN4 hkk
            go_wp2_with fail
            go_region_held3 (fun w' => w'.cell? ⟨wc.heap.size, 1, none⟩ = some (.int .u64 (p.toNat : Int)) ∧ w'.cell? ⟨wc.heap.size, 2, none⟩ = some (.int .u64 (q.toNat : Int))) (go_keep) (first
              | (go_at_call 15; refine (has_any (by first | exact hrd4 | exact hrd4.below (Below.dN _ _) (Nat.le_refl _)) hl3 p q).mono ?_; rintro r w5 ⟨rfl, rfl⟩; rw [decide_eq_true HIN.out])
              | (go_at_call 10; refine (hed3 _).mono ?_; rintro r w4 ⟨vE, rfl, hoE, hb4⟩; have hrd4 := hoE.rd; obtain ⟨u1, u2, u3, -⟩ := hrd4.shape; subst u3; have hb34 := Below.tr (Below.dN w3 _) hb4; obtain ⟨k1, k2⟩ := HKK.out w4 hb34)
              | fail)
            have HE : Hid _ := HN4.out _ hb34
            clear hoE hrd4 hb4 hb34
            go_wp2_with fail
            exact ⟨⟨k + 1, by omega, by omega, by go_num, HE.out⟩, by simp [intOf]; omega⟩
          | some z =>
            obtain ⟨hz1, hz2⟩ := hzz z rfl
            obtain ⟨⟨hz0, hzs⟩, hzl⟩ := (hbf.tells (W.Bi.start E q p)).1 z rfl
            have hou' : Ou w2.heap.size w3 vr z := hou
            obtain ⟨g, c, eg, -⟩ := hou'.some_ hz1
            obtain ⟨nl, hnl⟩ : ∃ nl, z.length = nl + 1 := ⟨z.length - 1, by have := List.length_pos_iff.2 hz1; omega⟩
            have hlast : z[nl]? = some p := by rw [← hzl, List.getLast?_eq_getElem?, hnl]; rfl
            have hcz : ∀ W : World, Below w3.heap.size w3 W → ∀ j (y : UInt64), z[j]? = some y → W.cell? ⟨g, j, none⟩ = some (.int .u64 (y.toNat : Int)) := fun W hW j y hy => by
              have hr := (hou'.ru).below hW (Nat.le_refl _)
              rw [eg] at hr
              obtain ⟨ao, c', e, _, _, _, q4⟩ := hr
              simp only [Value.slice.injEq] at e
              obtain ⟨hj, hj2⟩ := List.getElem?_eq_some_iff.1 hy
              obtain ⟨a', ea, q5⟩ := q4 j hj
              rw [← e.1] at ea
              obtain rfl := Option.some.inj ea
              rw [Addr.add_lit, Nat.zero_add] at q5
              rw [q5, hj2]
            have c0' := hcz w3 (Below.refl _ _) 0 q hz0
            have c1' := hcz w3 (Below.refl _ _) nl p hlast
            have hwn : IntKind.i64.wrap ((z.length : Int) - 1) = (nl : Int) := by rw [IntKind.wrap_i64]; omega
            have hn1' : (nl : Int) < (z.length : Int) := by omega
            have hzp : (0 : Int) < (z.length : Int) := by omega
            have hzpN : 0 < z.length := by omega
            have hnlN : nl < z.length := by omega
            have hzq : ((z.length : Int) == 0) = false := by rw [beq_eq_false_iff_ne]; omega
            have hzq2 : ¬ z.length = 0 := by omega
            have hed3 := fun m => edges_any (hg3.below (Below.dN w3 m) (Nat.le_refl _))
            have eW : wtE E p q (some z) = E := rfl
            have eN : wtN E p q (some z) = 120 := rfl
            rw [eW] at hg3 hac3
            simp only [eW] at hed3
            rw [eN]
            have HRB : Hid (∀ w4 : World, Below w3.heap.size w3 w4 → RdE w4 (.slice aB E.length cB) E) := fun w4 hb4 => hrB.below hb4 (Nat.le_refl _)
            have HN4 : Hid (∀ w4 : World, Below w3.heap.size w3 w4 → NvR w wa.heap.size x (k + 1) w4) := fun w4 hb4 => ⟨v3, _, hg3.below hb4 (Nat.le_refl _), by omega, hac3, hB3.trans (hb4.mono hB3.size)⟩
            have HKK : Hid (∀ w4 : World, Below w3.heap.size w3 w4 → w4.cell? ⟨wc.heap.size, 1, none⟩ = some (.int .u64 (p.toNat : Int)) ∧ w4.cell? ⟨wc.heap.size, 2, none⟩ = some (.int .u64 (q.toNat : Int)) ∧ w4.cell? ⟨g, 0, none⟩ = some (.int .u64 (q.toNat : Int)) ∧ w4.cell? ⟨g, nl, none⟩ = some (.int .u64 (p.toNat : Int))) := fun w4 hb4 => ⟨by rw [hb4.cell (World.block_lt_of_cell? w3 _ t1)]; exact t1, by rw [hb4.cell (World.block_lt_of_cell? w3 _ t2)]; exact t2, hcz w4 hb4 0 q hz0, hcz w4 hb4 nl p hlast⟩
            have HCZ : Hid (∀ W : World, Below w3.heap.size w3 W → ∀ j (y : UInt64), z[j]? = some y → W.cell? ⟨g, j, none⟩ = some (.int .u64 (y.toNat : Int))) := hcz
            have HZS : Hid (∀ k x y, z[k]? = some x → z[k + 1]? = some y → (x, y) ∈ E) := hzs
            have HZL : Hid (z.length = nl + 1) := hnl
            have hzb : z.length ≤ 4097 := hz2
            subst eg
            clear hg3 hB3 hrB hac3 hbf hzz hou hou' hcz hzs hnl hz0 hzl hlast hz1
            go_wp2_with fail
            go_region_held3 (fun w' => w'.cell? ⟨wc.heap.size, 1, none⟩ = some (.int .u64 (p.toNat : Int)) ∧ w'.cell? ⟨wc.heap.size, 2, none⟩ = some (.int .u64 (q.toNat : Int)) ∧ w'.cell? ⟨g, 0, none⟩ = some (.int .u64 (q.toNat : Int)) ∧ w'.cell? ⟨g, nl, none⟩ = some (.int .u64 (p.toNat : Int))) (go_keep) (first
              | (go_at_call 14; refine (sameE_any (by first | exact hrd4 | exact hrd4.below (Below.dN _ _) (Nat.le_refl _)) (HRB.out _ hb34) (by omega)).mono ?_; rintro r w5 ⟨rfl, m5, rfl⟩; obtain ⟨j1, j2, j3, j4⟩ := HKK.out (w4.drewN m5) (Below.tr hb34 (Below.dN w4 m5)))
              | (go_at_call 10; refine (hed3 _).mono ?_; rintro r w4 ⟨vE, rfl, hoE, hb4⟩; have hrd4 := hoE.rd; obtain ⟨u1, u2, u3, -⟩ := hrd4.shape; subst u3; have hb34 := Below.tr (Below.dN w3 _) hb4; obtain ⟨k1, k2, k3, k4⟩ := HKK.out w4 hb34)
              | fail)
            have hb35 : Below w3.heap.size w3 (w4.drewN m5) := Below.tr hb34 (Below.dN w4 m5)
            clear hoE hrd4 hb4 hb34 hed3 j1 j2 j3 j4 k1 k2 k3 k4 t1 t2 c0' c1'
            generalize w4.drewN m5 = w5 at *
            go_wp2_with fail
            go_loopw [9] (fun i wr => ∃ j : Nat, 1 ≤ j ∧ j ≤ z.length ∧ i = .int .i64 j ∧ Below w3.heap.size w3 wr) (fun i _ => z.length - (intOf i).toNat)
            case atStart => exact ⟨1, Nat.le_refl _, by rw [HZL.out]; omega, rfl, hb35⟩
            case round =>
              obtain ⟨j, hj1, hj2, rfl, hbj⟩ := hrel
              clear hb35
              by_cases hltj : j < z.length
              · obtain ⟨jm, hjm⟩ : ∃ jm, j = jm + 1 := ⟨j - 1, by omega⟩
                obtain ⟨y1', hy1⟩ : ∃ y, z[jm]? = some y := ⟨_, List.getElem?_eq_getElem (by omega)⟩
                obtain ⟨y2', hy2⟩ : ∃ y, z[j]? = some y := ⟨_, List.getElem?_eq_getElem hltj⟩
                have l1 := HCZ.out wr hbj jm y1' hy1
                have l2 := HCZ.out wr hbj j y2' hy2
                have hhw := fun m => has_w (HRB.out wr hbj) (by omega) y1' y2' (HZS.out jm y1' y2' hy1 (by rw [← hjm]; exact hy2)) m
                have hwj : IntKind.i64.wrap ((j : Int) - 1) = (jm : Int) := by rw [IntKind.wrap_i64]; omega
                have hjmi : (jm : Int) < (z.length : Int) := by omega
                have hji : (j : Int) < (z.length : Int) := by omega
                have HJM : Hid (j = jm + 1) := hjm
                clear hjm hy1 hy2
                go_wp2_with fail
                go_quiet (first | (go_at_call 15; exact hhw _) | fail)
                go_wp2_with fail
                exact ⟨⟨j + 1, by omega, by omega, by go_num, Below.tr hbj (Below.dN wr _)⟩, by simp [intOf]; omega⟩
              · have HE : Hid _ := HN4.out wr hbj
                go_wp2_with fail
                exact ⟨⟨k + 1, by omega, by omega, by go_num, HE.out⟩, by simp [intOf]; omega⟩
    · rw [decide_eq_false hlt]
      obtain ⟨v, E, hg, hEl, hac, hb⟩ := hNv
      have hed := edges_any hg
      clear hlt HA
      go_wp2_with fail
      refine hed.mono ?_
      rintro r w2 ⟨vA, rfl, hoA, hb2⟩
      have HB2 : Hid (Below w.heap.size w w2) := hb.trans (hb2.mono hb.size)
      have hci := circle_any hoA.rd (by omega) hac
      obtain ⟨z1, z2, z3, -⟩ := hoA.rd.shape
      subst z3
      clear hed hg hb2 hb hoA hac
      go_wp2_with fail
      refine hci.mono ?_
      rintro r w3 ⟨rfl, hb3⟩
      have HB3 : Hid (Below w.heap.size w w3) := HB2.out.trans (hb3.mono HB2.out.size)
      clear hci
      go_wp2_with fail
      go_ret
      exact ⟨rfl, HB3.out⟩
end Go.Proofs.Ytpckmpnifdpeoaa
