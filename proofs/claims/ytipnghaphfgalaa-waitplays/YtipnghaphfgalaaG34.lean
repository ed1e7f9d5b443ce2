/- Way: the shortest way, of those the least. -/
import Derived.Test.YtipnghaphfgalaaG33
namespace Go.Proofs.Ytipnghaphfgalaa
open Go.RowKit
set_option linter.unusedVariables false
set_option maxRecDepth 100000

set_option maxHeartbeats 4000000 in
theorem way_any {B gb : Nat} {v0 : Value} {E : List Ed} {w : World} (h : Gr B gb v0 E w) (a b : UInt64) :
    Calls Try.prog 17 #[.pointer (some ⟨gb, 0, none⟩), .int .u64 (a.toNat : Int), .int .u64 (b.toNat : Int)] w fun r w' => ∃ v' ro, r = .returned v' ∧ W.Bfs E b [[a]] [a] ro ∧ Ou w.heap.size w' v' (ro.getD []) ∧ (∀ z, ro = some z → z ≠ [] ∧ z.length ≤ 4097) ∧ (ro = none → v' = .slice none 0 0) ∧ Below w.heap.size w w' := by
  have hmk := fun w => run_makeMap (P := Try.prog) 66 w
  obtain ⟨w2, hput, hWR⟩ := way_start w E a b
  have hlen := h.len
  have hris := h.ris
  have hfrom : ∀ W : World, Below w.heap.size w W → ∀ l : UInt64, Calls Try.prog 32 #[.pointer (some ⟨gb, 0, none⟩), .int .u64 (l.toNat : Int)] W fun r w' => ∃ v', r = .returned v' ∧ RdE W v' (E.filter (fun e => e.1 == l)) ∧ (∀ b, v'.ownBlock = some b → b < w.heap.size) ∧ Below W.heap.size W w' := fun W hW l => by
    refine (from_any (h.below hW (Nat.le_refl _)) l).mono ?_
    rintro r w' ⟨v', q1, q2, q3, q4⟩
    exact ⟨v', q1, q2, fun b e => (h.row.lt b (q3 b e)).2, q4⟩
  have HFR : Hid (∀ W : World, Below w.heap.size w W → ∀ l : UInt64, Calls Try.prog 32 #[.pointer (some ⟨gb, 0, none⟩), .int .u64 (l.toNat : Int)] W fun r w' => ∃ v', r = .returned v' ∧ RdE W v' (E.filter (fun e => e.1 == l)) ∧ (∀ b, v'.ownBlock = some b → b < w.heap.size) ∧ Below W.heap.size W w') := hfrom
  clear hfrom h
  go_enter Try.func17, Try.ntmps17
  go_wp2_with fail
  clear hput hmk
  generalize w.heap.size + 1 + 1 + 1 = m at *
  generalize w.heap.size + 1 + 1 = x at *
  go_loopw [9, 10, 11, 13, 14, 15] (fun _ _ _ _ _ _ wr => ∃ n, WR w E a b x m n wr) (fun _ _ _ _ _ _ wr => lst (WR w E a b x m) wr)
  case atStart => exact ⟨_, hWR⟩
  case round =>
    obtain ⟨n, hn⟩ : ∃ n, lst (WR w E a b x m) wr = n := ⟨_, rfl⟩
    have hR := lst_is hrel
    rw [hn] at hR ⊢
    clear hrel hWR
    obtain ⟨v, H, q, s, hq, hH, hs, mx, mv, me, mlo, hpm, hw, hN⟩ := hR
    obtain ⟨av, cv, ev, -⟩ := row_reads hq.row
    have hvx := hq.vx.1
    have hHq : H.length = q.length := by have := hpm.length_eq; simpa using this
    cases q with
    | nil =>
      have hH0 : H.length = 0 := hHq
      have HF : Hid _ := And.intro (hw.bfs none (W.Bfs.none s)) hq.base
      rw [ev, hH0] at hvx
      clear hH hs hpm hw hN hq me hHq ev hH0
      go_wp2_with fail
      go_ret
      exact ⟨_, none, rfl, HF.out.1, Ou.nil _ _, (fun z e => by cases e), fun _ => rfl, HF.out.2⟩
    | cons z q0 =>
      have hHp : 0 < H.length := by rw [hHq]; simp
      obtain ⟨e, he⟩ : ∃ e, H[0]? = some e := ⟨_, List.getElem?_eq_getElem hHp⟩
      have hez : e.2 = z := top_head hw.qi hpm hH he
      have hlq := hw.lq
      simp only [List.length_cons] at hHq hlq hN
      have htk := take_any hq hH he (by omega)
      obtain ⟨o1, o2, o3, o4, o5⟩ := hq.els e (by simp; exact List.mem_of_getElem? he)
      obtain ⟨g, c, eg, hc1, hc2, hg1, hg2⟩ := o1.some_ o2
      obtain ⟨e1, e2⟩ := e
      simp only [] at hez eg htk o1 o2 hc1
      subst hez
      subst eg
      obtain ⟨l, hl⟩ : ∃ l, e2.getLast? = some l := by
        cases hgl : e2.getLast? with
        | none => exact absurd (List.getLast?_eq_none_iff.1 hgl) o2
        | some l => exact ⟨l, rfl⟩
      obtain ⟨nl, hnl⟩ : ∃ nl, e2.length = nl + 1 := ⟨e2.length - 1, by have := List.length_pos_iff.2 o2; omega⟩
      have hlast : e2[nl]? = some l := by rw [← hl, List.getLast?_eq_getElem?, hnl]; rfl
      have hpos : (0 : Int) < (H.length : Int) := by omega
      have HME : Hid (∀ d ∈ H, d.1.ownBlock ≠ some m) := me
      have HIN : Hid ((.slice (some ⟨g, 0, none⟩) e2.length c, e2) ∈ H ∧ H.tail.map (·.2) = (H.map (·.2)).tail) := ⟨List.mem_of_getElem? he, by simp⟩
      have hperm0 : (H.tail.map (·.2)).Perm q0 := by
        cases H with
        | nil => simp at hHp
        | cons d H =>
          simp only [List.getElem?_cons_zero, Option.some.injEq] at he
          subst he
          exact (List.perm_cons e2).1 hpm
      have HP0 : Hid ((H.tail.map (·.2)).Perm q0) := hperm0
      have HW : Hid (WI E a b (e2 :: q0) s) := hw
      have HS : Hid (Sn m s wr) := hs
      have HL : Hid (e2.getLast? = some l) := hl
      have hLB : e2.length ≤ 4097 := by
        have := (hw.lz e2 (by simp)).1
        have := hw.ls
        omega
      rw [ev] at hvx
      clear me he hperm0 hw hs hl hpm hHp o1 hH hHq
      go_wp2_with fail
      refine htk.mono ?_
      rintro r w1 ⟨rfl, v', H', hq', hv', hl', hp', hH', hc'⟩
      have HIR : ∀ F, IR w E x m g c e2 q0 s F 0 c v' H' [(.slice (some ⟨g, 0, none⟩) e2.length c, e2)] q0 s w1 := fun F => by
        refine IR.start hq' rfl hH' (HS.out.keptC hc' (fun q => ?_)) mx (by rw [hv']; exact mv) (fun d hd => ?_) mlo ((hp'.map _).trans HP0.out) HW.out hlen
        · rcases q with q | q
          · exact mx q
          · exact mv q
        · rcases List.mem_cons.1 hd with q | q
          · rw [q]; exact HME.out _ HIN.out.1
          · exact HME.out d (List.mem_of_mem_tail (hp'.mem_iff.1 q))
      have hO1 := (hq'.els (.slice (some ⟨g, 0, none⟩) e2.length c, e2) (by simp)).1
      have hnl' : nl < e2.length := by omega
      have hcl : w1.cell? ⟨g, nl, none⟩ = some (.int .u64 (l.toNat : Int)) := by
        obtain ⟨ao, c', eq, _, _, _, q4⟩ := hO1.ru
        simp only [Value.slice.injEq] at eq
        obtain ⟨a', ea, q5⟩ := q4 nl hnl'
        rw [← eq.1] at ea
        obtain rfl := Option.some.inj ea
        rw [Addr.add_lit, Nat.zero_add] at q5
        rw [q5, (List.getElem?_eq_some_iff.1 hlast).2]
      have hwr : IntKind.i64.wrap ((e2.length : Int) - 1) = (nl : Int) := by rw [IntKind.wrap_i64]; omega
      have hnl1 : (nl : Int) < (e2.length : Int) := by omega
      have HO1 : Hid (Ou w.heap.size w1 (.slice (some ⟨g, 0, none⟩) e2.length c) e2 ∧ Below w.heap.size w w1) := ⟨hO1, hq'.base⟩
      have HNL : Hid (e2.length = nl + 1) := hnl
      clear hO1 hnl hlast hvx ev htk HS
      by_cases hlb : l = b
      · subst hlb
        have HF : Hid _ := HW.out.bfs _ (W.Bfs.here e2 q0 s HL.out)
        clear HIR hq' hp' hH' hc'
        go_wp2_with fail
        go_ret
        exact ⟨_, some e2, rfl, HF.out, HO1.out.1, (fun z e => by obtain rfl := Option.some.inj e; exact ⟨o2, hLB⟩), (fun e => by cases e), HO1.out.2⟩
      · have hne : ((l.toNat : Int) == (b.toNat : Int)) = false := by
          rw [beq_eq_false_iff_ne]; intro q; exact hlb (UInt64.toNat_inj.1 (by omega))
        have hne2 : ¬ l.toNat = b.toNat := fun q => hlb (UInt64.toNat_inj.1 q)
        have hfr := HFR.out w1 HO1.out.2 l
        go_wp2_with fail
        refine hfr.mono ?_
        rintro r w3 ⟨v3, rfl, hF, hF2, hb3⟩
        have hI3 := (HIR (E.filter (fun e => e.1 == l))).below hb3 (Nat.le_refl _)
        have hFE : ∀ k e, (E.filter (fun e => e.1 == l))[k]? = some e → e ∈ E := fun k e q => (List.mem_filter.1 (List.mem_of_getElem? q)).1
        have HDN : Hid (∀ {k rm : Nat} {v : Value} {H A : List HE} {q : List (List UInt64)} {s' : List UInt64} {w' : World}, IR w E x m g c e2 q0 s (E.filter (fun e => e.1 == l)) k rm v H A q s' w' → (E.filter (fun e => e.1 == l)).length ≤ k → WR w E a b x m (q0.length + W.cnt E s) w') := fun hir hk => hir.done hk hris HW.out HL.out hlb
        have hFl : (E.filter (fun e => e.1 == l)).length ≤ 4096 := Nat.le_trans (List.length_filter_le _ _) hlen
        have hF3 : ∀ W : World, Below w.heap.size w W → RdE W v3 (E.filter (fun e => e.1 == l)) := fun W hW => hF.same (fun b e => by rw [hW.block b (hF2 b e), HO1.out.2.block b (hF2 b e)])
        have HF3 : Hid (∀ W : World, Below w.heap.size w W → RdE W v3 (E.filter (fun e => e.1 == l))) := hF3
        obtain ⟨a3, c3, e3, hc3⟩ := hF.shape
        have HFE : Hid (∀ k e, (E.filter (fun e => e.1 == l))[k]? = some e → e ∈ E) := hFE
        generalize (E.filter (fun e => e.1 == l)) = F at *
        have hq0l : q0.length ≤ 4096 := by omega
        have HFN : Hid (q0.length + W.cnt E s < n) := by show _ < _; omega
        clear hF3 hF hF2 hFE hfr HIR hq' hp' hH' hc' hcl HL HW HP0 HIN HME HFR hlq hN
        subst e3
        go_wp2_with fail
        generalize wr = wOld at *
        go_loopw [11, 13, 14, 15, 43] (fun room _ _ _ i wr => ∃ (k rm : Nat) (v : Value) (H A : List HE) (q : List (List UInt64)) (s' : List UInt64), k ≤ F.length ∧ i = .int .i64 k ∧ room = .int .i64 rm ∧ IR w E x m g c e2 q0 s F k rm v H A q s' wr) (fun _ _ _ _ i _ => F.length - (intOf i).toNat)
        case atStart => exact ⟨0, c, _, _, _, _, _, Nat.zero_le _, rfl, rfl, hI3⟩
        case round =>
          obtain ⟨k, rm, vk, Hk, Ak, qk, sk, hk, rfl, rfl, hI⟩ := hrel
          clear hI3
          by_cases hlt : k < F.length
          · obtain ⟨⟨p1, p2⟩, hp⟩ : ∃ p, F[k]? = some p := ⟨_, List.getElem?_eq_getElem hlt⟩
            obtain ⟨ao3, c4, e4, -, -, -, h4⟩ := HF3.out wr hI.inn.hq.base
            simp only [Value.slice.injEq, true_and] at e4
            obtain ⟨rfl, rfl⟩ := e4
            obtain ⟨ga, rfl, d0, d1⟩ := h4 k _ hp
            simp only [] at d0 d1
            clear h4
            have hki : (k : Int) < (F.length : Int) := by omega
            have hbA := w_al wr (.cells #[.int .u64 (p1.toNat : Int), .int .u64 (p2.toNat : Int)] 31)
            have hlk := (hI.inn.sn.below hbA (Nat.le_refl _)).look p2
            have hbB : Below wr.heap.size wr ((wr.alloc (.cells #[.int .u64 (p1.toNat : Int), .int .u64 (p2.toNat : Int)] 31)).alloc (.cells #[] 65)) := Below.tr hbA (w_al _ _)
            have hIB := hI.below hbB (Nat.le_refl _)
            by_cases hsee : p2 ∈ sk
            · rw [decide_eq_true hsee] at hlk
              have HI2 : Hid _ := hIB.was hp hsee
              clear hI hIB hp
              go_wp2_with fail
              exact ⟨⟨k + 1, rm, _, _, _, _, _, by omega, by go_num, rfl, HI2.out⟩, by simp [intOf]; omega⟩
            · rw [decide_eq_false hsee] at hlk
              have hsl := hI.ls
              obtain ⟨w4, hup, hin4, hc4⟩ := hIB.inn.put (by omega) p2
              have hml := hI.inn.sn.lt
              have hcE : w4.cell? ⟨wr.heap.size, 1, none⟩ = some (.int .u64 (p2.toNat : Int)) := by
                have e1 : w4.heap[wr.heap.size]? = some (.cells #[.int .u64 (p1.toNat : Int), .int .u64 (p2.toNat : Int)] 31 (0, 0)) := by
                  rw [hc4.block wr.heap.size (by simp; omega) (by omega)]
                  exact (Below.heap_alloc _ _ _ (by simp)).trans (heap_alloc_new wr _)
                exact (box2 e1).2.1
              have hr1 : e2.length ≤ rm ∧ rm ≤ c := by
                rcases hin4.aa with ⟨_, q⟩ | ⟨_, q⟩
                · omega
                · omega
              obtain ⟨hr1, hr2⟩ := hr1
              have hr1i : (e2.length : Int) ≤ (rm : Int) := by omega
              have hr2i : (rm : Int) ≤ (c : Int) := by omega
              have hHl : Hk.length + 1 ≤ 1099511627776 := by
                have h1 := hI.perm.length_eq
                have h2 := hI.lq
                rw [List.length_map] at h1
                have h4 := W.cnt_le E s
                omega
              have hphk := hin4.hp
              have hxl := hI.inn.hq.xlt
              have hk6 : ∀ w5 w6 : World, w5.cell? ⟨wr.heap.size, 1, none⟩ = some (.int .u64 (p2.toNat : Int)) → Chg (fun b => b = x ∨ vk.ownBlock = some b) w5 w6 → w6.cell? ⟨wr.heap.size, 1, none⟩ = some (.int .u64 (p2.toNat : Int)) := fun w5 w6 h5 hc => by
                have hl5 := World.block_lt_of_cell? w5 _ h5
                refine (World.cell?_of_block (w := w5) (hc.block wr.heap.size hl5 (fun q => ?_))).trans h5
                rcases q with q | q
                · omega
                · have := (World.ownsRow.lt hI.inn.hq.row _ q).2
                  omega
              have HK6 : Hid _ := hk6
              clear hk6
              have hcy : ∀ W : World, (W.alloc (.cells #[.int .u64 (p2.toNat : Int)] 23)).cell? ⟨W.heap.size, 0, none⟩ = some (.int .u64 (p2.toNat : Int)) := fun W => by rw [World.cell?_alloc_at _ _ _ _ rfl]; rfl
              have hin5 : ∀ W : World, Below w4.heap.size w4 W → In w x m g c e2 rm vk Hk Ak (sk ++ [p2]) W := fun W hW => hin4.below hW (Nat.le_refl _)
              have hel : wr.heap.size < w4.heap.size := World.block_lt_of_cell? w4 _ hcE
              have hgl4 := hin4.gl
              have hc5e : ∀ w5 : World, ∀ W : World, Below w4.heap.size w4 W → Chg (fun b => b = g) W w5 → w5.cell? ⟨wr.heap.size, 1, none⟩ = some (.int .u64 (p2.toNat : Int)) := fun w5 W hW hc => by
                have hgw := hI.inn.gl
                rw [World.cell?_of_block (w := W) (hc.block wr.heap.size (Nat.lt_of_lt_of_le hel hW.size) (by omega)), hW.cell hel]
                exact hcE
              have HNEW : Hid (∀ {v2 v1 : Value} {H2 : List HE} {w2 : World}, In w x m g c e2 e2.length v2 H2 [] (sk ++ [p2]) w2 → H2.Perm (Hk ++ [(v1, e2 ++ [p2])]) → IR w E x m g c e2 q0 s F (k + 1) e2.length v2 H2 [] (qk ++ [e2 ++ [p2]]) (sk ++ [p2]) w2) := fun h1 h2 => hI.new hp (HFE.out k _ hp) hsee h1 h2
              have HC5 : Hid _ := hc5e
              have HIN5 : Hid (∀ W : World, Below w4.heap.size w4 W → In w x m g c e2 rm vk Hk Ak (sk ++ [p2]) W) := hin5
              clear hI hIB hp hin4 hc4 hc5e hin5
              go_wp2_with fail
              go_region_held3 (fun w' => w'.cell? ⟨wr.heap.size, 1, none⟩ = some (.int .u64 (p2.toNat : Int))) (go_keep) (first
                | (refine step_goOn rfl _ _ rfl (HIN5.out _ (by first | exact Below.tr (w_al w4 _) (Below.dN _ 1) | exact w_al w4 _ | exact Below.tr (Below.dN w4 1) (w_al _ _))) e2.length rfl rfl ⟨w4.heap.size, 0, none⟩ p2 rfl (hcy w4) ?_; intro v5 w5 hq5 hru5 hc5 hvm5 hsn5 hsh5; obtain ⟨z1, z2, z3, rfl⟩ := hsh5; have kE : w5.cell? ⟨wr.heap.size, 1, none⟩ = some (.int .u64 (p2.toNat : Int)) := HC5.out w5 _ (by first | exact Below.tr (w_al w4 _) (Below.dN _ 1) | exact w_al w4 _ | exact Below.tr (Below.dN w4 1) (w_al _ _)) hc5; have hs5 := hc5.size)
                | (go_at_call 33; refine (hpush_any hq5 hphk hHl).mono ?_; rintro r w6 ⟨⟨u, rfl⟩, v6, H6, hq6, hl6, hp6, hH6, hc6, hv6⟩; have kE6 := HK6.out w5 w6 kE hc6)
                | fail)
              have HI6 : Hid _ := HNEW.out ((HIN5.out _ (by first | exact Below.tr (w_al w4 (.cells #[.int .u64 (p2.toNat : Int)] 23)) (Below.dN _ 1) | exact w_al w4 (.cells #[.int .u64 (p2.toNat : Int)] 23))).pushed hq5 hru5 hvm5 hsn5 hs5 hq6 hp6 hH6 hc6 hv6) hp6
              clear hq5 hru5 hsn5 hq6 hp6 hH6 hc6 hv6 hc5
              go_wp2_with fail
              exact ⟨⟨k + 1, e2.length, _, _, _, _, _, by omega, by go_num, rfl, HI6.out⟩, by simp [intOf]; omega⟩
          · have HE : Hid _ := HDN.out hI (by omega)
            clear hI
            go_wp2_with fail
            exact ⟨⟨_, HE.out⟩, Nat.lt_of_le_of_lt (lst_le HE.out) HFN.out⟩
end Go.Proofs.Ytipnghaphfgalaa
