/- The document's Way, walked. -/
import Derived.Test.YtipnghaphfgalaaG47
import Derived.Deep.RegionHeld3
namespace Go.Proofs.Ytipnghaphfgalaa
open Go.RowKit
set_option linter.unusedVariables false
set_option maxRecDepth 100000

def WQ (w0 : World) (E : List Ed) (a b : UInt64) (n : Nat) (p : Value × Value × World) : Prop := ∃ F s, Wz w0 p.1 (.slice none 0 0) p.2.1 F [] s p.2.2 ∧ WJ E a b (F.map (·.2)) s ∧ F.length + W.cnt E s ≤ n
theorem rway_start (w : World) (E : List Ed) (a b : UInt64) : WQ w E a b (1 + E.length) (.slice (some ⟨w.heap.size + 1, 0, none⟩) 1 1, .slice (some ⟨w.heap.size + 1 + 1, 0, none⟩) 1 1, (((w.alloc (.cells #[.int .u64 (a.toNat : Int)] 23)).alloc (.cells #[.slice (some ⟨w.heap.size, 0, none⟩) 1 1] 27)).alloc (.cells #[.int .u64 (a.toNat : Int)] 23))) := by
  obtain ⟨W3, hW3⟩ : ∃ W3, W3 = (((w.alloc (.cells #[.int .u64 (a.toNat : Int)] 23)).alloc (.cells #[.slice (some ⟨w.heap.size, 0, none⟩) 1 1] 27)).alloc (.cells #[.int .u64 (a.toNat : Int)] 23)) := ⟨_, rfl⟩
  have k0 : W3.heap[w.heap.size]? = some (.cells #[.int .u64 (a.toNat : Int)] 23 (0, 0)) := by
    rw [hW3]; exact (Below.heap_alloc _ _ _ (by simp; omega)).trans ((Below.heap_alloc _ _ _ (by simp)).trans (heap_alloc_new w _))
  have k1 : W3.heap[w.heap.size + 1]? = some (.cells #[.slice (some ⟨w.heap.size, 0, none⟩) 1 1] 27 (0, 0)) := by
    have := heap_alloc_new (w.alloc (.cells #[.int .u64 (a.toNat : Int)] 23)) (.cells #[.slice (some ⟨w.heap.size, 0, none⟩) 1 1] 27)
    rw [World.size_alloc] at this
    rw [hW3]; exact (Below.heap_alloc _ _ _ (by simp)).trans this
  have k2 : W3.heap[w.heap.size + 1 + 1]? = some (.cells #[.int .u64 (a.toNat : Int)] 23 (0, 0)) := by
    have := heap_alloc_new ((w.alloc (.cells #[.int .u64 (a.toNat : Int)] 23)).alloc (.cells #[.slice (some ⟨w.heap.size, 0, none⟩) 1 1] 27)) (.cells #[.int .u64 (a.toNat : Int)] 23)
    rw [World.size_alloc, World.size_alloc] at this
    rw [hW3]; exact this
  have hb3 : Below w.heap.size w W3 := by rw [hW3]; exact (((w_al w _).alloc (by simp) _).alloc (by simp; omega) _)
  rw [← hW3]
  have hO : Ou w.heap.size W3 (.slice (some ⟨w.heap.size, 0, none⟩) 1 1) [a] := ⟨by rfl, .inr ⟨w.heap.size, 1, _, rfl, Nat.le_refl _, k0, Nat.le_refl _, by unfold maxLen; omega, rfl, rfl⟩⟩
  have hS : Ou w.heap.size W3 (.slice (some ⟨w.heap.size + 1 + 1, 0, none⟩) 1 1) [a] := ⟨by rfl, .inr ⟨w.heap.size + 1 + 1, 1, _, rfl, by omega, k2, Nat.le_refl _, by unfold maxLen; omega, rfl, rfl⟩⟩
  have hcl := W.cnt_le E [a]
  have be : ∀ {g b n c : Nat}, (Value.slice (some ⟨g, 0, none⟩) n c).ownBlock = some b → g = b := fun h => Option.some.inj h
  refine ⟨[(.slice (some ⟨w.heap.size, 0, none⟩) 1 1, [a])], [a], ⟨hb3, ⟨rfl, .inr ⟨w.heap.size + 1, 1, _, rfl, by omega, k1, Nat.le_refl _, by unfold maxLen; omega, rfl, rfl⟩⟩, World.ownsRow_nil _ _ _ _, hS, (fun g e q => by cases q), fun g e => ⟨fun q => ?_, (fun q => by cases q)⟩, fun d hd => ?_⟩, ⟨by simp; omega, by simp; omega, fun z hz => ?_, fun r hr => hr⟩, by simp; omega⟩
  · have h1 := be e; have h2 := be q; omega
  · rw [List.append_nil, List.mem_singleton] at hd
    subst hd
    refine ⟨hO, by simp, by simp, fun g e => ⟨fun q => ?_, (fun q => by cases q), fun q => ?_⟩⟩
    · have h1 := be e; have h2 := be q; omega
    · have h1 := be e; have h2 := be q; omega
  · simp at hz; subst hz; simp

theorem step_app1W {P : Program} {ops : Array Oper} {o : Oper} {a : Act} {w : World} {K : Act → World → Prop} {Q : Exit → Act → World → Prop} {E : Prop} (hgd : o.guard = none) (s x : Operand) (t : TypeId)
    (ho : o.op = .call { callee := .builtin .append, args := #[s, x], argTypes := #[t, t] })
    (base : Nat) (e : TypeId) (z : Value) (bytes : Nat) (ht : P.underlying t = some (.slice e)) (hinf : (P.info? e).map (fun i => (i.zero, i.size, i.bytes)) = some (some z, 1, bytes)) (hzs : z.cells.size = 1)
    (v : Value) (n : Nat) (xs : List Value) (hs : a.eval s = v) (hown : w.ownsRow base e 1 v n xs) (ad : Addr) (c : Nat) (u : Value) (hx : a.eval x = .slice (some ad) 1 c) (hu : w.cell? ad = some u) (h1 : u.oneCell' = true)
    (h63 : n + 1 ≤ maxLen) (hb : (n + 1) * bytes ≤ 140737488355328) (hbase : base ≤ w.heap.size)
    (hK : ∀ v' w', w'.ownsRow base e 1 v' (n + 1) (xs ++ [u]) → w.grownBy w' v.ownBlock → (v'.ownBlock = v.ownBlock ∨ v'.ownBlock = some w.heap.size) → K (a.put o.dst v') w') : if Region.wanted o (yielded ops a.tmps) = true then Oper.wp P o a w K Q else E := by
  have hw : Region.wanted o (yielded ops a.tmps) = true := by simp [Region.wanted, hgd]
  rw [if_pos hw]
  obtain ⟨v', w', hr, h2, h3, h4⟩ := run_app1 (P := P) w base t o.type e z bytes ht hinf hzs v n xs hown ad c u hu h1 h63 hb hbase
  unfold Oper.wp execOp
  simp only [ho, resolve, invoke, builtin, Sem.run_bind, Sem.run_pure, Result.andThen_ok, List.map_toArray, List.map_cons, List.map_nil, hs, hx, hr]
  exact hK v' w' h2 h3 h4
theorem up_alW {W0 W W' : World} (h : Below W0.heap.size W0 W) (h' : Below W.heap.size W W') : Below W0.heap.size W0 W' := h.trans (h'.mono h.size)
theorem cell_newW (w : World) (v : Value) (t : TypeId) : (w.alloc (.cells #[v] t)).cell? ⟨w.heap.size, 0, none⟩ = some v := by
  rw [World.cell?_alloc_at _ _ _ _ rfl]; rfl
set_option maxHeartbeats 4000000 in
theorem rway_any {B y : Nat} {v : Value} {E : List Ed} {w : World} (h : RGr B y v E w) (hl : E.length ≤ 4096) (a b : UInt64) :
    Calls Try.prog 30 #[.pointer (some ⟨y, 0, none⟩), .int .u64 (a.toNat : Int), .int .u64 (b.toNat : Int)] w fun r w' => ∃ v' ro, r = .returned v' ∧ W.Bfs E b [[a]] [a] ro ∧ Ru w' v' (ro.getD []) ∧ (∀ z, ro = some z → z ≠ [] ∧ z.length ≤ 4097) ∧ (ro = none → v' = .slice none 0 0) ∧ Below w.heap.size w w' := by
  obtain ⟨c0, cz⟩ := h.vx
  have hyl := h.xlt
  obtain ⟨ao, c, ev, h1, h2⟩ := h.row.rd.shape
  subst ev
  have HRE : Hid (RdE w (.slice ao E.length c) E) := h.row.rd
  have HKC : Hid (∀ w' : World, Below w.heap.size w w' → w'.cell? ⟨y, 0, none⟩ = some (.slice ao E.length c)) := fun w' hb => by rw [hb.cell hyl]; exact c0
  have hst := rway_start w E a b
  clear h c0 cz
  go_enter Try.func30, Try.ntmps30
  go_wp2_with fail
  go_loopw [7, 8, 9, 10, 11, 12, 13] (fun fv sv _ _ _ _ _ wr => ∃ n, WQ w E a b n (fv, sv, wr)) (fun fv sv _ _ _ _ _ wr => lst (WQ w E a b) (fv, sv, wr))
  case atStart => exact ⟨_, hst⟩
  case round =>
    have hR := lst_is hrel
    generalize hnn : lst (WQ w E a b) _ = n at hR
    have HNN : Hid _ := hnn
    clear hrel hst hnn
    obtain ⟨F, s, hz, hj, hN⟩ := hR
    simp only [] at hz
    obtain ⟨af, cf, ef, hcf1, hcf2, -⟩ := row_reads hz.fr
    subst ef
    unfold maxLen at hcf2
    by_cases hF0 : F.length = 0
    · have hFe : F = [] := List.length_eq_zero_iff.1 hF0
      subst hFe
      have HF : Hid _ := And.intro (hj.bfs none (W.Bfs.none s)) hz.base
      clear hz hj hN
      go_wp2_with fail
      go_ret
      exact ⟨_, none, rfl, HF.out.1, Ru.nil _, (fun z e => by cases e), fun _ => rfl, HF.out.2⟩
    · have hFp : (0 : Int) < (F.length : Int) := by omega
      have hFl : F.length ≤ 4097 := by have := hj.lq; simp at this; omega
      obtain ⟨M0, hM0⟩ : ∃ M0, F.length + W.cnt E s = M0 := ⟨_, rfl⟩
      have HM0 : Hid (F.length + W.cnt E s = M0 ∧ M0 ≤ n) := ⟨hM0, by omega⟩
      obtain ⟨nF, hnF⟩ : ∃ nF, nF = F.length := ⟨_, rfl⟩
      have HNF : Hid (F.length = nF) := hnF.symm
      rw [← hnF] at hFp hFl hF0 hcf1 HNN ⊢
      clear hM0 hN hnF
      have hFn : 0 < nF := by omega
      have hFd : decide (0 < nF) = true := decide_eq_true hFn
      obtain ⟨sa, sc, es⟩ := hz.sr.shape
      subst es
      have HZ0 : Hid (Wz w (.slice af F.length cf) (.slice none 0 0) (.slice sa s.length sc) F [] s wr) := hz
      have HJ0 : Hid (WJ E a b (F.map (·.2)) s) := hj
      rw [HNF.out] at HZ0
      clear hz hj
      generalize s.length = ns at *
      go_wp2_with fail
      go_loopw [8, 9, 10, 11, 12, 13] (fun sv nv i _ _ _ wr => ∃ (i0 : Nat) (N : List HE) (s : List UInt64), i0 ≤ nF ∧ i = .int .i64 i0 ∧ Wz w (.slice af nF cf) nv sv F N s wr ∧ Hid (WJ E a b ((F.drop i0 ++ N).map (·.2)) s) ∧ Hid ((F.drop i0 ++ N).length + W.cnt E s + i0 ≤ M0)) (fun _ _ i _ _ _ _ => nF - (intOf i).toNat)
      case atStart => exact ⟨0, [], s, Nat.zero_le _, rfl, HZ0.out, (by show WJ _ _ _ _ _; simpa using HJ0.out), (by show _ ≤ _; have := HM0.out.1; simp; omega)⟩
      case round =>
        obtain ⟨i, N, s2, hi, rfl, hz, HJ, HM⟩ := hrel
        clear HZ0 HJ0
        obtain ⟨an, cn, en, hcn1, hcn2, -⟩ := row_reads hz.nr
        subst en
        obtain ⟨sa2, sc2, es2⟩ := hz.sr.shape
        subst es2
        by_cases hlt : i < nF
        · obtain ⟨⟨ev, z⟩, he⟩ : ∃ e, F[i]? = some e := ⟨_, List.getElem?_eq_getElem (by rw [HNF.out]; exact hlt)⟩
          have hdr : F.drop i = (ev, z) :: F.drop (i + 1) := by
            obtain ⟨q1, q2⟩ := List.getElem?_eq_some_iff.1 he
            rw [List.drop_eq_getElem_cons q1, q2]
          have HJz : Hid (WJ E a b (z :: (F.drop (i + 1) ++ N).map (·.2)) s2) := by
            have := HJ.out
            rw [hdr] at this
            exact this
          have HMz : Hid (1 + (F.drop (i + 1) ++ N).length + W.cnt E s2 + i ≤ M0) := by
            have := HM.out
            rw [hdr] at this
            show _ ≤ _
            simp only [List.cons_append, List.length_cons] at this
            omega
          obtain ⟨o1, o2, o3, o4⟩ := hz.els (ev, z) (List.mem_append_left _ (List.mem_of_getElem? he))
          simp only [] at o1 o2 o3
          obtain ⟨g, cz2, eg, -⟩ := o1.some_ o2
          subst eg
          obtain ⟨gf, ef2, hcell⟩ : ∃ gf, af = some ⟨gf, 0, none⟩ ∧ wr.cell? ⟨gf, i, none⟩ = some (.slice (some ⟨g, 0, none⟩) z.length cz2) := by
            obtain ⟨a', c', e', _, _, _, h4⟩ := row_reads hz.fr
            simp only [Value.slice.injEq] at e'
            obtain ⟨gf, e2, q⟩ := h4 i (.slice (some ⟨g, 0, none⟩) z.length cz2) (by rw [List.getElem?_map, he]; rfl)
            exact ⟨gf, by rw [e'.1]; exact e2, q⟩
          subst ef2
          obtain ⟨l, hl'⟩ : ∃ l, z.getLast? = some l := by
            cases hgl : z.getLast? with
            | none => exact absurd (List.getLast?_eq_none_iff.1 hgl) o2
            | some l => exact ⟨l, rfl⟩
          obtain ⟨nl, hnl⟩ : ∃ nl, z.length = nl + 1 := ⟨z.length - 1, by have := List.length_pos_iff.2 o2; omega⟩
          have hlast : z[nl]? = some l := by rw [← hl', List.getLast?_eq_getElem?, hnl]; rfl
          have hcl : wr.cell? ⟨g, nl, none⟩ = some (.int .u64 (l.toNat : Int)) := by
            rcases o1.blk with ⟨q, _⟩ | ⟨g', c', e', _, _, _, _, q5, _⟩
            · cases q
            · simp only [Value.slice.injEq, Option.some.injEq, Addr.mk.injEq, and_true, true_and] at e'
              obtain ⟨rfl, rfl⟩ := e'
              have := q5 nl (by omega)
              rw [this, (List.getElem?_eq_some_iff.1 hlast).2]
          have hii : (i : Int) < (nF : Int) := by omega
          have hwr : IntKind.i64.wrap ((z.length : Int) - 1) = (nl : Int) := by rw [IntKind.wrap_i64]; omega
          have hnl1 : (nl : Int) < (z.length : Int) := by omega
          have HL : Hid (z.getLast? = some l) := hl'
          have HO1 : Hid (Ru wr (.slice (some ⟨g, 0, none⟩) z.length cz2) z ∧ Below w.heap.size w wr) := ⟨o1.ru, hz.base⟩
          have hLB : z.length ≤ 4097 := by
            have h1 := (HJz.out.lz z List.mem_cons_self).1
            have h2 := HJz.out.ls
            omega
          have HMEM : Hid ((.slice (some ⟨g, 0, none⟩) z.length cz2, z) ∈ F) := List.mem_of_getElem? he
          have HZE : Hid (z ≠ []) := o2
          clear he hdr HJ HM o1 o3 o4 hl' hlast hnl
          by_cases hlb : l = b
          · subst hlb
            have HF : Hid _ := HJz.out.bfs _ (W.Bfs.here z _ s2 HL.out)
            clear hz
            generalize s2.length = ns2 at *
            go_wp2_with fail
            go_ret
            exact ⟨_, some z, rfl, HF.out, HO1.out.1, (fun u e => by obtain rfl := Option.some.inj e; exact ⟨HZE.out, hLB⟩), (fun e => by cases e), HO1.out.2⟩
          · have hne : ((l.toNat : Int) == (b.toNat : Int)) = false := by
              rw [beq_eq_false_iff_ne]; intro q; exact hlb (UInt64.toNat_inj.1 (by omega))
            have hne2 : ¬ l.toNat = b.toNat := fun q => hlb (UInt64.toNat_inj.1 q)
            obtain ⟨q0, hq0⟩ : ∃ q0, q0 = (F.drop (i + 1) ++ N).map (·.2) := ⟨_, rfl⟩
            have HQ0 : Hid (q0 = (F.drop (i + 1) ++ N).map (·.2)) := hq0
            have HJs : Hid (JR E z l q0 s2 0 ((F.drop (i + 1) ++ N).map (·.2)) s2) := by
              have := HJz.out
              rw [← hq0] at this ⊢
              exact JR.start this
            have HZw : Hid (Wz w (.slice (some ⟨gf, 0, none⟩) nF cf) (.slice an N.length cn) (.slice sa2 s2.length sc2) F N s2 wr) := hz
            rw [← hq0] at HJz
            have hq0l : q0.length = (F.drop (i + 1) ++ N).length := by rw [hq0, List.length_map]
            have HML : Hid (1 + q0.length + W.cnt E s2 + i ≤ M0) := by show _ ≤ _; rw [hq0l]; exact HMz.out
            clear hq0 hz HMz hq0l
            generalize hns2 : s2.length = ns2 at HZw ⊢
            generalize hnN : N.length = nN at HZw ⊢
            clear hns2 hnN
            go_wp2_with fail
            clear hcell hcl
            go_loopw [8, 9, 13] (fun sv nv kk wr => ∃ (k : Nat) (N3 : List HE) (s3 : List UInt64), k ≤ E.length ∧ kk = .int .i64 k ∧ Wz w (.slice (some ⟨gf, 0, none⟩) nF cf) nv sv F N3 s3 wr ∧ Hid (JR E z l q0 s2 k ((F.drop (i + 1) ++ N3).map (·.2)) s3)) (fun _ _ kk _ => E.length - (intOf kk).toNat)
            case atStart => exact ⟨0, N, s2, Nat.zero_le _, rfl, HZw.out, HJs⟩
            case round =>
              obtain ⟨k, N3, s3, hk, rfl, hz3, HJ3⟩ := hrel
              clear HZw HJs
              obtain ⟨an3, cn3, en3, -⟩ := row_reads hz3.nr
              subst en3
              obtain ⟨sa3, sc3, es3⟩ := hz3.sr.shape
              subst es3
              have dG := HKC.out wr hz3.base
              by_cases hltk : k < E.length
              · obtain ⟨⟨p1, p2⟩, hp⟩ : ∃ p, E[k]? = some p := ⟨_, List.getElem?_eq_getElem hltk⟩
                obtain ⟨ad, rfl, e0, e1⟩ := (HRE.out.below hz3.base (Nat.le_refl _)).at_ hp
                simp only [] at e0 e1
                have hki : (k : Int) < (E.length : Int) := by omega
                have hs3l : s3.length ≤ 4097 := by have := HJ3.out.ls; omega
                by_cases z1 : p1 = l
                · have hin := rin_any hz3.sr.ru (by omega) p2
                  by_cases z2 : p2 ∈ s3
                  · rw [decide_eq_true z2] at hin
                    have HE : Hid _ := And.intro hz3 (HJ3.out.other hp (.inr z2))
                    have g1 : ((p1.toNat : Int) == (l.toNat : Int)) = true := by rw [u_eq]; simpa using z1
                    clear hz3 HJ3 hp z2 z1
                    generalize hls : s3.length = ls3 at HE hin hs3l ⊢
                    generalize hln : N3.length = ln3 at HE ⊢
                    clear hls hln
                    go_wp2_with fail
                    refine hin.mono ?_
                    rintro r w6 ⟨rfl, hw6⟩
                    rw [hw6]
                    clear hw6
                    go_wp2_with fail
                    exact ⟨⟨k + 1, N3, s3, by omega, by go_num, HE.out.1, HE.out.2⟩, by simp [intOf]; omega⟩
                  · rw [decide_eq_false z2] at hin
                    have g1 : ((p1.toNat : Int) == (l.toNat : Int)) = true := by rw [u_eq]; simpa using z1
                    have HJn : Hid (JR E z l q0 s2 (k + 1) ((F.drop (i + 1) ++ N3).map (·.2) ++ [z ++ [p2]]) (s3 ++ [p2])) := HJ3.out.new hp z1 z2
                    have hbA := w_al wr (.cells #[.int .u64 (p2.toNat : Int)] 23)
                    have hzA := hz3.below hbA (Nat.le_refl _)
                    have hsA := hzA.sr
                    have hrA : Ru (wr.alloc (.cells #[.int .u64 (p2.toNat : Int)] 23)) (.slice (some ⟨wr.heap.size, 0, none⟩) 1 1) [p2] := ru_one wr _ p2 rfl _ _ rfl
                    have hBs : w.heap.size ≤ (wr.alloc (.cells #[.int .u64 (p2.toNat : Int)] 23)).heap.size := Nat.le_trans hz3.base.size hbA.size
                    have hln1 : s3.length + [p2].length ≤ 10995116277760 := by simp; omega
                    have HZA : Hid (Wz w (.slice (some ⟨gf, 0, none⟩) nF cf) (.slice an3 N3.length cn3) (.slice sa3 s3.length sc3) F N3 s3 (wr.alloc (.cells #[.int .u64 (p2.toNat : Int)] 23))) := hzA
                    have HEC : Hid (∀ W : World, Below w.heap.size w W → W.cell? ⟨(ad.add (k * 2)).block, (ad.add (k * 2)).off + 1, none⟩ = some (.int .u64 (p2.toNat : Int))) := fun W hW => by
                      obtain ⟨ad', ea, _, q⟩ := (HRE.out.below hW (Nat.le_refl _)).at_ hp
                      obtain rfl := Option.some.inj ea
                      exact q
                    have hN3l : N3.length ≤ 4097 := by
                      have h1 := HJn.out.lq
                      have h2 := HJz.out.lq
                      simp only [List.length_cons] at h2
                      simp only [List.length_append, List.length_map, List.length_singleton] at h1
                      omega
                    clear hz3 HJ3 hp z1 z2 hzA
                    go_wp2_with fail
                    refine hin.mono ?_
                    rintro r w6 ⟨rfl, hw6⟩
                    subst hw6
                    go_wp2_with (first | (at_builtin; refine wpList_appU rfl _ _ rfl w.heap.size _ s3 rfl hsA _ [p2] rfl hrA hBs hln1 ?_; intro sv5 wS ho5 hg5 hv5; obtain ⟨a5, n5, c5, rfl⟩ := row_shape ho5) | fail)
                    have hzS : Wz w (.slice (some ⟨gf, 0, none⟩) nF cf) (.slice an3 N3.length cn3) (.slice a5 n5 c5) F N3 (s3 ++ [p2]) wS := HZA.out.seen hg5 ho5 hv5
                    clear hg5 hv5 ho5 hrA hsA hBs hbA hin
                    have HZS : Hid (Wz w (.slice (some ⟨gf, 0, none⟩) nF cf) (.slice an3 N3.length cn3) (.slice a5 n5 c5) F N3 (s3 ++ [p2]) wS) := hzS
                    have KY : Hid (∀ W' : World, Below wS.heap.size wS W' → W'.cell? ⟨y, 0, none⟩ = some (.slice (some ad) E.length c) ∧ W'.cell? ⟨(ad.add (k * 2)).block, (ad.add (k * 2)).off + 1, none⟩ = some (.int .u64 (p2.toNat : Int))) := fun W' hb => ⟨HKC.out W' (hzS.base.trans (hb.mono hzS.base.size)), HEC.out W' (hzS.base.trans (hb.mono hzS.base.size))⟩
                    have HRZ : Hid (∀ W' : World, Below wS.heap.size wS W' → Ru W' (.slice (some ⟨g, 0, none⟩) z.length cz2) z) := fun W' hb => ((hzS.els _ (List.mem_append_left _ HMEM.out)).1.below hb (Nat.le_refl _)).ru
                    have HNR : Hid (∀ W' : World, Below wS.heap.size wS W' → W'.ownsRow w.heap.size 27 1 (.slice an3 N3.length cn3) N3.length (N3.map (·.1))) := fun W' hb => ownsRow_belP hzS.nr hb (Nat.le_refl _)
                    have hwS : w.heap.size ≤ wS.heap.size := hzS.base.size
                    have hB0 : Below wS.heap.size wS wS := Below.refl _ _
                    have hBd : Below wS.heap.size wS wS.drew := Below.dN wS 1
                    have hBa : Below wS.heap.size wS (wS.alloc (.cells #[.int .u64 (p2.toNat : Int)] 23)) := w_al _ _
                    have hBad : Below wS.heap.size wS (wS.alloc (.cells #[.int .u64 (p2.toNat : Int)] 23)).drew := up_alW hBa (Below.dN _ 1)
                    obtain ⟨hyS, heS⟩ := KY.out wS hB0
                    have HJ5 : Hid (∀ v2 : Value, JR E z l q0 s2 (k + 1) ((F.drop (i + 1) ++ (N3 ++ [(v2, z ++ [p2])])).map (·.2)) (s3 ++ [p2])) := fun v2 => by
                      have := HJn.out
                      rw [← List.append_assoc, List.map_append]
                      exact this
                    clear hzS HJn HZA
                    go_region_held3 (fun w' => w'.cell? ⟨y, 0, none⟩ = some (.slice (some ad) E.length c) ∧ w'.cell? ⟨(ad.add (k * 2)).block, (ad.add (k * 2)).off + 1, none⟩ = some (.int .u64 (p2.toNat : Int))) (go_keep) (first
                      | (have hq := ho3; refine step_app1W rfl _ _ 63 rfl w.heap.size 27 (.slice none 0 0) 24 Try.underlying63 Try.infoW rfl (.slice an3 N3.length cn3) N3.length (N3.map (·.1)) rfl (World.ownsRow.alloc (HNR.out _ hb3) _) ⟨w3.heap.size, 0, none⟩ 1 (.slice m1 m2 m3) rfl (cell_newW w3 _ _) rfl (by unfold maxLen; omega) (by omega) (by rw [World.size_alloc]; have := hb3.size; omega) ?_; intro nv5 w5 hr5 hg5 hv5; have HW5 := HZS.out.push (up_alW hb3 (w_al w3 _)) (ho3.alloc _) (by simp) (by simp; omega) hg5 (by rw [List.length_append, List.map_append]; exact hr5) hv5; obtain ⟨a6, c6, rfl, -⟩ := row_reads HW5.nr; have HW6 : Hid _ := HW5; clear HW5 hr5 hg5 hv5; have t0 := HKC.out w5 HW6.out.base; have t1 := HEC.out w5 HW6.out.base)
                      | (have hq := hy2; refine step_app1U rfl _ _ rfl wS.heap.size _ z rfl ho2s ⟨wS.heap.size, 0, none⟩ p2 rfl hy2 hb2.size (by omega) ?_; intro v3 w3 ho3 hg3 hsh3; obtain ⟨m1, m2, m3, rfl⟩ := hsh3; have hb3 : Below wS.heap.size wS w3 := hb2.grown hg3 hb2.size (fun j e => (ho2s.lt j e).1); obtain ⟨t0, t1⟩ := KY.out w3 hb3)
                      | (have hq := ho2s; refine step_app1U rfl _ _ rfl wS.heap.size _ z rfl (ho2s.alloc _) ⟨w2.heap.size, 0, none⟩ p2 rfl (cell_newW w2 _ _) (Nat.le_trans hb2.size (by simp)) (by omega) ?_; intro v3 w3 ho3 hg3 hsh3; obtain ⟨m1, m2, m3, rfl⟩ := hsh3; have hb3 : Below wS.heap.size wS w3 := (up_alW hb2 (w_al w2 _)).grown hg3 (Nat.le_trans hb2.size (by simp)) (fun j e => (ho2s.lt j e).1); obtain ⟨t0, t1⟩ := KY.out w3 hb3)
                      | (refine step_app0 rfl _ _ rfl rfl _ z rfl (HRZ.out _ (by assumption)) HZE.out (by omega) ?_; intro v2 w2 ho2 hb2' hsh2; obtain ⟨m1, m2, m3, rfl⟩ := hsh2; have hb2 : Below wS.heap.size wS w2 := (by first | exact up_alW hB0 hb2' | exact up_alW hBd hb2' | exact up_alW hBa hb2' | exact up_alW hBad hb2'); have ho2s : Ou wS.heap.size w2 (.slice m1 m2 m3) z := ho2.mono (by first | exact hB0.size | exact hBd.size | exact hBa.size | exact hBad.size); (try (have hy2 : w2.cell? ⟨wS.heap.size, 0, none⟩ = some (.int .u64 (p2.toNat : Int)) := (by first | exact (hb2'.cell (by simp)).trans (cell_newW wS _ _) | exact (hb2'.cell (by simp)).trans (by exact cell_newW wS _ _)))); obtain ⟨t0, t1⟩ := KY.out w2 hb2)
                      | fail)
                    all_goals (go_wp2_with fail; exact ⟨⟨k + 1, N3 ++ [(.slice m1 m2 m3, z ++ [p2])], s3 ++ [p2], by omega, by go_num, (by have := HW6.out; rw [List.length_append] at this; exact this), HJ5.out _⟩, by simp [intOf]; omega⟩)
                · have g1 : ((p1.toNat : Int) == (l.toNat : Int)) = false := by rw [u_eq]; simpa using z1
                  have g2 : ¬ p1.toNat = l.toNat := fun q => z1 (UInt64.toNat_inj.1 q)
                  have HE : Hid _ := And.intro hz3 (HJ3.out.other hp (.inl z1))
                  clear hz3 HJ3 hp
                  generalize hls : s3.length = ls3 at *
                  generalize hln : N3.length = ln3 at *
                  clear hls hln
                  go_wp2_with fail
                  exact ⟨⟨k + 1, N3, s3, by omega, by go_num, HE.out.1, HE.out.2⟩, by simp [intOf]; omega⟩
              · obtain rfl : k = E.length := by omega
                have HE : Hid (Wz w (.slice (some ⟨gf, 0, none⟩) nF cf) (.slice an3 N3.length cn3) (.slice sa3 s3.length sc3) F N3 s3 wr ∧ WJ E a b ((F.drop (i + 1) ++ N3).map (·.2)) s3 ∧ (F.drop (i + 1) ++ N3).length + W.cnt E s3 + (i + 1) ≤ M0) := by
                  refine ⟨hz3, HJ3.out.done (Nat.le_refl _) HJz.out HL.out hlb, ?_⟩
                  have h1 := HJ3.out.lq
                  rw [List.length_map] at h1
                  have h2 := HML.out
                  omega
                clear hz3 HJ3
                generalize hls : s3.length = ls3 at HE ⊢
                generalize hln : N3.length = ln3 at HE ⊢
                clear hls hln
                go_wp2_with fail
                exact ⟨⟨i + 1, N3, s3, by omega, by go_num, HE.out.1, HE.out.2.1, HE.out.2.2⟩, by simp [intOf]; omega⟩
        · obtain rfl : i = nF := by omega
          have hdr : F.drop i = [] := List.drop_of_length_le (by rw [HNF.out]; exact Nat.le_refl _)
          have HE : Hid (WQ w E a b (N.length + W.cnt E s2) (.slice an N.length cn, .slice sa2 s2.length sc2, wr) ∧ N.length + W.cnt E s2 < n) := by
            have hJ := HJ.out
            have hM := HM.out
            rw [hdr, List.nil_append] at hJ hM
            refine ⟨⟨N, s2, ?_, hJ, Nat.le_refl _⟩, by have := HM0.out.2; omega⟩
            exact ⟨hz.base, hz.nr, World.ownsRow_nil _ _ _ _, hz.sr, (fun g e q => by cases q), fun g e => ⟨(hz.fs g e).2, (fun q => by cases q)⟩, fun d hd => by
              rw [List.append_nil] at hd
              obtain ⟨q1, q2, q3, q4⟩ := hz.els d (List.mem_append_right _ hd)
              exact ⟨q1, q2, q3, fun g e => ⟨(q4 g e).2.1, (fun q => by cases q), (q4 g e).2.2⟩⟩⟩
          clear hz HJ HM hdr
          generalize s2.length = ns2 at *
          go_wp2_with fail
          exact ⟨⟨_, HE.out.1⟩, Nat.lt_of_le_of_lt (lst_le HE.out.1) (Nat.lt_of_lt_of_eq HE.out.2 HNN.out.symm)⟩
end Go.Proofs.Ytipnghaphfgalaa
