/- While the ways that go on from a way e are pushed: what stands in memory. -/
import Derived.Test.YtipnghaphfgalaaG24
import Derived.Test.YtipnghaphfgalaaG30
import Derived.Test.YtipnghaphfgalaaG31
namespace Go.Proofs.Ytipnghaphfgalaa
open Go.RowKit
set_option linter.unusedVariables false
set_option maxRecDepth 100000

theorem run_appGrowU (w : World) (ty : TypeId) (B : Nat) (hB : B ≤ w.heap.size) {g : Addr} {n r c : Nat} {l : List UInt64} (hl : Ru w (.slice (some g) n c) l) (hr : r = n) (hn : l.length ≤ 8192) (p : Addr) (y : UInt64) (hy : w.cell? p = some (.int .u64 (y.toNat : Int))) :
    ∃ v' w', (Builtin.append_ #[27, 27] ty #[.slice (some g) n r, .slice (some p) 1 1]).run Try.prog w = .ok v' w' ∧ Ou B w' v' (l ++ [y]) ∧ Below w.heap.size w w' ∧ v'.ownBlock = some w.heap.size := by
  obtain ⟨i, hi, hz0, hz1, hz2⟩ := info_parts Try.infoU
  obtain ⟨ao, c', e, h1, h2, h3, h4⟩ := hl
  simp only [Value.slice.injEq] at e
  obtain ⟨rfl, rfl, rfl⟩ := e
  subst hr
  have hc : ∀ j v, (celU l)[j]? = some v → w.cell? (g.add j) = some v := fun j v hj => by
    have hjl : j < l.length := by have := (List.getElem?_eq_some_iff.1 hj).1; rwa [celU_length] at this
    obtain ⟨a, e, q⟩ := h4 j hjl
    obtain rfl := Option.some.inj e
    rw [celU_get l j hjl] at hj
    rw [q]; exact hj
  have hr := run_append_grow (P := Try.prog) w 27 ty 23 i (.int .u64 0) Try.underlying27 hi hz0 g l.length l.length (celU l) (by rw [hz1, celU_length, Nat.mul_one]) hc p 1 1 (celU [y]) (by rw [hz1]; rfl) (fun j v hj => by
    cases j with
    | zero => simp [celU] at hj; subst hj; exact hy
    | succ j => simp [celU] at hj) (by omega) (by omega) (by rw [hz2]; exact growslice_fits (by omega) (by omega))
  have hge := grownCap_ge w (l.length + 1) l.length 23
  have hcm : grownCap w (l.length + 1) l.length 23 ≤ maxLen := grownCap_le_maxLen w (l.length + 1) l.length 23 (by unfold maxLen; omega)
  refine ⟨_, _, hr, ⟨by rw [celU_length]; simp, .inr ⟨w.heap.size, _, _, by rw [List.length_append]; rfl, hB, heap_alloc_new w.drew _, by rw [List.length_append]; exact hge, hcm, ?_, ?_⟩⟩, ?_, rfl⟩
  · simp only [Array.size_append, List.size_toArray, size_zeroCells, celU_length, Value.cells, List.length_singleton]
    simp
    omega
  · simp only [Array.toList_append, List.append_assoc]
    rw [← List.append_assoc, ← celU_append, List.length_append, List.length_singleton, Nat.mul_one]
    have : (celU (l ++ [y])).length = l.length + 1 := by rw [celU_length]; simp
    rw [← this]
    exact List.take_left
  · exact Below.tr (Below.dN w 1) (w_al _ _)

/-- The way e = (.slice g n c, z) was taken; room: what its next one may use; A: e, as long as nobody took its block over. -/
structure In (w0 : World) (x m g c : Nat) (z : List UInt64) (room : Nat) (v : Value) (H A : List HE) (s : List UInt64) (w : World) : Prop where
  hq : Hq w0 x v w H A
  hp : M.Hp helt H H.length
  sn : Sn m s w
  mx : m ≠ x
  mv : v.ownBlock ≠ some m
  me : ∀ d ∈ A ++ H, d.1.ownBlock ≠ some m
  mlo : w0.heap.size ≤ m
  ru : Ru w (.slice (some ⟨g, 0, none⟩) z.length c) z
  gx : g ≠ x
  gv : v.ownBlock ≠ some g
  gm : g ≠ m
  gl : g < w.heap.size
  nz : z ≠ []
  lz : z.length + 1 ≤ 8192
  aa : (A = [(.slice (some ⟨g, 0, none⟩) z.length c, z)] ∧ room = c) ∨ (A = [] ∧ room = z.length)
section
variable {w0 : World} {x m g c : Nat} {z : List UInt64} {room : Nat} {v : Value} {H A : List HE} {s : List UInt64} {w w' : World}
theorem Ru.keptC {S : Nat → Prop} {w w' : World} {v : Value} {l : List UInt64} (h : Ru w v l) (hg : Chg S w w') (hne : ∀ b, v.ownBlock = some b → ¬ S b) : Ru w' v l := by
  obtain ⟨ao, c, rfl, h1, h2, h3, h4⟩ := h
  refine ⟨ao, c, rfl, h1, h2, h3, fun i hi => ?_⟩
  obtain ⟨a, rfl, hc⟩ := h4 i hi
  have hlt := World.block_lt_of_cell? w _ hc
  rw [add_block] at hlt
  refine ⟨a, rfl, ?_⟩
  rw [World.cell?_of_block (w := w) (by rw [add_block]; exact hg.block a.block hlt (hne a.block rfl))]
  exact hc
theorem In.below {C : Nat} (h : In w0 x m g c z room v H A s w) (hb : Below C w w') (hC : w.heap.size ≤ C) : In w0 x m g c z room v H A s w' :=
  ⟨h.hq.below hb hC, h.hp, h.sn.below hb hC, h.mx, h.mv, h.me, h.mlo, h.ru.below hb hC, h.gx, h.gv, h.gm, Nat.lt_of_lt_of_le h.gl hb.size, h.nz, h.lz, h.aa⟩
/-- One more number is seen. -/
theorem In.put (h : In w0 x m g c z room v H A s w) (hn : s.length < 1099511627776) (y : UInt64) : ∃ w2, (Instr.mapUpdate 66 (.map (some m)) (.int .u64 (y.toNat : Int)) (.agg #[])).run Try.prog w = .ok () w2 ∧ In w0 x m g c z room v H A (s ++ [y]) w2 ∧ Chg (fun b => b = m) w w2 := by
  obtain ⟨w2, hr, hs, hc⟩ := h.sn.put hn y
  refine ⟨w2, hr, ⟨h.hq.kept hc (fun b _ e => by rw [e]; exact h.mlo) (fun e => h.mx e.symm) (fun b e e2 => h.mv (by rw [e, e2])) (fun d hd b e e2 => h.me d hd (by rw [e, e2])), h.hp, hs, h.mx, h.mv, h.me, h.mlo, h.ru.keptC hc (fun b e e2 => h.gm ((Option.some.inj e).trans e2)), h.gx, h.gv, h.gm, Nat.lt_of_lt_of_le h.gl hc.size, h.nz, h.lz, h.aa⟩, hc⟩
/-- 'append(w[:len(w):room], y)'. -/
theorem In.app (h : In w0 x m g c z room v H A s w) (ty : TypeId) (p : Addr) (y : UInt64) (hy : w.cell? p = some (.int .u64 (y.toNat : Int))) :
    ∃ v' w', (Builtin.append_ #[27, 27] ty #[.slice (some ⟨g, 0, none⟩) z.length room, .slice (some p) 1 1]).run Try.prog w = .ok v' w' ∧ Hq w0 x v w' H [(v', z ++ [y])] ∧ Ru w' (.slice (some ⟨g, 0, none⟩) z.length c) z ∧ Chg (fun b => b = g) w w' ∧ v'.ownBlock ≠ some m ∧ Sn m s w' ∧ ∃ q1 q2 q3, v' = .slice q1 q2 q3 := by
  have hbs := h.hq.base.size
  have hgrow : room = z.length → ∃ v' w', (Builtin.append_ #[27, 27] ty #[.slice (some ⟨g, 0, none⟩) z.length room, .slice (some p) 1 1]).run Try.prog w = .ok v' w' ∧ Hq w0 x v w' H [(v', z ++ [y])] ∧ Ru w' (.slice (some ⟨g, 0, none⟩) z.length c) z ∧ Chg (fun b => b = g) w w' ∧ v'.ownBlock ≠ some m ∧ Sn m s w' ∧ ∃ q1 q2 q3, v' = .slice q1 q2 q3 := fun hr => by
    obtain ⟨v', w', r1, r2, r3, r4⟩ := run_appGrowU w ty w0.heap.size hbs h.ru hr (by have := h.lz; omega) p y hy
    have h1 := h.hq.below r3 (Nat.le_refl _)
    refine ⟨v', w', r1, ⟨h1.base, h1.hx, h1.cx, h1.row, h1.ne, fun d hd => ?_, ?_⟩, h.ru.below r3 (Nat.le_refl _), (Chg.of_below r3).mono (fun b q1 q2 => by omega), ?_, h.sn.below r3 (Nat.le_refl _), ?_⟩
    · rcases List.mem_append.1 hd with q | q
      · rw [List.mem_singleton.1 q]
        refine ⟨r2, by simp, by rw [List.length_append]; exact h.lz, ?_, ?_⟩
        · rw [r4]; intro e; have := h.hq.xlt; have := Option.some.inj e; omega
        · rw [r4]; intro e; have := (World.ownsRow.lt h.hq.row _ e.symm).2; omega
      · exact h1.els d (List.mem_append_right _ q)
    · rw [List.singleton_append, List.pairwise_cons]
      refine ⟨fun d hd e => ?_, (List.pairwise_append.1 h1.dis).2.1⟩
      rw [r4] at e
      have := ((h.hq.els d (List.mem_append_right _ hd)).1.lt _ e.symm).2
      omega
    · rw [r4]; intro e; have := h.sn.lt; have := Option.some.inj e; omega
    · obtain ⟨q1, q2, e⟩ := r2.shape
      exact ⟨_, _, _, e⟩
  rcases h.aa with ⟨hA, hr⟩ | ⟨hA, hr⟩
  · by_cases hc : z.length = c
    · exact hgrow (hr.trans hc.symm)
    · subst hr
      have he := h.hq.els (.slice (some ⟨g, 0, none⟩) z.length room, z) (by rw [hA]; simp)
      obtain ⟨o1, o2, o3, o4, o5⟩ := he
      simp only [] at o1 o2 o3 o4 o5
      obtain ⟨v', w', r1, r2, r3, r4⟩ := run_appN (P := Try.prog) w w0.heap.size 27 ty 23 (.int .u64 0) 8 Try.underlying27 Try.infoU rfl _ z.length (celU z) o1 p 1 1 (celU [y]) rfl (fun j u hu => by
        cases j with
        | zero => simp [celU] at hu; subst hu; exact hy
        | succ j => simp [celU] at hu) (celU_one [y]) (by have := h.lz; unfold maxLen; omega) (by have := h.lz; omega) hbs
      have hO : Ou w0.heap.size w' v' (z ++ [y]) := by unfold Ou; rw [celU_append, List.length_append]; exact r2
      have hroom : z.length + 1 ≤ room := by
        obtain ⟨_, _, e, q1, _⟩ := h.ru
        simp only [Value.slice.injEq] at e
        obtain ⟨_, _, rfl⟩ := e
        omega
      have hvb : v' = .slice (some ⟨g, 0, none⟩) (z.length + 1) room := by
        rcases o1.2 with ⟨q, q0⟩ | ⟨g', cap, cur, q, hB', hg, q1, q2', q3', q4'⟩
        · cases q
        · simp only [Value.slice.injEq, Option.some.injEq, Addr.mk.injEq, and_true, true_and] at q
          obtain ⟨rfl, rfl⟩ := q
          obtain ⟨i, hi, hz0, hz1, hz2⟩ := info_parts Try.infoU
          have hr2 := run_append_room (P := Try.prog) w 27 ty 23 i Try.underlying27 hi g z.length room cur hg p 1 1 (celU [y]) (by rw [hz1]; rfl) (fun j u hu => by
            cases j with
            | zero => simp [celU] at hu; subst hu; exact hy
            | succ j => simp [celU] at hu) (celU_one [y]) hroom (by rw [hz1]; simp [celU]; omega)
          rw [hr2] at r1
          simp only [Result.ok.injEq] at r1
          exact r1.1.symm
      have hch : Chg (fun b => b = g) w w' := Chg.of_grown r3 (fun b e _ => (Option.some.inj e).symm)
      have hd0 : ∀ d ∈ H, d.1.ownBlock ≠ some g := fun d hd => by
        have hdis := h.hq.dis
        rw [hA, List.singleton_append, List.pairwise_cons] at hdis
        exact (hdis.1 d hd).symm
      have h1 : Hq w0 x v w' H [] := by
        have h0 : Hq w0 x v w H [] := ⟨h.hq.base, h.hq.hx, h.hq.cx, h.hq.row, h.hq.ne, fun d hd => h.hq.els d (List.mem_append_right _ hd), (List.pairwise_append.1 h.hq.dis).2.1⟩
        exact h0.kept hch (fun b _ e => by rw [e]; exact (o1.lt g rfl).1) (fun e => h.gx e.symm) (fun b e e2 => h.gv (by rw [e, e2])) (fun d hd b e e2 => hd0 d hd (by rw [e, e2]))
      refine ⟨v', w', r1, ⟨h1.base, h1.hx, h1.cx, h1.row, h1.ne, fun d hd => ?_, ?_⟩, ?_, hch, ?_, h.sn.keptC hch (fun e => h.gm e.symm), ?_⟩
      · rcases List.mem_append.1 hd with q | q
        · rw [List.mem_singleton.1 q]
          exact ⟨hO, by simp, by rw [List.length_append]; exact h.lz, by rw [hvb]; exact o4, by rw [hvb]; exact o5⟩
        · exact h1.els d q
      · rw [List.singleton_append, List.pairwise_cons]
        exact ⟨fun d hd e => hd0 d hd (by rw [← e, hvb]; rfl), h1.dis⟩
      · have hq := hO.ru
        rw [hvb] at hq
        obtain ⟨ao, c', e, q1, q2, q3, q4⟩ := hq
        simp only [Value.slice.injEq] at e
        obtain ⟨rfl, e2, rfl⟩ := e
        refine Ru.mk rfl (by omega) q2 (fun j hj => ?_)
        obtain ⟨a, e3, q5⟩ := q4 j (by simp; omega)
        obtain rfl := Option.some.inj e3
        rw [List.getElem_append_left hj] at q5
        exact q5
      · rw [hvb]; exact fun e => h.gm (Option.some.inj e)
      · exact ⟨_, _, _, hvb⟩
  · exact hgrow hr
/-- The way that goes on is pushed: e's block is another's now, or nobody's. -/
theorem In.pushed (h : In w0 x m g c z room v H A s w) {y : UInt64} {v1 : Value} {w1 : World} (h1 : Hq w0 x v w1 H [(v1, z ++ [y])]) (hru : Ru w1 (.slice (some ⟨g, 0, none⟩) z.length c) z) (hvm : v1.ownBlock ≠ some m) (hsn : Sn m s w1) (hl1 : w.heap.size ≤ w1.heap.size)
    {v2 : Value} {H2 : List HE} {w2 : World} (h2 : Hq w0 x v2 w2 H2 []) (hperm : H2.Perm (H ++ [(v1, z ++ [y])])) (hp2 : M.Hp helt H2 H2.length) (hc2 : Chg (fun b => b = x ∨ v.ownBlock = some b) w1 w2) (hv2 : v2.ownBlock = v.ownBlock ∨ ∃ b, v2.ownBlock = some b ∧ w1.heap.size ≤ b) : In w0 x m g c z z.length v2 H2 [] s w2 := by
  have hml := hsn.lt
  have hgl := h.gl
  refine ⟨h2, hp2, hsn.keptC hc2 (fun q => ?_), h.mx, ?_, fun d hd => ?_, h.mlo, hru.keptC hc2 (fun b e q => ?_), h.gx, ?_, h.gm, Nat.lt_of_lt_of_le h.gl (Nat.le_trans hl1 hc2.size), h.nz, h.lz, .inr ⟨rfl, rfl⟩⟩
  · rcases q with q | q
    · exact h.mx q
    · exact h.mv q
  · rcases hv2 with q | ⟨b, q, hb⟩
    · rw [q]; exact h.mv
    · rw [q]; intro e; have := Option.some.inj e; omega
  · rcases List.mem_append.1 (hperm.mem_iff.1 hd) with q | q
    · exact h.me d (List.mem_append_right _ q)
    · rw [List.mem_singleton.1 q]; exact hvm
  · obtain rfl : g = b := Option.some.inj e
    rcases q with q | q
    · exact h.gx q
    · exact h.gv q
  · rcases hv2 with q | ⟨b, q, hb⟩
    · rw [q]; exact h.gv
    · rw [q]; intro e; have := Option.some.inj e; omega
theorem step_goOn {ops : Array Oper} {o : Oper} {a : Act} {K : Act → World → Prop} {Q : Exit → Act → World → Prop} {E : Prop} (hgd : o.guard = none) (sx xx : Operand)
    (ho : o.op = .call { callee := .builtin .append, args := #[sx, xx], argTypes := #[27, 27] })
    (h : In w0 x m g c z room v H A s w) (n : Nat) (hn : n = z.length) (hs : a.eval sx = .slice (some ⟨g, 0, none⟩) n room) (p : Addr) (y : UInt64) (hx : a.eval xx = .slice (some p) 1 1) (hy : w.cell? p = some (.int .u64 (y.toNat : Int)))
    (hK : ∀ v' w', Hq w0 x v w' H [(v', z ++ [y])] → Ru w' (.slice (some ⟨g, 0, none⟩) z.length c) z → Chg (fun b => b = g) w w' → v'.ownBlock ≠ some m → Sn m s w' → (∃ q1 q2 q3, v' = .slice q1 q2 q3) → K (a.put o.dst v') w') : if Region.wanted o (yielded ops a.tmps) = true then Oper.wp Try.prog o a w K Q else E := by
  have hw : Region.wanted o (yielded ops a.tmps) = true := by simp [Region.wanted, hgd]
  rw [if_pos hw]
  subst hn
  obtain ⟨v', w', hr, q2, q3, q4, q5, q6, q7⟩ := h.app o.type p y hy
  unfold Oper.wp execOp
  simp only [ho, resolve, invoke, builtin, Sem.run_bind, Sem.run_pure, Result.andThen_ok, List.map_toArray, List.map_cons, List.map_nil, hs, hx, hr]
  exact hK v' w' q2 q3 q4 q5 q6 q7
end
end Go.Proofs.Ytipnghaphfgalaa
