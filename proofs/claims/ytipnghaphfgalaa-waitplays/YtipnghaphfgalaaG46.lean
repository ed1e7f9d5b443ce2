/- The document's search: its lists of ways in memory. -/
import Derived.Test.YtipnghaphfgalaaG42
import Derived.Test.YtipnghaphfgalaaG31
import Derived.Test.YtipnghaphfgalaaG32
namespace Go.Proofs.Ytipnghaphfgalaa
open Go.RowKit
set_option linter.unusedVariables false
set_option maxRecDepth 100000

/-- The ways of this length (F), those of the next one (N), what is seen (s); each way in a block of its own kind. -/
structure Wz (w0 : World) (fv nv sv : Value) (F N : List HE) (s : List UInt64) (w : World) : Prop where
  base : Below w0.heap.size w0 w
  fr : w.ownsRow w0.heap.size 27 1 fv F.length (F.map (·.1))
  nr : w.ownsRow w0.heap.size 27 1 nv N.length (N.map (·.1))
  sr : Ou w0.heap.size w sv s
  fn : ∀ g, fv.ownBlock = some g → nv.ownBlock ≠ some g
  fs : ∀ g, sv.ownBlock = some g → fv.ownBlock ≠ some g ∧ nv.ownBlock ≠ some g
  els : ∀ e ∈ F ++ N, Ou w0.heap.size w e.1 e.2 ∧ e.2 ≠ [] ∧ e.2.length ≤ 8192 ∧ ∀ g, e.1.ownBlock = some g → fv.ownBlock ≠ some g ∧ nv.ownBlock ≠ some g ∧ sv.ownBlock ≠ some g
section
variable {w0 w w' : World} {fv nv sv : Value} {F N : List HE} {s : List UInt64}
theorem Wz.keptC {S : Nat → Prop} (h : Wz w0 fv nv sv F N s w) (hc : Chg S w w') (hS : ∀ b, b < w.heap.size → S b → w0.heap.size ≤ b) (h1 : ∀ g, fv.ownBlock = some g → ¬ S g) (h2 : ∀ g, nv.ownBlock = some g → ¬ S g) (h3 : ∀ g, sv.ownBlock = some g → ¬ S g) (h4 : ∀ e ∈ F ++ N, ∀ g, e.1.ownBlock = some g → ¬ S g) : Wz w0 fv nv sv F N s w' := by
  refine ⟨⟨hc.os.trans h.base.os, hc.tape.trans h.base.tape, hc.output.trans h.base.output, Nat.le_trans h.base.size hc.size, fun b hb => ?_⟩, ownsRow_keptC h.fr hc h1, ownsRow_keptC h.nr hc h2, h.sr.keptC hc h3, h.fn, h.fs, fun e he => ⟨(h.els e he).1.keptC hc (h4 e he), (h.els e he).2⟩⟩
  rw [hc.block b (Nat.lt_of_lt_of_le hb h.base.size) (fun q => by have := hS b (Nat.lt_of_lt_of_le hb h.base.size) q; omega)]
  exact h.base.block b hb
theorem Wz.below {C : Nat} (h : Wz w0 fv nv sv F N s w) (hb : Below C w w') (hC : w.heap.size ≤ C) : Wz w0 fv nv sv F N s w' :=
  h.keptC (Chg.of_below hb) (fun b q1 q2 => by omega) (fun g e q => by have := (World.ownsRow.lt h.fr g e).2; omega) (fun g e q => by have := (World.ownsRow.lt h.nr g e).2; omega) (fun g e q => by have := (h.sr.lt g e).2; omega) (fun d hd g e q => by have := ((h.els d hd).1.lt g e).2; omega)
/-- One more number is seen. -/
theorem Wz.seen (h : Wz w0 fv nv sv F N s w) {sv' : Value} {s' : List UInt64} (hg : w.grownBy w' sv.ownBlock) (ho : Ou w0.heap.size w' sv' s') (hv : sv'.ownBlock = sv.ownBlock ∨ sv'.ownBlock = some w.heap.size) : Wz w0 fv nv sv' F N s' w' := by
  have hc : Chg (fun b => sv.ownBlock = some b) w w' := Chg.of_grown hg (fun b e _ => e)
  have hfl := fun g e => (World.ownsRow.lt h.fr g e).2
  have hnl := fun g e => (World.ownsRow.lt h.nr g e).2
  have hne : ∀ g, sv'.ownBlock = some g → (∀ u : Value, (∀ b, u.ownBlock = some b → b < w.heap.size) → (∀ b, sv.ownBlock = some b → u.ownBlock ≠ some b) → u.ownBlock ≠ some g) := fun g e u hu1 hu2 q => by
    rcases hv with p | p
    · rw [p] at e; exact hu2 g e q
    · rw [p] at e; obtain rfl := Option.some.inj e; have := hu1 _ q; omega
  refine ⟨⟨hc.os.trans h.base.os, hc.tape.trans h.base.tape, hc.output.trans h.base.output, Nat.le_trans h.base.size hc.size, fun b hb => ?_⟩, ownsRow_keptC h.fr hc (fun g e q => (h.fs g q).1 e), ownsRow_keptC h.nr hc (fun g e q => (h.fs g q).2 e), ho, h.fn, fun g e => ⟨hne g e fv hfl (fun b q => (h.fs b q).1), hne g e nv hnl (fun b q => (h.fs b q).2)⟩, fun d hd => ?_⟩
  · rw [hc.block b (Nat.lt_of_lt_of_le hb h.base.size) (fun q => by have := (h.sr.lt b q).1; omega)]
    exact h.base.block b hb
  · obtain ⟨q1, q2, q3, q4⟩ := h.els d hd
    refine ⟨q1.keptC hc (fun g e q => (q4 g e).2.2 q), q2, q3, fun g e => ⟨(q4 g e).1, (q4 g e).2.1, fun q => ?_⟩⟩
    exact hne g q d.1 (fun b e2 => (q1.lt b e2).2) (fun b e2 e3 => (q4 b e3).2.2 e2) e
/-- A way more for the next length. -/
theorem Wz.push (h : Wz w0 fv nv sv F N s w) {w1 w5 : World} {v2 nv' : Value} {l2 : List UInt64} (hb : Below w.heap.size w w1) (ho2 : Ou w.heap.size w1 v2 l2) (hl : l2 ≠ []) (hll : l2.length ≤ 8192) (hg : w1.grownBy w5 nv.ownBlock) (hrow : w5.ownsRow w0.heap.size 27 1 nv' (N ++ [(v2, l2)]).length ((N ++ [(v2, l2)]).map (·.1))) (hv : nv'.ownBlock = nv.ownBlock ∨ nv'.ownBlock = some w1.heap.size) : Wz w0 fv nv' sv F (N ++ [(v2, l2)]) s w5 := by
  have hbs := h.base.size
  have hs1 := hb.size
  have hc : Chg (fun b => nv.ownBlock = some b) w1 w5 := Chg.of_grown hg (fun b e _ => e)
  have h1 := h.below hb (Nat.le_refl _)
  have hnb := fun g e => World.ownsRow.lt h1.nr g e
  have hfl := fun g e => (World.ownsRow.lt h.fr g e).2
  have hsl := fun g e => (h.sr.lt g e).2
  have hne : ∀ g, nv'.ownBlock = some g → (∀ u : Value, (∀ b, u.ownBlock = some b → b < w1.heap.size) → (∀ b, nv.ownBlock = some b → u.ownBlock ≠ some b) → u.ownBlock ≠ some g) := fun g e u hu1 hu2 q => by
    rcases hv with p | p
    · rw [p] at e; exact hu2 g e q
    · rw [p] at e; obtain rfl := Option.some.inj e; have := hu1 _ q; omega
  have h2l := fun g e => ho2.lt g e
  refine ⟨⟨hc.os.trans h1.base.os, hc.tape.trans h1.base.tape, hc.output.trans h1.base.output, Nat.le_trans h1.base.size hc.size, fun b hb' => ?_⟩, ownsRow_keptC h1.fr hc (fun g e q => h.fn g e q), hrow, h1.sr.keptC hc (fun g e q => (h.fs g e).2 q), fun g e q => ?_, fun g e => ⟨(h.fs g e).1, fun q => ?_⟩, fun d hd => ?_⟩
  · rw [hc.block b (Nat.lt_of_lt_of_le hb' h1.base.size) (fun q => by have := (hnb b q).1; omega)]
    exact h1.base.block b hb'
  · exact hne g q fv (fun b e2 => by have := hfl b e2; omega) (fun b e2 e3 => h.fn b e3 e2) e
  · exact hne g q sv (fun b e2 => by have := hsl b e2; omega) (fun b e2 e3 => (h.fs b e3).2 e2) e
  · have hd' : d ∈ F ++ N ∨ d = (v2, l2) := by
      rw [← List.append_assoc] at hd
      rcases List.mem_append.1 hd with q | q
      · exact .inl q
      · exact .inr (List.mem_singleton.1 q)
    rcases hd' with q | q
    · obtain ⟨q1, q2, q3, q4⟩ := h1.els d q
      refine ⟨q1.keptC hc (fun g e z => (q4 g e).2.1 z), q2, q3, fun g e => ⟨(q4 g e).1, fun z => ?_, (q4 g e).2.2⟩⟩
      exact hne g z d.1 (fun b e2 => (q1.lt b e2).2) (fun b e2 e3 => (q4 b e3).2.1 e2) e
    · subst q
      refine ⟨(ho2.mono hbs).keptC hc (fun g e z => ?_), hl, hll, fun g e => ⟨fun z => ?_, fun z => ?_, fun z => ?_⟩⟩
      · have := (h2l g e).1; have := (World.ownsRow.lt h.nr g z).2; omega
      · have := (h2l g e).1; have := hfl g z; omega
      · refine hne g z v2 (fun b e2 => (h2l b e2).2) (fun b e2 e3 => ?_) e
        have := (h2l b e3).1; have := (World.ownsRow.lt h.nr b e2).2; omega
      · have := (h2l g e).1; have := hsl g z; omega
theorem step_app0 {ops : Array Oper} {o : Oper} {a : Act} {w : World} {K : Act → World → Prop} {Q : Exit → Act → World → Prop} {E : Prop} (hgd : o.guard = none) (sx xx : Operand)
    (ho : o.op = .call { callee := .builtin .append, args := #[sx, xx], argTypes := #[27, 27] })
    (hs : a.eval sx = .slice none 0 0) (vx : Value) (m : List UInt64) (hx : a.eval xx = vx) (hm : Ru w vx m) (hne : m ≠ []) (hlen : m.length ≤ 8192)
    (hK : ∀ v' w', Ou w.heap.size w' v' m → Below w.heap.size w w' → (∃ q1 q2 q3, v' = .slice q1 q2 q3) → K (a.put o.dst v') w') : if Region.wanted o (yielded ops a.tmps) = true then Oper.wp Try.prog o a w K Q else E := by
  have hw : Region.wanted o (yielded ops a.tmps) = true := by simp [Region.wanted, hgd]
  rw [if_pos hw]
  rcases hm.two with ⟨_, q⟩ | ⟨ad, c, rfl, h1, h2, h3⟩
  · exact absurd q hne
  obtain ⟨v', w', hr, q2, q3, q4⟩ := run_appN (P := Try.prog) w w.heap.size 27 o.type 23 (.int .u64 0) 8 Try.underlying27 Try.infoU rfl _ 0 [] (World.ownsRow_nil _ _ _ _) ad m.length c (celU m) (by simp [celU_length]) (by
    intro j u hu
    have hj : j < m.length := by have := (List.getElem?_eq_some_iff.1 hu).1; simpa [celU_length] using this
    rw [h3 j hj]; rw [celU_get m j hj] at hu; exact hu) (celU_one m) (by unfold maxLen; omega) (by omega) (Nat.le_refl _)
  have hO : Ou w.heap.size w' v' m := by unfold Ou; simpa using q2
  unfold Oper.wp execOp
  simp only [ho, resolve, invoke, builtin, Sem.run_bind, Sem.run_pure, Result.andThen_ok, List.map_toArray, List.map_cons, List.map_nil, hs, hx, hr]
  exact hK _ _ hO ((Below.refl w.heap.size w).grown q3 (Nat.le_refl _) (fun j e => by cases e)) (by obtain ⟨z1, z2, e⟩ := hO.shape; exact ⟨_, _, _, e⟩)
theorem step_app1U {ops : Array Oper} {o : Oper} {a : Act} {w : World} {K : Act → World → Prop} {Q : Exit → Act → World → Prop} {E : Prop} (hgd : o.guard = none) (sx xx : Operand)
    (ho : o.op = .call { callee := .builtin .append, args := #[sx, xx], argTypes := #[27, 27] })
    (B : Nat) (v : Value) (l : List UInt64) (hs : a.eval sx = v) (hown : Ou B w v l) (p : Addr) (y : UInt64) (hx : a.eval xx = .slice (some p) 1 1) (hy : w.cell? p = some (.int .u64 (y.toNat : Int))) (hB : B ≤ w.heap.size) (hlen : l.length ≤ 8192)
    (hK : ∀ v' w', Ou B w' v' (l ++ [y]) → w.grownBy w' v.ownBlock → (∃ q1 q2 q3, v' = .slice q1 q2 q3) → K (a.put o.dst v') w') : if Region.wanted o (yielded ops a.tmps) = true then Oper.wp Try.prog o a w K Q else E := by
  have hw : Region.wanted o (yielded ops a.tmps) = true := by simp [Region.wanted, hgd]
  rw [if_pos hw]
  obtain ⟨v', w', hr, q2, q3, q4⟩ := run_appN (P := Try.prog) w B 27 o.type 23 (.int .u64 0) 8 Try.underlying27 Try.infoU rfl v l.length (celU l) hown p 1 1 (celU [y]) rfl (fun j u hu => by
    cases j with
    | zero => simp [celU] at hu; subst hu; exact hy
    | succ j => simp [celU] at hu) (celU_one [y]) (by unfold maxLen; omega) (by omega) hB
  have hO : Ou B w' v' (l ++ [y]) := by unfold Ou; rw [celU_append, List.length_append]; exact q2
  unfold Oper.wp execOp
  simp only [ho, resolve, invoke, builtin, Sem.run_bind, Sem.run_pure, Result.andThen_ok, List.map_toArray, List.map_cons, List.map_nil, hs, hx, hr]
  exact hK _ _ hO q3 (by obtain ⟨z1, z2, e⟩ := hO.shape; exact ⟨_, _, _, e⟩)
end
end Go.Proofs.Ytipnghaphfgalaa
