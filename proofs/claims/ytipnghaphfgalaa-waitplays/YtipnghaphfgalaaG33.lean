/- What the search's loops keep. -/
import Derived.Test.YtipnghaphfgalaaG32
import Derived.Test.YtipnghaphfgalaaG25
namespace Go.Proofs.Ytipnghaphfgalaa
open Go.RowKit
set_option linter.unusedVariables false
set_option maxRecDepth 100000

theorem blk_eq {g b n c : Nat} (h : (Value.slice (some ⟨g, 0, none⟩) n c).ownBlock = some b) : g = b := Option.some.inj h
/-- The search stands at the queue q with s seen. -/
structure WI (E : List Ed) (a b : UInt64) (q : List (List UInt64)) (s : List UInt64) : Prop where
  qi : QI q
  lq : q.length + W.cnt E s ≤ 1 + E.length
  ls : s.length + W.cnt E s ≤ 1 + E.length
  lz : ∀ z ∈ q, z.length ≤ s.length ∧ z ≠ []
  bfs : ∀ r, W.Bfs E b q s r → W.Bfs E b [[a]] [a] r
def WR (w0 : World) (E : List Ed) (a b : UInt64) (x m : Nat) (n : Nat) (w : World) : Prop :=
  ∃ v H q s, Hq w0 x v w H [] ∧ M.Hp helt H H.length ∧ Sn m s w ∧ m ≠ x ∧ v.ownBlock ≠ some m ∧ (∀ d ∈ H, d.1.ownBlock ≠ some m) ∧ w0.heap.size ≤ m ∧ (H.map (·.2)).Perm q ∧ WI E a b q s ∧ q.length + W.cnt E s ≤ n
/-- .. while a way z is gone on with: k of its edges F are done. -/
structure IR (w0 : World) (E : List Ed) (x m g c : Nat) (z : List UInt64) (q0 : List (List UInt64)) (s0 : List UInt64) (F : List Ed) (k room : Nat) (v : Value) (H A : List HE) (q : List (List UInt64)) (s : List UInt64) (w : World) : Prop where
  inn : In w0 x m g c z room v H A s w
  perm : (H.map (·.2)).Perm q
  ex : W.exps z ((F.drop k).map (·.2)) q s = W.exps z (F.map (·.2)) q0 s0
  lq : q.length + W.cnt E s ≤ q0.length + W.cnt E s0
  ls : s.length + W.cnt E s ≤ 1 + E.length
  lz : ∀ u ∈ q, u.length ≤ s.length ∧ u ≠ []
  zs : z.length ≤ s.length
section
variable {w0 : World} {E : List Ed} {a b : UInt64} {x m g c : Nat} {z : List UInt64} {q0 q : List (List UInt64)} {s0 s : List UInt64} {F : List Ed} {k room : Nat} {v : Value} {H A : List HE} {w w' : World} {l : UInt64}
theorem IR.below {C : Nat} (h : IR w0 E x m g c z q0 s0 F k room v H A q s w) (hb : Below C w w') (hC : w.heap.size ≤ C) : IR w0 E x m g c z q0 s0 F k room v H A q s w' := ⟨h.inn.below hb hC, h.perm, h.ex, h.lq, h.ls, h.lz, h.zs⟩
theorem IR.was (h : IR w0 E x m g c z q0 s0 F k room v H A q s w) {e : Ed} (he : F[k]? = some e) (hs : e.2 ∈ s) : IR w0 E x m g c z q0 s0 F (k + 1) room v H A q s w := by
  obtain ⟨hk, hk2⟩ := List.getElem?_eq_some_iff.1 he
  refine ⟨h.inn, h.perm, ?_, h.lq, h.ls, h.lz, h.zs⟩
  have := h.ex
  rw [List.drop_eq_getElem_cons hk, hk2, List.map_cons, W.exps, if_pos hs] at this
  exact this
theorem IR.new (h : IR w0 E x m g c z q0 s0 F k room v H A q s w) {e : Ed} (he : F[k]? = some e) (hE : e ∈ E) (hs : e.2 ∉ s) {v2 v1 : Value} {H2 : List HE} {w2 : World} (h2 : In w0 x m g c z z.length v2 H2 [] (s ++ [e.2]) w2) (hp : H2.Perm (H ++ [(v1, z ++ [e.2])])) : IR w0 E x m g c z q0 s0 F (k + 1) z.length v2 H2 [] (q ++ [z ++ [e.2]]) (s ++ [e.2]) w2 := by
  obtain ⟨hk, hk2⟩ := List.getElem?_eq_some_iff.1 he
  obtain ⟨e1, e2⟩ := e
  have hc := W.cnt_push hE hs
  have l1 := h.lq
  have l2 := h.ls
  refine ⟨h2, ?_, ?_, by simp only [List.length_append, List.length_singleton]; omega, by simp only [List.length_append, List.length_singleton]; omega, fun u hu => ?_, by have := h.zs; simp; omega⟩
  · refine (hp.map _).trans ?_
    rw [List.map_append]
    exact List.Perm.append h.perm (List.Perm.refl _)
  · have := h.ex
    rw [List.drop_eq_getElem_cons hk, hk2, List.map_cons, W.exps, if_neg hs] at this
    exact this
  · simp only [List.length_append, List.length_singleton]
    rcases List.mem_append.1 hu with q1 | q1
    · obtain ⟨p1, p2⟩ := h.lz u q1
      exact ⟨by omega, p2⟩
    · rw [List.mem_singleton.1 q1]
      have := h.zs
      exact ⟨by simp; omega, by simp⟩
/-- All edges are done. -/
theorem IR.done (h : IR w0 E x m g c z q0 s0 (E.filter (fun e => e.1 == l)) k room v H A q s w) (hk : (E.filter (fun e => e.1 == l)).length ≤ k) (hE : W.Ris E) (hw : WI E a b (z :: q0) s0) (hz : z.getLast? = some l) (hl : l ≠ b) : WR w0 E a b x m (q0.length + W.cnt E s0) w := by
  have hex := h.ex
  rw [List.drop_of_length_le hk] at hex
  have ho : W.exps z (W.outs E l) q0 s0 = (q, s) := hex.symm
  have hq : (W.exps z (W.outs E l) q0 s0).1 = q := by rw [ho]
  have hs : (W.exps z (W.outs E l) q0 s0).2 = s := by rw [ho]
  have hA : ∀ d ∈ H, d.1.ownBlock ≠ some m := fun d hd => h.inn.me d (List.mem_append_right _ hd)
  refine ⟨v, H, q, s, ⟨h.inn.hq.base, h.inn.hq.hx, h.inn.hq.cx, h.inn.hq.row, h.inn.hq.ne, fun d hd => h.inn.hq.els d (List.mem_append_right _ hd), (List.pairwise_append.1 h.inn.hq.dis).2.1⟩, h.inn.hp, h.inn.sn, h.inn.mx, h.inn.mv, hA, h.inn.mlo, h.perm, ⟨?_, ?_, h.ls, h.lz, fun r hr => ?_⟩, h.lq⟩
  · rw [← hq]; exact hw.qi.exps (W.outs_rise hE l) s0
  · have := h.lq
    have := hw.lq
    simp only [List.length_cons] at this
    omega
  · refine hw.bfs r (W.Bfs.on z q0 s0 l r hz hl ?_)
    rw [hq, hs]; exact hr
/-- The way at the top was taken. -/
theorem IR.start {e : HE} {H' : List HE} {v' : Value} (hq : Hq w0 x v' w H' [e]) (he : e = (.slice (some ⟨g, 0, none⟩) z.length c, z)) (hp : M.Hp helt H' H'.length) (hs : Sn m s0 w) (mx : m ≠ x) (mv : v'.ownBlock ≠ some m) (me : ∀ d ∈ e :: H', d.1.ownBlock ≠ some m) (mlo : w0.heap.size ≤ m) (hpm : (H'.map (·.2)).Perm q0) (hw : WI E a b (z :: q0) s0) (hE : E.length ≤ 4096) : IR w0 E x m g c z q0 s0 F 0 c v' H' [e] q0 s0 w := by
  subst he
  obtain ⟨o1, o2, o3, o4, o5⟩ := hq.els (.slice (some ⟨g, 0, none⟩) z.length c, z) (by simp)
  simp only [] at *
  obtain ⟨l1, l2⟩ := hw.lz z (by simp)
  have l3 := hw.ls
  have l4 := hw.lq
  exact ⟨⟨hq, hp, hs, mx, mv, fun d hd => me d (by simpa using hd), mlo, o1.ru, fun q => o4 (by rw [q]; rfl), fun q => o5 q.symm, fun q => me _ (List.mem_cons_self) (by rw [← q]; rfl), (o1.lt g rfl).2, o2, by omega, .inl ⟨rfl, rfl⟩⟩, hpm, rfl, Nat.le_refl _, hw.ls, fun u hu => hw.lz u (List.mem_cons_of_mem _ hu), l1⟩
end
theorem way_start (w : World) (E : List Ed) (a b : UInt64) : ∃ w2, (Instr.mapUpdate 66 (.map (some (w.heap.size + 1 + 1 + 1))) (.int .u64 (a.toNat : Int)) (.agg #[])).run Try.prog ((((w.alloc (.cells #[.int .u64 (a.toNat : Int)] 23)).alloc (.cells #[.slice (some ⟨w.heap.size, 0, none⟩) 1 1] 27)).alloc (.cells #[.slice (some ⟨w.heap.size + 1, 0, none⟩) 1 1] 64)).alloc (.map #[] 0)) = .ok () w2 ∧ WR w E a b (w.heap.size + 1 + 1) (w.heap.size + 1 + 1 + 1) (1 + E.length) w2 := by
  obtain ⟨W3, hW3⟩ : ∃ W3, W3 = (((w.alloc (.cells #[.int .u64 (a.toNat : Int)] 23)).alloc (.cells #[.slice (some ⟨w.heap.size, 0, none⟩) 1 1] 27)).alloc (.cells #[.slice (some ⟨w.heap.size + 1, 0, none⟩) 1 1] 64)) := ⟨_, rfl⟩
  have hs3 : W3.heap.size = w.heap.size + 1 + 1 + 1 := by rw [hW3]; simp
  have k0 : W3.heap[w.heap.size]? = some (.cells #[.int .u64 (a.toNat : Int)] 23 (0, 0)) := by
    rw [hW3]; exact (Below.heap_alloc _ _ _ (by simp; omega)).trans ((Below.heap_alloc _ _ _ (by simp)).trans (heap_alloc_new w _))
  have k1 : W3.heap[w.heap.size + 1]? = some (.cells #[.slice (some ⟨w.heap.size, 0, none⟩) 1 1] 27 (0, 0)) := by
    have := heap_alloc_new (w.alloc (.cells #[.int .u64 (a.toNat : Int)] 23)) (.cells #[.slice (some ⟨w.heap.size, 0, none⟩) 1 1] 27)
    rw [World.size_alloc] at this
    rw [hW3]; exact (Below.heap_alloc _ _ _ (by simp)).trans this
  have k2 : W3.heap[w.heap.size + 1 + 1]? = some (.cells #[.slice (some ⟨w.heap.size + 1, 0, none⟩) 1 1] 64 (0, 0)) := by
    have := heap_alloc_new ((w.alloc (.cells #[.int .u64 (a.toNat : Int)] 23)).alloc (.cells #[.slice (some ⟨w.heap.size, 0, none⟩) 1 1] 27)) (.cells #[.slice (some ⟨w.heap.size + 1, 0, none⟩) 1 1] 64)
    rw [World.size_alloc, World.size_alloc] at this
    rw [hW3]; exact this
  have hb3 : Below w.heap.size w W3 := by rw [hW3]; exact (((w_al w _).alloc (by simp) _).alloc (by simp; omega) _)
  rw [← hW3, ← hs3]
  obtain ⟨w2, hr, hsn, hc⟩ := (Sn.made W3).put (by simp) a
  simp only [List.nil_append] at hsn
  refine ⟨w2, hr, ?_⟩
  have hbm : Below w.heap.size w w2 := by
    have := hb3.size
    have h1 : Below w.heap.size w (W3.alloc (.map #[] 0)) := hb3.trans ((w_al W3 _).mono hb3.size)
    exact h1.trans (hc.below (fun b e => by omega) h1.size)
  have kk : ∀ j o, j < W3.heap.size → W3.heap[j]? = some o → w2.heap[j]? = some o := fun j o hj e => by
    rw [hc.block j (by simp; omega) (by omega), Below.heap_alloc _ _ _ hj]; exact e
  have m0 := kk _ _ (by omega) k0
  have m1 := kk _ _ (by omega) k1
  have m2 := kk _ _ (by omega) k2
  have hO : Ou w.heap.size w2 (.slice (some ⟨w.heap.size, 0, none⟩) 1 1) [a] := ⟨by rfl, .inr ⟨w.heap.size, 1, _, rfl, Nat.le_refl _, m0, Nat.le_refl _, by unfold maxLen; omega, rfl, rfl⟩⟩
  have hq : Hq w (w.heap.size + 1 + 1) (.slice (some ⟨w.heap.size + 1, 0, none⟩) 1 1) w2 [(.slice (some ⟨w.heap.size, 0, none⟩) 1 1, [a])] [] := by
    refine ⟨hbm, by omega, ⟨_, m2⟩, ⟨rfl, .inr ⟨w.heap.size + 1, 1, _, rfl, by omega, m1, Nat.le_refl _, by unfold maxLen; omega, rfl, rfl⟩⟩, ?_, fun e he => ?_, List.pairwise_singleton _ _⟩
    · intro q; have := blk_eq q; omega
    · rw [List.nil_append, List.mem_singleton] at he
      subst he
      refine ⟨hO, by simp, by simp, ?_, ?_⟩
      · intro q; have := blk_eq q; omega
      · intro q; have : w.heap.size = w.heap.size + 1 := Option.some.inj q; omega
  have hcl := W.cnt_le E [a]
  refine ⟨_, _, [[a]], [a], hq, ?_, hsn, by omega, ?_, fun d hd => ?_, by omega, List.Perm.refl _, ⟨QI.one _, by simp; omega, by simp; omega, fun z hz => ?_, fun r hr => hr⟩, by simp; omega⟩
  · intro i y z h1 h2; simp at h2; omega
  · intro q; have := blk_eq q; omega
  · rw [List.mem_singleton] at hd
    subst hd
    intro q; have := blk_eq q; omega
  · rw [List.mem_singleton] at hz
    subst hz
    simp
end Go.Proofs.Ytipnghaphfgalaa
