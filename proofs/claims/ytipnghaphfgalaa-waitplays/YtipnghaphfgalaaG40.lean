/- What awake answers: true. -/
import Derived.Test.YtipnghaphfgalaaG39
import Derived.Test.YtipnghaphfgalaaG11
namespace Go.Proofs.Ytipnghaphfgalaa
open Go.RowKit
set_option linter.unusedVariables false
set_option maxRecDepth 100000

theorem bfs_aw1 {ro : Option (List UInt64)} (h : W.Bfs [] 1 [[2]] [2] ro) : ro = none := by
  refine h.det (W.Bfs.on [2] [] [2] 2 none rfl (by decide) ?_)
  exact W.Bfs.none _
theorem bfs_aw2 {ro : Option (List UInt64)} (h : W.Bfs [(1, 2)] 2 [[1]] [1] ro) : ro = some [1, 2] := by
  refine h.det (W.Bfs.on [1] [] [1] 1 (some [1, 2]) rfl (by decide) ?_)
  have e : W.exps [1] (W.outs [(1, 2)] 1) [] [1] = ([[1, 2]], [1, 2]) := by decide
  rw [e]
  exact W.Bfs.here [1, 2] [] _ rfl
theorem lit12 (w : World) (g : Nat) (hg : g = w.heap.size) : Ru (w.alloc (.cells #[.int .u64 1, .int .u64 2] 23)) (.slice (some ⟨g, 0, none⟩) 2 2) [1, 2] := by
  subst hg
  refine Ru.mk rfl (by simp) (by simp [maxLen]) (fun i hi => ?_)
  rw [Addr.add_lit, Nat.zero_add, World.cell?_alloc_at _ _ _ _ rfl]
  match i, hi with
  | 0, _ => rfl
  | 1, _ => rfl
theorem Gr.bel {B x : Nat} {v : Value} {E : List Ed} {w w' : World} (h : Gr B x v E w) (hc : Chg (GS x v) w w') : Below B w w' := by
  refine hc.below (fun b q => ?_) (by have := h.lo; have := h.xlt; omega)
  rcases q with q | q
  · rw [q]; exact h.lo
  · exact (h.row.lt b q).1
set_option maxHeartbeats 1000000 in
theorem wtawake_any (w : World) : Calls Try.prog 7 #[] w fun r w' => r = .returned (.bool true) ∧ Below w.heap.size w w' := by
  have hnew := gnew_any w
  go_enter Try.func7, Try.ntmps7
  go_wp2_with fail
  refine hnew.mono ?_
  rintro r w1 ⟨x, rfl, hg, hb1⟩
  have hw1 := wait_any hg 1 2
  simp only [show ((1 : UInt64).toNat : Int) = 1 from rfl, show ((2 : UInt64).toNat : Int) = 2 from rfl] at hw1
  clear hnew
  go_wp2_with fail
  refine hw1.mono ?_
  rintro r w2 ⟨vr, v2, ro, rfl, hbf, ho2, -, hg2, hc2, -, -⟩
  obtain rfl := bfs_aw1 hbf
  have e1 : wtE [] 1 2 none = [(1, 2)] := by decide
  have e2 : wtN [] 1 2 none = 0 := by decide
  rw [e1] at hg2
  rw [e2]
  have hw2 := wait_any hg2 2 1
  simp only [show ((1 : UInt64).toNat : Int) = 1 from rfl, show ((2 : UInt64).toNat : Int) = 2 from rfl] at hw2
  have hb2 : Below w.heap.size w w2 := hb1.trans (hg.bel hc2)
  have hlo := hg.lo
  obtain ⟨z1, z2, z3⟩ := ho2.shape
  subst z3
  clear hw1 ho2 hbf hg hc2 e1 e2 hb1
  go_wp2_with fail
  refine hw2.mono ?_
  rintro r w3 ⟨vr3, v3, ro, rfl, hbf, ho3, -, hg3, hc3, -, -⟩
  obtain rfl := bfs_aw2 hbf
  have e2 : wtN [(1, 2)] 2 1 (some [1, 2]) = 120 := rfl
  rw [e2]
  have ho3' : Ou w2.heap.size w3 vr3 [1, 2] := ho3
  have hb3 : Below w.heap.size w w3 := hb2.trans (hg2.bel hc3)
  have hsm := sameU_any (ho3'.ru.alloc (.cells #[.int .u64 1, .int .u64 2] 23)) (lit12 w3 _ rfl)
  obtain ⟨y1, y2, y3⟩ := ho3'.shape
  subst y3
  clear hw2 ho3 ho3' hbf hg2 hg3 hc3 e2 hb2
  go_wp2_with fail
  refine hsm.mono ?_
  rintro r w4 ⟨rfl, n, rfl⟩
  go_wp2_with fail
  go_ret
  exact ⟨by simp, hb3.trans ((Below.tr (w_al w3 _) (Below.dN _ n)).mono hb3.size)⟩
end Go.Proofs.Ytipnghaphfgalaa
