/- region.Merge of the two regions that PdMerges splits goes well. -/
import Derived.Test.YtlfdcnojbbigbaaG40
import Derived.Test.YtlfdcnojbbigbaaG50
namespace Go.Proofs.Ytlfdcnojbbigbaa
open Go.RowKit Go.Maps
set_option linter.unusedVariables false
set_option linter.unusedSimpArgs false
set_option maxRecDepth 100000
theorem pm_cmg {key : List UInt8} (h0 : key.length ≠ 0) (h : key.length ≤ 64) : cmgE 1 7 2 2 [] key key [] [Pe1] [Pe8] = 0 := by
  unfold cmgE
  rw [pm_chkA h0 h, pm_chkB h]
  simp only [ne_eq, not_true_eq_false, if_false]
  rw [if_neg (by decide), if_neg, if_neg (by decide)]
  rintro ⟨_, q⟩
  unfold flw at q
  rw [decide_eq_true (show 0 < key.length by omega), decide_eq_true rfl] at q
  cases q
theorem pm_merges {c : PC} {w : World} {key : List UInt8} (h0 : key.length ≠ 0) (h : key.length ≤ 64) (hO : RdC w (rcO c) [] key [Pe1]) (hR : RdC w (rcR c) key [] [Pe8]) (e1 : c.oid = 1) (e2 : c.rid = 7) (e3 : c.ovr = 2) (e4 : c.rvr = 2) : Merges c w := by
  intro W hW
  have o := hO.below hW (Nat.le_refl _)
  have r := hR.below hW (Nat.le_refl _)
  rw [e1, e2, e3, e4]
  have := merge_any (id := 1) (id' := 7) (vr := 2) (vr' := 2) (cf := (c.ocf : Int)) (cf' := (c.rcf : Int)) o.rs o.re o.rp r.rs r.re r.rp (by decide) (by decide) (by decide) (by decide) (by simp) (by omega) (by omega) (by simp)
  refine this.mono ?_
  rintro x w' (⟨q, _⟩ | ⟨_, sv', ev', pv', rfl, hO', hb⟩)
  · exact absurd (pm_cmg h0 h) q
  · obtain ⟨a1, d1, rfl⟩ := hO'.s.shp
    obtain ⟨a2, d2, rfl⟩ := hO'.e.shp
    obtain ⟨a3, d3, rfl⟩ := hO'.p.shape
    exact ⟨⟨_, _, _, _, _, _, _, _, _, _, _, _, rfl⟩, hb⟩
end Go.Proofs.Ytlfdcnojbbigbaa
