/- The walk of ConfTurns: for any configuration and changes it answers true; nothing that came in has turned. -/
import Derived.Test.YtedpfmalhapmeaaG6
import Derived.Test.YtedpfmalhapmeaaG5
import Derived.Test.YtedpfmalhapmeaaG4
import Derived.Test.YtedpfmalhapmeaaG2
import Derived.Test.YtedpfmalhapmeaaG1
import Derived.Deep.RegionHeld3
import Derived.Deep.CutRange
namespace Go.Proofs.Ytedpfmalhapmeaa
open Go.RowKit
set_option linter.unusedVariables false
set_option maxRecDepth 100000

set_option maxHeartbeats 8000000 in
theorem confTurns_any {x y z vq : Value} {c : Cn} {qs : List Cg} {w : World} (hc : Rc w x y z c) (hlc : c.1.length + c.2.1.length + c.2.2.length ≤ 1048576) (hq : RdX w vq qs) (hnil : ∀ n k, vq = .slice none n k → k = 0) (hlq : qs.length ≤ 1048576) :
    Calls Try.prog 4 #[.agg #[x, y, z], vq] w fun e w' => e = .returned (.bool true) ∧ Below w.heap.size w w' := by
  obtain ⟨ax, cx, rfl⟩ := hc.1.shape
  obtain ⟨ay, cy, rfl⟩ := hc.2.1.shape
  obtain ⟨az, cz, rfl⟩ := hc.2.2.shape
  obtain ⟨aq, cq, rfl⟩ : ∃ aq cq, vq = .slice aq qs.length cq := by obtain ⟨a, k, e, _⟩ := hq; exact ⟨a, k, e⟩
  have hB0 : Below w.heap.size w (w.alloc (.cells #[.slice ax c.1.length cx, .slice ay c.2.1.length cy, .slice az c.2.2.length cz] 24)) := u_al w _
  have hz0 : (w.alloc (.cells #[.slice ax c.1.length cx, .slice ay c.2.1.length cy, .slice az c.2.2.length cz] 24)).heap.size = w.heap.size + 1 := by simp
  have hba := heap_alloc_new w (.cells #[.slice ax c.1.length cx, .slice ay c.2.1.length cy, .slice az c.2.2.length cz] 24)
  go_enter Try.func4, Try.ntmps4
  go_wp2_with fail
  generalize (w.alloc (.cells #[.slice ax c.1.length cx, .slice ay c.2.1.length cy, .slice az c.2.2.length cz] 24)) = W0 at *
  have HKA : Hid (∀ W, Below W0.heap.size W0 W → W.cell? ⟨w.heap.size, 0, none⟩ = some (.slice ax c.1.length cx) ∧ W.cell? ⟨w.heap.size, 1, none⟩ = some (.slice ay c.2.1.length cy) ∧ W.cell? ⟨w.heap.size, 2, none⟩ = some (.slice az c.2.2.length cz)) := fun W hW => by
    obtain ⟨q0, q1, q2, _⟩ := at3 ((hW.block _ (by omega)).trans hba)
    exact ⟨q0, q1, q2⟩
  have HW : Hid (∀ W, Below W0.heap.size W0 W → Below w.heap.size w W) := fun W hW => hB0.trans (hW.mono hB0.size)
  have HRA : Hid (∀ W, Below W0.heap.size W0 W → Rc W (.slice ax c.1.length cx) (.slice ay c.2.1.length cy) (.slice az c.2.2.length cz) c) := fun W hW => hc.below (HW.out W hW) (Nat.le_refl _)
  have HQA : Hid (∀ W, Below W0.heap.size W0 W → RdX W (.slice aq qs.length cq) qs) := fun W hW => hq.below (HW.out W hW) (Nat.le_refl _)
  clear hba hB0 hc hq
  refine (awake_any W0).mono ?_
  rintro e w1 ⟨rfl, hb1⟩
  obtain ⟨c0, c1, c2⟩ := HKA.out w1 hb1
  have hcp := lcopyc_any (HRA.out w1 hb1) (by omega)
  go_wp2_with fail
  refine hcp.mono ?_
  rintro e w2 ⟨dx, dy, dz, rfl, hoc, hb2q⟩
  have hb2 : Below W0.heap.size W0 w2 := hb1.trans (hb2q.mono hb1.size)
  have hrc := hoc.rc
  obtain ⟨ex, fx, rfl⟩ := hrc.1.shape
  obtain ⟨ey, fy, rfl⟩ := hrc.2.1.shape
  obtain ⟨ez, fz, rfl⟩ := hrc.2.2.shape
  clear c0 c1 c2 hcp hoc
  have hbd := heap_alloc_new w2 (.cells #[.slice ex c.1.length fx, .slice ey c.2.1.length fy, .slice ez c.2.2.length fz] 24)
  have hbx : Below w2.heap.size w2 (w2.alloc (.cells #[.slice ex c.1.length fx, .slice ey c.2.1.length fy, .slice ez c.2.2.length fz] 24)) := u_al w2 _
  have hzd : (w2.alloc (.cells #[.slice ex c.1.length fx, .slice ey c.2.1.length fy, .slice ez c.2.2.length fz] 24)).heap.size = w2.heap.size + 1 := by simp
  go_upto_region 4 with fail
  generalize (w2.alloc (.cells #[.slice ex c.1.length fx, .slice ey c.2.1.length fy, .slice ez c.2.2.length fz] 24)) = W2 at *
  have HKD : Hid (∀ W, Below W2.heap.size W2 W → W.cell? ⟨w2.heap.size, 0, none⟩ = some (.slice ex c.1.length fx) ∧ W.cell? ⟨w2.heap.size, 1, none⟩ = some (.slice ey c.2.1.length fy) ∧ W.cell? ⟨w2.heap.size, 2, none⟩ = some (.slice ez c.2.2.length fz)) := fun W hW => by
    obtain ⟨q0, q1, q2, _⟩ := at3 ((hW.block _ (by omega)).trans hbd)
    exact ⟨q0, q1, q2⟩
  have HB2 : Hid (∀ W, Below W2.heap.size W2 W → Below w2.heap.size w2 W) := fun W hW => hbx.trans (hW.mono hbx.size)
  have HBW : Hid (∀ W, Below W2.heap.size W2 W → Below W0.heap.size W0 W) := fun W hW => hb2.trans ((HB2.out W hW).mono hb2.size)
  have HRD : Hid (∀ W, Below W2.heap.size W2 W → Rc W (.slice ex c.1.length fx) (.slice ey c.2.1.length fy) (.slice ez c.2.2.length fz) c) := fun W hW => hrc.below (HB2.out W hW) (Nat.le_refl _)
  have HRC : Hid (∀ W, Below W2.heap.size W2 W → Rc W (.slice ax c.1.length cx) (.slice ay c.2.1.length cy) (.slice az c.2.2.length cz) c) := fun W hW => HRA.out W (HBW.out W hW)
  have HRQ : Hid (∀ W, Below W2.heap.size W2 W → RdX W (.slice aq qs.length cq) qs) := fun W hW => HQA.out W (HBW.out W hW)
  have HKC : Hid (∀ W, Below W2.heap.size W2 W → W.cell? ⟨w.heap.size, 0, none⟩ = some (.slice ax c.1.length cx) ∧ W.cell? ⟨w.heap.size, 1, none⟩ = some (.slice ay c.2.1.length cy) ∧ W.cell? ⟨w.heap.size, 2, none⟩ = some (.slice az c.2.2.length cz)) := fun W hW => HKA.out W (HBW.out W hW)
  have HWW : Hid (∀ W, Below W2.heap.size W2 W → Below w.heap.size w W) := fun W hW => HW.out W (HBW.out W hW)
  have hgt1 : ¬ w2.heap.size = w.heap.size := by have := hb2.size; omega
  have hgt2 : ¬ w.heap.size = w2.heap.size := fun e => hgt1 e.symm
  have hltw : w.heap.size < w2.heap.size := by have := hb2.size; omega
  clear hbd hbx hrc hb2 hb2q HRA HQA HKA HW
  have HEN : Hid (∀ W v, Below W2.heap.size W2 W → RdX W v qs → Calls Try.prog 21 #[.agg #[.slice ex c.1.length fx, .slice ey c.2.1.length fy, .slice ez c.2.2.length fz], v] W fun e w' => ∃ (x' y' z' : Value) (res : Cn) (er : Nat), e = .returned (.tuple #[.agg #[x', y', z'], .int .i64 er]) ∧ Oc W.heap.size w' x' y' z' res ∧ Hid (EntR c qs res er) ∧ Below W.heap.size W w') := fun W v hW hv => enter_any usort_any (HRD.out W hW) hv (.inr (by omega)) (by omega) (Nat.le_refl _) (.inl (by omega))
  obtain ⟨d0, d1, d2⟩ := HKD.out W2 (Below.refl _ _)
  have hdr : Below W2.heap.size W2 W2.drew := u_drew W2
  have hA0 : Below W2.heap.size W2 (W2.alloc (.cells #[.slice none 0 0, .slice none 0 0, .slice none 0 0] 24)).drew := below_drewN ((Below.refl _ _).alloc (Nat.le_refl _) _) 1
  have hAz : (W2.alloc (.cells #[.slice none 0 0, .slice none 0 0, .slice none 0 0] 24)).drew.heap.size = W2.heap.size + 1 := World.size_alloc _ _
  have HA0 : Hid ((W2.alloc (.cells #[.slice none 0 0, .slice none 0 0, .slice none 0 0] 24)).drew.heap[W2.heap.size]? = some (.cells #[.slice none 0 0, .slice none 0 0, .slice none 0 0] 24 (0, 0))) := heap_alloc_new W2 _
  have hzdr : W2.drew.heap.size = W2.heap.size := rfl
  have hnw : ¬ w2.heap.size = W2.heap.size := by omega
  have hnw2 : ¬ W2.heap.size = w2.heap.size := by omega
  have hzl : w2.heap.size < W2.heap.size := by omega
  clear hzd hz0
  go_cut [6, 7] from 16 to 95 (fun p e wx => ∃ (g er : Nat) (x' y' z' : Value) (d : Cn), p = .pointer (some ⟨g, 0, none⟩) ∧ e = .int .i64 er ∧ W2.heap.size ≤ g ∧ g < wx.heap.size ∧ Box g wx x' y' z' d ∧ Oc W2.heap.size wx x' y' z' d ∧ Hid (EntR c qs d er) ∧ Below W2.heap.size W2 wx)
  case first =>
    go_region_held3 (fun w' => w'.cell? ⟨w2.heap.size, 0, none⟩ = some (.slice ex c.1.length fx) ∧ w'.cell? ⟨w2.heap.size, 1, none⟩ = some (.slice ey c.2.1.length fy) ∧ w'.cell? ⟨w2.heap.size, 2, none⟩ = some (.slice ez c.2.2.length fz)) (go_keep) (first
      | (have hq1 := hgwa; go_at_call 21; refine (HEN.out _ _ hbA hrx).mono ?_; rintro e w3 ⟨x', y', z', d, er, rfl, hoc, HER, hb'⟩; have hbB := up_al hbA hb'; obtain ⟨s0, s1, s2⟩ := HKD.out w3 hbB; obtain ⟨k1, k2, k3⟩ := hoc.rc; obtain ⟨gx, ix, rfl⟩ := k1.shape; obtain ⟨gy, iy, rfl⟩ := k2.shape; obtain ⟨gz', iz, rfl⟩ := k3.shape; have hnb : ¬ w2.heap.size = w3.heap.size := (by have := hbB.size; omega); have hnb2 : ¬ w3.heap.size = w2.heap.size := (by have := hbB.size; omega); have hgw3 : w3.heap[W2.heap.size]? = some (.cells #[.slice none 0 0, .slice none 0 0, .slice none 0 0] 24 (0, 0)) := (hb'.block _ (by omega)).trans hgwa; obtain ⟨t0, t1, t2, tz⟩ := at3 hgw3; have tz0 := tz 0; have tz1 := tz 1; have tz2 := tz 2; clear tz)
      | (have hq1 := hrx; go_at_call 21; refine (HEN.out _ _ (hbA.alloc hbA.size (.cells #[.slice none 0 0, .slice none 0 0, .slice none 0 0] 24)) (hrx.below (u_al wa _) (Nat.le_refl _))).mono ?_; rintro e w3 ⟨x', y', z', d, er, rfl, hoc, HER, hb'⟩; have hbB := up_al (hbA.alloc hbA.size (.cells #[.slice none 0 0, .slice none 0 0, .slice none 0 0] 24)) hb'; obtain ⟨s0, s1, s2⟩ := HKD.out w3 hbB; obtain ⟨k1, k2, k3⟩ := hoc.rc; obtain ⟨gx, ix, rfl⟩ := k1.shape; obtain ⟨gy, iy, rfl⟩ := k2.shape; obtain ⟨gz', iz, rfl⟩ := k3.shape; have hnb : ¬ w2.heap.size = w3.heap.size := (by have := hbB.size; omega); have hnb2 : ¬ w3.heap.size = w2.heap.size := (by have := hbB.size; omega); have hgw3 : w3.heap[wa.heap.size]? = some (.cells #[.slice none 0 0, .slice none 0 0, .slice none 0 0] 24 (0, 0)) := (hb'.block _ (by simp)).trans (heap_alloc_new wa _); obtain ⟨t0, t1, t2, tz⟩ := at3 hgw3; have tz0 := tz 0; have tz1 := tz 1; have tz2 := tz 2; clear tz)
      | (have hq1 := hrx; go_at_call 21; refine (HEN.out _ _ hbA hrx).mono ?_; rintro e w3 ⟨x', y', z', d, er, rfl, hoc, HER, hb'⟩; have hbB := up_al hbA hb'; obtain ⟨s0, s1, s2⟩ := HKD.out w3 hbB; obtain ⟨k1, k2, k3⟩ := hoc.rc; obtain ⟨gx, ix, rfl⟩ := k1.shape; obtain ⟨gy, iy, rfl⟩ := k2.shape; obtain ⟨gz', iz, rfl⟩ := k3.shape; have hnb : ¬ w2.heap.size = w3.heap.size := (by have := hbB.size; omega); have hnb2 : ¬ w3.heap.size = w2.heap.size := (by have := hbB.size; omega))
      | (refine step_appX0 rfl _ _ rfl rfl _ _ rfl (HRQ.out _ hA0) hnil (by omega) ?_; intro v1 wa hrx hb'; have hbA := up_al hA0 hb'; obtain ⟨r0, r1, r2⟩ := HKD.out wa hbA; obtain ⟨as1, cs1, rfl⟩ : ∃ a k, v1 = .slice a qs.length k := (by obtain ⟨a, k, e, _⟩ := hrx; exact ⟨a, k, e⟩); have hna : ¬ w2.heap.size = wa.heap.size := (by have := hbA.size; omega); have hna2 : ¬ wa.heap.size = w2.heap.size := (by have := hbA.size; omega); have hgwa : wa.heap[W2.heap.size]? = some (.cells #[.slice none 0 0, .slice none 0 0, .slice none 0 0] 24 (0, 0)) := (hb'.block _ (by omega)).trans HA0.out; have hlta : W2.heap.size < wa.heap.size := (by have := hb'.size; omega))
      | (refine step_appX0 rfl _ _ rfl rfl _ _ rfl (HRQ.out _ hdr) hnil (by omega) ?_; intro v1 wa hrx hb'; have hbA := up_al hdr hb'; obtain ⟨r0, r1, r2⟩ := HKD.out wa hbA; obtain ⟨as1, cs1, rfl⟩ : ∃ a k, v1 = .slice a qs.length k := (by obtain ⟨a, k, e, _⟩ := hrx; exact ⟨a, k, e⟩); have hna : ¬ w2.heap.size = wa.heap.size := (by have := hbA.size; omega); have hna2 : ¬ wa.heap.size = w2.heap.size := (by have := hbA.size; omega))
      | fail)
    · have hzB := hbB.size
      have hzA := hbA.size
      have hzz := hb'.size
      have hbk : ∀ v ∈ [Value.slice gx d.1.length ix, .slice gy d.2.1.length iy, .slice gz' d.2.2.length iz], ∀ b, v.ownBlock = some b → W2.heap.size ≤ b ∧ b < w3.heap.size := fun v hv b e => by
        simp only [List.mem_cons, List.not_mem_nil, or_false] at hv
        rcases hv with rfl | rfl | rfl
        · have h1 := hoc.1.lt b e; omega
        · have h1 := hoc.2.1.lt b e; omega
        · have h1 := hoc.2.2.lt b e; omega
      have hbox : Box w3.heap.size (w3.alloc (.cells #[.slice gx d.1.length ix, .slice gy d.2.1.length iy, .slice gz' d.2.2.length iz] 24)) (.slice gx d.1.length ix) (.slice gy d.2.1.length iy) (.slice gz' d.2.2.length iz) d := ⟨heap_alloc_new w3 _, ⟨k1.alloc _, k2.alloc _, k3.alloc _⟩, fun v hv b e => by have := hbk v hv b e; exact ⟨by omega, by simp; omega⟩⟩
      have hoc2 : Oc W2.heap.size (w3.alloc (.cells #[.slice gx d.1.length ix, .slice gy d.2.1.length iy, .slice gz' d.2.2.length iz] 24)) (.slice gx d.1.length ix) (.slice gy d.2.1.length iy) (.slice gz' d.2.2.length iz) d := Oc.mono ⟨hoc.1.alloc _, hoc.2.1.alloc _, hoc.2.2.alloc _⟩ (by omega)
      clear hbk
      go_wp2_with fail
      go_meet
      exact ⟨w3.heap.size, er, _, _, _, d, rfl, rfl, by omega, by simp, hbox, hoc2, HER, hbB.alloc hbB.size _⟩
    · have hbz : Box wa.heap.size w3 (.slice none 0 0) (.slice none 0 0) (.slice none 0 0) none3 := ⟨hgw3, Rc.nil _, fun v hv b e => by
        simp only [List.mem_cons, List.not_mem_nil, or_false] at hv
        rcases hv with rfl | rfl | rfl <;> simp [Value.ownBlock] at e⟩
      have hzA := hbA.size
      have hzz := hb'.size
      simp only [World.size_alloc] at hzz
      have hbk : ∀ v ∈ [Value.slice gx d.1.length ix, .slice gy d.2.1.length iy, .slice gz' d.2.2.length iz], ∀ b, v.ownBlock = some b → wa.heap.size < b ∧ b < w3.heap.size := fun v hv b e => by
        simp only [List.mem_cons, List.not_mem_nil, or_false] at hv
        rcases hv with rfl | rfl | rfl
        · have h1 := hoc.1.lt b e; simp only [World.size_alloc] at h1; omega
        · have h1 := hoc.2.1.lt b e; simp only [World.size_alloc] at h1; omega
        · have h1 := hoc.2.2.lt b e; simp only [World.size_alloc] at h1; omega
      have hbox := hbz.put (x' := .slice gx d.1.length ix) (y' := .slice gy d.2.1.length iy) (z' := .slice gz' d.2.2.length iz) (c' := d) ⟨k1, k2, k3⟩ (fun v hv b e => by have := hbk v hv b e; exact ⟨by omega, this.2⟩)
      have hch := put3_chg w3 wa.heap.size (.slice gx d.1.length ix) (.slice gy d.2.1.length iy) (.slice gz' d.2.2.length iz)
      have hoc2 := (hoc.keptC hch (fun b h q => by simp only [World.size_alloc] at h; omega)).mono (B' := W2.heap.size) (by simp only [World.size_alloc]; omega)
      have hbe := hbB.trans (hch.below (B := W2.heap.size) (fun b q => by omega) hbB.size)
      clear hbk
      go_wp2_with fail
      go_meet
      exact ⟨wa.heap.size, er, _, _, _, d, rfl, rfl, by omega, by simp; omega, hbox, hoc2, HER, hbe⟩
    · have hbz : Box W2.heap.size w3 (.slice none 0 0) (.slice none 0 0) (.slice none 0 0) none3 := ⟨hgw3, Rc.nil _, fun v hv b e => by
        simp only [List.mem_cons, List.not_mem_nil, or_false] at hv
        rcases hv with rfl | rfl | rfl <;> simp [Value.ownBlock] at e⟩
      have hzA := hbA.size
      have hzz := hb'.size
      skip
      have hbk : ∀ v ∈ [Value.slice gx d.1.length ix, .slice gy d.2.1.length iy, .slice gz' d.2.2.length iz], ∀ b, v.ownBlock = some b → W2.heap.size < b ∧ b < w3.heap.size := fun v hv b e => by
        simp only [List.mem_cons, List.not_mem_nil, or_false] at hv
        rcases hv with rfl | rfl | rfl
        · have h1 := hoc.1.lt b e; skip; omega
        · have h1 := hoc.2.1.lt b e; skip; omega
        · have h1 := hoc.2.2.lt b e; skip; omega
      have hbox := hbz.put (x' := .slice gx d.1.length ix) (y' := .slice gy d.2.1.length iy) (z' := .slice gz' d.2.2.length iz) (c' := d) ⟨k1, k2, k3⟩ (fun v hv b e => by have := hbk v hv b e; exact ⟨by omega, this.2⟩)
      have hch := put3_chg w3 W2.heap.size (.slice gx d.1.length ix) (.slice gy d.2.1.length iy) (.slice gz' d.2.2.length iz)
      have hoc2 := (hoc.keptC hch (fun b h q => by skip; omega)).mono (B' := W2.heap.size) (by skip; omega)
      have hbe := hbB.trans (hch.below (B := W2.heap.size) (fun b q => by omega) hbB.size)
      clear hbk
      go_wp2_with fail
      go_meet
      exact ⟨W2.heap.size, er, _, _, _, d, rfl, rfl, by omega, by simp; omega, hbox, hoc2, HER, hbe⟩
  case rest =>
    obtain ⟨g, er, xa, ya, za, da, rfl, rfl, hg, hgw, hbo, hoa, HEA, hbw⟩ := hcut
    obtain ⟨wd, hwd⟩ : ∃ wd, wd = wc := ⟨wc, rfl⟩
    subst hwd
    have hra := hbo.2.1
    obtain ⟨gx, ix, rfl⟩ := hra.1.shape
    obtain ⟨gy, iy, rfl⟩ := hra.2.1.shape
    obtain ⟨gz, iz, rfl⟩ := hra.2.2.shape
    have hsd := hbw.size
    obtain ⟨c0, c1, c2⟩ := HKC.out wd hbw
    have hren := renter_any (HRC.out wd hbw) (HRQ.out wd hbw) hlc hlq
    clear hA0 hAz HA0 hzdr hdr d0 d1 d2 HEN hnw hnw2 hra
    go_wp2_with fail
    refine hren.mono ?_
    rintro e w3 ⟨xb, yb, zb, db, eb, rfl, hrb, HEB, hb3⟩
    obtain ⟨rfl, rfl⟩ := entR_uniq HEA.out HEB
    have hb3W : Below W2.heap.size W2 w3 := hbw.trans (hb3.mono hsd)
    have hs3 := hb3.size
    obtain ⟨hx, jx, rfl⟩ := hrb.1.shape
    obtain ⟨hy, jy, rfl⟩ := hrb.2.1.shape
    obtain ⟨hz, jz, rfl⟩ := hrb.2.2.shape
    clear hren c0 c1 c2
    have hn4 := heap_alloc_new w3 (.cells #[.slice hx da.1.length jx, .slice hy da.2.1.length jy, .slice hz da.2.2.length jz] 24)
    have hb4 : Below w3.heap.size w3 (w3.alloc (.cells #[.slice hx da.1.length jx, .slice hy da.2.1.length jy, .slice hz da.2.2.length jz] 24)) := u_al w3 _
    have hz4 : w3.heap.size < (w3.alloc (.cells #[.slice hx da.1.length jx, .slice hy da.2.1.length jy, .slice hz da.2.2.length jz] 24)).heap.size := by simp
    obtain ⟨d0, d1, d2⟩ := HKD.out _ (hb3W.trans (hb4.mono hb3W.size))
    go_wp2_with fail
    generalize (w3.alloc (.cells #[.slice hx da.1.length jx, .slice hy da.2.1.length jy, .slice hz da.2.2.length jz] 24)) = W4 at *
    have hb4W : Below W2.heap.size W2 W4 := hb3W.trans (hb4.mono hb3W.size)
    have hle := leave_any usort_any (HRD.out W4 hb4W) (by omega) (Nat.le_refl _)
    refine hle.mono ?_
    rintro e w5 ⟨xl, yl, zl, rfl, hol, hb5⟩
    have hb5W : Below W2.heap.size W2 w5 := hb4W.trans (hb5.mono hb4W.size)
    have hs5 := hb5.size
    have hrl := hol.rc
    obtain ⟨lx, mx, rfl⟩ := hrl.1.shape
    obtain ⟨ly, my, rfl⟩ := hrl.2.1.shape
    obtain ⟨lz, mz, rfl⟩ := hrl.2.2.shape
    clear hle d0 d1 d2 hrl
    have hn6 := heap_alloc_new w5 (.cells #[.slice lx (leF c).1.1.length mx, .slice ly (leF c).1.2.1.length my, .slice lz (leF c).1.2.2.length mz] 24)
    have hb6 : Below w5.heap.size w5 (w5.alloc (.cells #[.slice lx (leF c).1.1.length mx, .slice ly (leF c).1.2.1.length my, .slice lz (leF c).1.2.2.length mz] 24)) := u_al w5 _
    have hz6 : w5.heap.size < (w5.alloc (.cells #[.slice lx (leF c).1.1.length mx, .slice ly (leF c).1.2.1.length my, .slice lz (leF c).1.2.2.length mz] 24)).heap.size := by simp
    obtain ⟨c0, c1, c2⟩ := HKC.out _ (hb5W.trans (hb6.mono hb5W.size))
    go_wp2_with fail
    generalize (w5.alloc (.cells #[.slice lx (leF c).1.1.length mx, .slice ly (leF c).1.2.1.length my, .slice lz (leF c).1.2.2.length mz] 24)) = W6 at *
    have hb6W : Below W2.heap.size W2 W6 := hb5W.trans (hb6.mono hb5W.size)
    have hrle := rleave_any (HRC.out W6 hb6W) hlc
    refine hrle.mono ?_
    rintro e w7 ⟨xm, ym, zm, rfl, hom, hb7⟩
    have hb7W : Below W2.heap.size W2 w7 := hb6W.trans (hb7.mono hb6W.size)
    have hs7 := hb7.size
    have hrm := hom.rc
    obtain ⟨nx, ox, rfl⟩ := hrm.1.shape
    obtain ⟨ny, oy, rfl⟩ := hrm.2.1.shape
    obtain ⟨nz, oz, rfl⟩ := hrm.2.2.shape
    clear hrle c0 c1 c2 hom
    have hn8 := heap_alloc_new w7 (.cells #[.slice nx (leF c).1.1.length ox, .slice ny (leF c).1.2.1.length oy, .slice nz (leF c).1.2.2.length oz] 24)
    have hb8 : Below w7.heap.size w7 (w7.alloc (.cells #[.slice nx (leF c).1.1.length ox, .slice ny (leF c).1.2.1.length oy, .slice nz (leF c).1.2.2.length oz] 24)) := u_al w7 _
    have hz8 : w7.heap.size < (w7.alloc (.cells #[.slice nx (leF c).1.1.length ox, .slice ny (leF c).1.2.1.length oy, .slice nz (leF c).1.2.2.length oz] 24)).heap.size := by simp
    have HNU : Hid (∀ W (x : Int), Calls Try.prog 10 #[.int .i64 x] W fun e w' => e = .returned (.int .i64 x) ∧ w' = W) := fun W x => lnum_any x W
    go_wp2_with fail
    generalize (w7.alloc (.cells #[.slice nx (leF c).1.1.length ox, .slice ny (leF c).1.2.1.length oy, .slice nz (leF c).1.2.2.length oz] 24)) = W8 at *
    have hb8W : Below W2.heap.size W2 W8 := hb7W.trans (hb8.mono hb7W.size)
    have HA : Hid (∀ W, Below W8.heap.size W8 W → Below wd.heap.size wd W) := fun W hW => hb3.trans ((hb4.trans ((hb5.trans ((hb6.trans ((hb7.trans ((hb8.trans (hW.mono hb8.size)).mono hb7.size)).mono hb6.size)).mono hb5.size)).mono hb4.size)).mono hb3.size)
    have HB : Hid (∀ W, Below W8.heap.size W8 W → Below W4.heap.size W4 W) := fun W hW => hb5.trans ((hb6.trans ((hb7.trans ((hb8.trans (hW.mono hb8.size)).mono hb7.size)).mono hb6.size)).mono hb5.size)
    have HC : Hid (∀ W, Below W8.heap.size W8 W → Below W6.heap.size W6 W) := fun W hW => hb7.trans ((hb8.trans (hW.mono hb8.size)).mono hb7.size)
    have HU : Hid (∀ W, Below W8.heap.size W8 W → Below W2.heap.size W2 W) := fun W hW => hb8W.trans (hW.mono hb8W.size)
    have HCA : Hid (∀ W, Below W8.heap.size W8 W → W.heap[g]? = some (.cells #[.slice gx da.1.length ix, .slice gy da.2.1.length iy, .slice gz da.2.2.length iz] 24 (0, 0))) := fun W hW => ((HA.out W hW).block g hgw).trans hbo.1
    have HRAA : Hid (∀ W, Below W8.heap.size W8 W → Oc W2.heap.size W (.slice gx da.1.length ix) (.slice gy da.2.1.length iy) (.slice gz da.2.2.length iz) da) := fun W hW => ⟨hoa.1.below (HA.out W hW) (Nat.le_refl _), hoa.2.1.below (HA.out W hW) (Nat.le_refl _), hoa.2.2.below (HA.out W hW) (Nat.le_refl _)⟩
    have HCB : Hid (∀ W, Below W8.heap.size W8 W → W.heap[w3.heap.size]? = some (.cells #[.slice hx da.1.length jx, .slice hy da.2.1.length jy, .slice hz da.2.2.length jz] 24 (0, 0))) := fun W hW => ((HB.out W hW).block _ hz4).trans hn4
    have HRB : Hid (∀ W, Below W8.heap.size W8 W → Rc W (.slice hx da.1.length jx) (.slice hy da.2.1.length jy) (.slice hz da.2.2.length jz) da) := fun W hW => hrb.below (hb4.trans ((HB.out W hW).mono hb4.size)) (Nat.le_refl _)
    have HCL : Hid (∀ W, Below W8.heap.size W8 W → W.heap[w5.heap.size]? = some (.cells #[.slice lx (leF c).1.1.length mx, .slice ly (leF c).1.2.1.length my, .slice lz (leF c).1.2.2.length mz] 24 (0, 0))) := fun W hW => ((HC.out W hW).block _ hz6).trans hn6
    have HRL : Hid (∀ W, Below W8.heap.size W8 W → Oc W4.heap.size W (.slice lx (leF c).1.1.length mx) (.slice ly (leF c).1.2.1.length my) (.slice lz (leF c).1.2.2.length mz) (leF c).1) := fun W hW => ⟨hol.1.below (hb6.trans ((HC.out W hW).mono hb6.size)) (Nat.le_refl _), hol.2.1.below (hb6.trans ((HC.out W hW).mono hb6.size)) (Nat.le_refl _), hol.2.2.below (hb6.trans ((HC.out W hW).mono hb6.size)) (Nat.le_refl _)⟩
    have HCM : Hid (∀ W, Below W8.heap.size W8 W → W.heap[w7.heap.size]? = some (.cells #[.slice nx (leF c).1.1.length ox, .slice ny (leF c).1.2.1.length oy, .slice nz (leF c).1.2.2.length oz] 24 (0, 0))) := fun W hW => (hW.block _ hz8).trans hn8
    have HRM : Hid (∀ W, Below W8.heap.size W8 W → Rc W (.slice nx (leF c).1.1.length ox) (.slice ny (leF c).1.2.1.length oy) (.slice nz (leF c).1.2.2.length oz) (leF c).1) := fun W hW => hrm.below (hb8.trans (hW.mono hb8.size)) (Nat.le_refl _)
    have hbk : ∀ b, (Value.slice gx da.1.length ix).ownBlock = some b → b < wd.heap.size ∧ W2.heap.size ≤ b ∧ b ≠ g := fun b e => ⟨(hoa.1.lt b e).2, (hoa.1.lt b e).1, (hbo.2.2 _ (by simp) b e).1⟩
    have HBK : Hid (∀ b, (Value.slice gx da.1.length ix).ownBlock = some b → b < wd.heap.size ∧ W2.heap.size ≤ b ∧ b ≠ g) := hbk
    have HBL : Hid (∀ b, (Value.slice lx (leF c).1.1.length mx).ownBlock = some b → W4.heap.size ≤ b ∧ b < w5.heap.size) := fun b e => hol.1.lt b e
    have hord : wd.heap.size ≤ w3.heap.size ∧ w3.heap.size < W4.heap.size ∧ W4.heap.size ≤ w5.heap.size ∧ w5.heap.size < W6.heap.size ∧ W6.heap.size ≤ w7.heap.size ∧ w7.heap.size < W8.heap.size := ⟨hs3, hz4, hs5, hz6, hs7, hz8⟩
    clear hbk hbo hoa hrb hol hrm hn4 hn6 hn8 hb3 hb4 hb5 hb6 hb7 hb8 hb3W hb4W hb5W hb6W hb7W HEA HEB hbw hs3 hs5 hs7 hz4 hz6 hz8
    refine (HNU.out W8 _).mono ?_
    rintro e w9 ⟨rfl, hw9⟩
    obtain rfl : W8 = w9 := hw9.symm
    obtain ⟨p0, p1, p2, _⟩ := at3 (HCA.out W8 (Below.refl _ _))
    obtain ⟨q0, q1, q2, _⟩ := at3 (HCB.out W8 (Below.refl _ _))
    have hsc := sameconf_any (HRAA.out W8 (Below.refl _ _)).rc (HRB.out W8 (Below.refl _ _))
    rw [decide_eq_true rfl] at hsc
    have hee : ((er : Int) == (er : Int)) = true := by simp
    have hee2 : ((er : Int) != (er : Int)) = false := by simp
    go_wp2_with fail
    refine hsc.mono ?_
    rintro e wA ⟨rfl, hbA⟩
    clear p0 p1 p2 q0 q1 q2 hsc hee hee2
    go_wp2_with fail
    refine (HNU.out wA _).mono ?_
    rintro e w9 ⟨rfl, hw9⟩
    obtain rfl : wA = w9 := hw9.symm
    obtain ⟨p0, p1, p2, _⟩ := at3 (HCL.out wA hbA)
    obtain ⟨q0, q1, q2, _⟩ := at3 (HCM.out wA hbA)
    have hsc := sameconf_any (HRL.out wA hbA).rc (HRM.out wA hbA)
    rw [decide_eq_true rfl] at hsc
    have hee : (((leF c).2 : Int) == ((leF c).2 : Int)) = true := by simp
    have hee2 : (((leF c).2 : Int) != ((leF c).2 : Int)) = false := by simp
    go_wp2_with fail
    refine hsc.mono ?_
    rintro e wB ⟨rfl, hbB'⟩
    have hbB : Below W8.heap.size W8 wB := hbA.trans (hbB'.mono hbA.size)
    clear p0 p1 p2 q0 q1 q2 hsc hee hee2 hbB'
    obtain ⟨p0, p1, p2⟩ := HKD.out wB (HU.out wB hbB)
    obtain ⟨q0, q1, q2⟩ := HKC.out wB (HU.out wB hbB)
    have hsc := sameconf_any (HRD.out wB (HU.out wB hbB)) (HRC.out wB (HU.out wB hbB))
    rw [decide_eq_true rfl] at hsc
    go_wp2_with fail
    refine hsc.mono ?_
    rintro e wC ⟨rfl, hbC'⟩
    have hbC : Below W8.heap.size W8 wC := hbB.trans (hbC'.mono hbB.size)
    clear p0 p1 p2 q0 q1 q2 hsc hbC' hbA hbB
    have hboC := HCA.out wC hbC
    have hocC := (HRAA.out wC hbC).1
    have hsC := hbC.size
    have hla := hocC.ru.len
    unfold maxLen at hla
    have HSX : Hid (∀ W (S : Nat → Prop), Chg S wC W → (∀ b, S b → W2.heap.size ≤ b) → Below W2.heap.size W2 W) := fun W S hc hS => (HU.out wC hbC).trans (hc.below hS (HU.out wC hbC).size)
    have HGB : Hid (∀ W, Chg (fun b => (Value.slice gx da.1.length ix).ownBlock = some b) wC W → W.heap[g]? = some (.cells #[.slice gx da.1.length ix, .slice gy da.2.1.length iy, .slice gz da.2.2.length iz] 24 (0, 0))) := fun W hc => (hc.block g (by omega) (fun e => (HBK.out g e).2.2 rfl)).trans hboC
    have HGL : Hid (∀ W, Chg (fun b => (Value.slice gx da.1.length ix).ownBlock = some b) wC W → W.heap[w5.heap.size]? = some (.cells #[.slice lx (leF c).1.1.length mx, .slice ly (leF c).1.2.1.length my, .slice lz (leF c).1.2.2.length mz] 24 (0, 0)) ∧ Ou W4.heap.size W (.slice lx (leF c).1.1.length mx) (leF c).1.1) := fun W hc => ⟨(hc.block w5.heap.size (by omega) (fun e => by have := (HBK.out _ e).1; omega)).trans (HCL.out wC hbC), ((HRL.out wC hbC).1).keptC hc (fun b e q => by have := (HBK.out b q).1; have := (HBL.out b e).1; omega)⟩
    clear hboC
    go_wp2_with fail
    go_loopw [14] (fun i wr => ∃ (k : Nat) (l' : List UInt64), k ≤ da.1.length ∧ i = .int .i64 k ∧ Hid (l'.length = da.1.length) ∧ Ou W2.heap.size wr (.slice gx da.1.length ix) l' ∧ Chg (fun b => (Value.slice gx da.1.length ix).ownBlock = some b) wC wr) (fun i _ => da.1.length - (intOf i).toNat)
    case atStart => exact ⟨0, _, Nat.zero_le _, rfl, rfl, hocC, Chg.refl _ _⟩
    case round =>
      obtain ⟨k, l', hk, rfl, HL, ho, hch⟩ := hrel
      clear hocC
      obtain ⟨p0, p1, p2, _⟩ := at3 (HGB.out wr hch)
      by_cases hlt : k < da.1.length
      · have hlti : (k : Int) < (da.1.length : Int) := by omega
        have hfz := ho.blk
        rcases hfz with ⟨q, h0⟩ | ⟨gb, cb, q, h1, h2, h3, h4, h5, h6⟩
        · have := HL.out; rw [h0] at this; simp at this; omega
        simp only [Value.slice.injEq] at q
        obtain ⟨rfl, _, rfl⟩ := q
        have hcell := h5 k (by have := HL.out; omega)
        have hfr := h6 k
        have hput := ho.put rfl k 99
        have hch2 := hch.put gb k (.int .u64 99) rfl
        have HL2 : Hid ((l'.set k 99).length = da.1.length) := by show _ = _; rw [List.length_set]; exact HL.out
        clear h5 h6 h1 h2 h3 h4
        go_wp2_with fail
        go_roundw
        case rel => exact ⟨k + 1, l'.set k 99, by omega, by go_num, HL2, hput, hch2⟩
        case measure => simp [intOf]; omega
      · obtain rfl : k = da.1.length := by omega
        obtain ⟨hgl, hol⟩ := HGL.out wr hch
        have hbE : Below W2.heap.size W2 wr := HSX.out wr _ hch (fun b e => (HBK.out b e).2.1)
        have hsE := hch.size
        clear HGL HGB HSX ho hch HL
        go_wp2_with fail
        generalize hwr : wr = wE at *
        clear hwr wr p0 p1 p2
        have HGL2 : Hid (∀ W, Chg (fun b => (Value.slice lx (leF c).1.1.length mx).ownBlock = some b) wE W → W.heap[w5.heap.size]? = some (.cells #[.slice lx (leF c).1.1.length mx, .slice ly (leF c).1.2.1.length my, .slice lz (leF c).1.2.2.length mz] 24 (0, 0))) := fun W hc => (hc.block w5.heap.size (by omega) (fun e => by have := (HBL.out _ e).2; omega)).trans hgl
        have HEND : Hid (∀ W, Chg (fun b => (Value.slice lx (leF c).1.1.length mx).ownBlock = some b) wE W → Below W2.heap.size W2 W) := fun W hc => hbE.trans (hc.below (fun b e => by have := (HBL.out b e).1; omega) hbE.size)
        have hll := hol.ru.len
        unfold maxLen at hll
        clear hgl
        generalize (leF c).1.1 = LV at *
        go_loopw [15] (fun i wr => ∃ (k : Nat) (l' : List UInt64), k ≤ LV.length ∧ i = .int .i64 k ∧ Hid (l'.length = LV.length) ∧ Ou W4.heap.size wr (.slice lx LV.length mx) l' ∧ Chg (fun b => (Value.slice lx LV.length mx).ownBlock = some b) wE wr) (fun i _ => LV.length - (intOf i).toNat)
        case atStart => exact ⟨0, _, Nat.zero_le _, rfl, rfl, hol, Chg.refl _ _⟩
        case round =>
          obtain ⟨k, l', hk, rfl, HL, ho, hch⟩ := hrel
          clear hol
          obtain ⟨p0, p1, p2, _⟩ := at3 (HGL2.out wr hch)
          by_cases hlt : k < LV.length
          · have hlti : (k : Int) < (LV.length : Int) := by omega
            have hfz := ho.blk
            rcases hfz with ⟨q, h0⟩ | ⟨gb, cb, q, h1, h2, h3, h4, h5, h6⟩
            · have := HL.out; rw [h0] at this; simp at this; omega
            simp only [Value.slice.injEq] at q
            obtain ⟨rfl, _, rfl⟩ := q
            have hcell := h5 k (by have := HL.out; omega)
            have hfr := h6 k
            have hput := ho.put rfl k 99
            have hch2 := hch.put gb k (.int .u64 99) rfl
            have HL2 : Hid ((l'.set k 99).length = LV.length) := by show _ = _; rw [List.length_set]; exact HL.out
            clear h5 h6 h1 h2 h3 h4
            go_wp2_with fail
            go_roundw
            case rel => exact ⟨k + 1, l'.set k 99, by omega, by go_num, HL2, hput, hch2⟩
            case measure => simp [intOf]; omega
          · obtain rfl : k = LV.length := by omega
            have hbF := HEND.out wr hch
            obtain ⟨m0, m1, m2⟩ := HKD.out wr hbF
            obtain ⟨n0, n1, n2⟩ := HKC.out wr hbF
            have hsc := sameconf_any (HRD.out wr hbF) (HRC.out wr hbF)
            rw [decide_eq_true rfl] at hsc
            clear HL ho hch
            go_wp2_with fail
            refine hsc.mono ?_
            rintro e wG ⟨rfl, hbG⟩
            go_wp2_with fail
            go_ret
            exact ⟨rfl, HWW.out wG (hbF.trans (hbG.mono hbF.size))⟩
end Go.Proofs.Ytedpfmalhapmeaa
