/- newPlan. -/
import Derived.Test.YtedfjacmaidhkaaGreatG19
import Derived.Test.YtedfjacmaidhkaaGreatG31
import Derived.Test.YtedfjacmaidhkaaGreatG5
namespace Go.Proofs.YtedfjacmaidhkaaGreat
open Go.RowKit Go.Maps
set_option linter.unusedVariables false
set_option linter.unusedSimpArgs false
set_option maxRecDepth 100000

/-- A map without an entry at m. -/
def Mt (B m : Nat) (v : Value) (w : World) : Prop := v = .map (some m) ∧ w.heap[m]? = some (.map #[] 0) ∧ B ≤ m
theorem Mt.below {B m : Nat} {v : Value} {w w' : World} (h : Mt B m v w) (hb : Below w.heap.size w w') : Mt B m v w' := ⟨h.1, keep_blkT h.2.1 hb, h.2.2⟩
theorem Mt.lt {B m : Nat} {v : Value} {w : World} (h : Mt B m v w) : m < w.heap.size := (Array.getElem?_eq_some_iff.1 h.2.1).1
/-- What the views of regions come to. -/
def RgsP (B : Nat) (vs : List RV) (v : Value) (w : World) : Prop := ∃ rs : List RV, rs.Perm (trF vs) ∧ rs.Pairwise (fun a b => a.id.toNat ≤ b.id.toNat) ∧ OwRv B w v rs
theorem RgsP.below {B : Nat} {vs : List RV} {v : Value} {w w' : World} (h : RgsP B vs v w) (hb : Below w.heap.size w w') : RgsP B vs v w' := by
  obtain ⟨rs, h1, h2, h3⟩ := h
  exact ⟨rs, h1, h2, h3.below hb (Nat.le_refl _)⟩
def plN (a b c : Int) (v12 v14 v15 v16 v17 v18 : Value) : Array Value := #[.int .i64 a, .int .i64 b, .int .i64 c, .int .i64 0, v12, v14, v15, v16, v17, v18, .slice none 0 0]
structure NwI (B : Nat) (w0 : World) (a b c : Int) (s1 s2 : Value) (ss : List Sw) (vs : List RV) (D : Nat → Bool) (m5 m6 m7 m8 : Nat) (v10 v11 v12 v13 v14 v15 v16 v17 v18 v19 v20 v7 : Value) (w : World) : Prop where
  bl : Below B w0 w
  sz : B ≤ w.heap.size
  b3 : w.heap[B]? = some (.cells #[.int .i64 a, .int .i64 b, .int .i64 c] 23 (0, 0))
  h0 : D 0 = true → v10 = .agg #[.int .i64 a, .int .i64 b, .int .i64 c]
  h1 : D 1 = true → v11 = s1
  h2 : D 2 = true → OwSw B w v12 (tsF ss)
  h3 : D 3 = true → v13 = s2
  h4 : D 4 = true → RgsP B vs v14 w
  h5 : D 5 = true → Mt B m5 v15 w
  h6 : D 6 = true → Mt B m6 v16 w
  h7 : D 7 = true → Mt B m7 v17 w
  h8 : D 8 = true → Mt B m8 v18 w
  n56 : D 5 = true → D 6 = true → m5 ≠ m6
  n57 : D 5 = true → D 7 = true → m5 ≠ m7
  n58 : D 5 = true → D 8 = true → m5 ≠ m8
  n67 : D 6 = true → D 7 = true → m6 ≠ m7
  n68 : D 6 = true → D 8 = true → m6 ≠ m8
  n78 : D 7 = true → D 8 = true → m7 ≠ m8
  h9 : D 9 = true → v19 = .agg (plN a b c v12 v14 v15 v16 v17 v18)
  h10 : D 10 = true → ∃ x, v20 = .pointer (some ⟨x, 0, none⟩) ∧ B ≤ x ∧ w.heap[x]? = some (.cells (plN a b c v12 v14 v15 v16 v17 v18) 71 (0, 0))
  h11 : D 11 = true → v7 = v20
  k9 : D 9 = true → D 0 = true ∧ D 2 = true ∧ D 4 = true ∧ D 5 = true ∧ D 6 = true ∧ D 7 = true ∧ D 8 = true
  k10 : D 10 = true → D 9 = true
  k11 : D 11 = true → D 10 = true
section
variable {B : Nat} {w0 : World} {a b c : Int} {s1 s2 : Value} {ss : List Sw} {vs : List RV} {D : Nat → Bool} {m5 m6 m7 m8 : Nat} {v10 v11 v12 v13 v14 v15 v16 v17 v18 v19 v20 v7 : Value} {w w' : World}
theorem NwI.next (h : NwI B w0 a b c s1 s2 ss vs D m5 m6 m7 m8 v10 v11 v12 v13 v14 v15 v16 v17 v18 v19 v20 v7 w) (hb : Below w.heap.size w w') : NwI B w0 a b c s1 s2 ss vs D m5 m6 m7 m8 v10 v11 v12 v13 v14 v15 v16 v17 v18 v19 v20 v7 w' :=
  ⟨h.bl.trans (hb.mono h.sz), Nat.le_trans h.sz hb.size, keep_blkT h.b3 hb, h.h0, h.h1, fun q => (h.h2 q).below hb (Nat.le_refl _), h.h3, fun q => (h.h4 q).below hb, fun q => (h.h5 q).below hb, fun q => (h.h6 q).below hb, fun q => (h.h7 q).below hb, fun q => (h.h8 q).below hb, h.n56, h.n57, h.n58, h.n67, h.n68, h.n78, h.h9, fun q => by
    obtain ⟨x, e1, e2, e3⟩ := h.h10 q
    exact ⟨x, e1, e2, keep_blkT e3 hb⟩, h.h11, h.k9, h.k10, h.k11⟩
end
theorem OwSw.mono {B C : Nat} {w : World} {v : Value} {l : List Sw} (h : OwSw C w v l) (hB : B ≤ C) : OwSw B w v l := by
  refine ⟨h.1, ?_⟩
  rcases h.2 with q | ⟨g, cap, cur, e, h1, r⟩
  · exact .inl q
  · exact .inr ⟨g, cap, cur, e, Nat.le_trans hB h1, r⟩
theorem OwRv.mono {B C : Nat} {w : World} {v : Value} {l : List RV} (h : OwRv C w v l) (hB : B ≤ C) : OwRv B w v l := by
  refine ⟨h.1, ?_⟩
  rcases h.2 with q | ⟨g, cap, cur, e, h1, r⟩
  · exact .inl q
  · exact .inr ⟨g, cap, cur, e, Nat.le_trans hB h1, r⟩
set_option maxHeartbeats 4000000 in
def repF (a : Int) (n : Nat) : Int := max 1 (min a (n : Int))
/-- A new plan. -/
def NewP (w : World) (a b c : Int) (ss : List Sw) (vs : List RV) (e : Ending) (w' : World) : Prop :=
  ∃ (x : Nat) (d : PL) (rs : List RV), e = .returned (.pointer (some ⟨x, 0, none⟩)) ∧ rs.Perm (trF vs) ∧ rs.Pairwise (fun a b => a.id.toNat ≤ b.id.toNat) ∧ d.pr = a ∧ d.psp = b ∧ d.pmg = c ∧ d.rep = repF a (tsF ss).length ∧ d.ov = (none, 0, 0) ∧ Ful (sK rs) w x d (cntR (p00 (tsF ss) rs) rs) [] w'
set_option maxHeartbeats 8000000 in
theorem newPlan_any {v1 v2 : Value} {ss : List Sw} {vs : List RV} {w : World} (a b c : Int) (h1 : RdSw w v1 ss) (h2 : RdRv w v2 vs) (hl1 : ss.length ≤ 1099511627000) (hl2 : vs.length ≤ 1099511627000) (hsK : sK vs + 2 < 1099511627000) (hok : ∀ r ∈ vs, (∀ q ∈ r.ps, i64 q.2.1) ∧ i64 r.ld) :
    Calls Tryz.prog 18 #[.agg #[.int .i64 a, .int .i64 b, .int .i64 c], v1, v2] w fun e w' => NewP w a b c ss vs e w' := by
  have HOK : Hid _ := hok
  have HIT : Hid (∀ r ∈ vs, It9 w r) := fun r hr => by
    obtain ⟨ao, cc, e, _, _, h4⟩ := h2
    obtain ⟨i, hi, hri⟩ := List.mem_iff_getElem.1 hr
    exact (h4 i r (by rw [List.getElem?_eq_getElem hi, hri])).1
  clear hok
  have hk3 := heap_new w (.cells #[.int .i64 a, .int .i64 b, .int .i64 c] 23)
  have hb0 := ob_al w (.cells #[.int .i64 a, .int .i64 b, .int .i64 c] 23)
  go_enter Tryz.func18, Tryz.ntmps18
  go_upto_region 1 with fail
  generalize World.alloc w _ = wa at *
  refine wp_region_inv (I := fun D act W => ∃ (m5 m6 m7 m8 : Nat) (v10 v11 v12 v13 v14 v15 v16 v17 v18 v19 v20 v7 : Value), act = ⟨#[.agg #[.int .i64 a, .int .i64 b, .int .i64 c], v1, v2, .pointer (some ⟨w.heap.size, 0, none⟩), undef, undef, .pointer none, v7, undef, undef, v10, v11, v12, v13, v14, v15, v16, v17, v18, v19, v20, undef, undef, undef, undef, undef, undef, undef, undef, undef, undef, undef, undef, undef, undef, undef, undef, undef, undef, undef, undef, undef, undef, undef, undef, undef, undef, undef, undef], []⟩ ∧ NwI w.heap.size w a b c v1 v2 ss vs D m5 m6 m7 m8 v10 v11 v12 v13 v14 v15 v16 v17 v18 v19 v20 v7 W) (by kernel_rfl) (by kernel_rfl) ?_ ?_ ?_
  · refine ⟨0, 0, 0, 0, undef, undef, undef, undef, undef, undef, undef, undef, undef, undef, undef, undef, rfl, ?_⟩
    have hd := Below.dN wa 1
    exact { bl := hb0.trans (hd.mono hb0.size), sz := Nat.le_trans hb0.size hd.size, b3 := keep_blkT hk3 hd, h0 := by simp, h1 := by simp, h2 := by simp, h3 := by simp, h4 := by simp, h5 := by simp, h6 := by simp, h7 := by simp, h8 := by simp, n56 := by simp, n57 := by simp, n58 := by simp, n67 := by simp, n68 := by simp, n78 := by simp, h9 := by simp, h10 := by simp, h11 := by simp, k9 := by simp, k10 := by simp, k11 := by simp }
  · intro D i o act W hI ho hD haf K' hK
    obtain ⟨m5, m6, m7, m8, v10, v11, v12, v13, v14, v15, v16, v17, v18, v19, v20, v7, rfl, hN⟩ := hI
    match i, ho, hD, haf, hK with
    | 0, ho, hD, haf, hK =>
      obtain rfl := Option.some.inj ho
      rw [if_pos (by kernel_rfl)]
      have q0 : W.cell? ⟨w.heap.size, 0, none⟩ = some (.int .i64 a) := by rw [cell_of_row _ _ _ _ _ _ hN.b3]; rfl
      have q1 : W.cell? ⟨w.heap.size, 1, none⟩ = some (.int .i64 b) := by rw [cell_of_row _ _ _ _ _ _ hN.b3]; rfl
      have q2 : W.cell? ⟨w.heap.size, 2, none⟩ = some (.int .i64 c) := by rw [cell_of_row _ _ _ _ _ _ hN.b3]; rfl
      go_simp
      refine hK _ _ ⟨m5, m6, m7, m8, _, v11, v12, v13, v14, v15, v16, v17, v18, v19, v20, v7, rfl, ?_⟩
      exact { hN with h0 := fun _ => rfl, k9 := fun q => absurd (hN.k9 q).1 (by rw [hD]; decide), h9 := fun q => absurd (hN.k9 q).1 (by rw [hD]; decide), h10 := fun q => absurd (hN.k9 (hN.k10 q)).1 (by rw [hD]; decide) }
    | 1, ho, hD, haf, hK =>
      obtain rfl := Option.some.inj ho
      rw [if_pos (by kernel_rfl)]
      go_simp
      refine hK _ _ ⟨m5, m6, m7, m8, v10, _, v12, v13, v14, v15, v16, v17, v18, v19, v20, v7, rfl, ?_⟩
      exact { hN with h1 := fun _ => rfl }
    | 2, ho, hD, haf, hK =>
      obtain rfl := Option.some.inj ho
      rw [if_pos (by kernel_rfl)]
      have d1 := haf _ (Array.mem_of_getElem? (i := 0) rfl) (by rfl)
      obtain rfl := hN.h1 d1
      have hc := toldStores_any (h1.below hN.bl (Nat.le_refl _)) hl1
      go_simp
      refine hc.mono ?_
      rintro e W' ⟨x, rfl, ho, hb⟩
      refine hK _ _ ⟨m5, m6, m7, m8, v10, v11, _, v13, v14, v15, v16, v17, v18, v19, v20, v7, rfl, ?_⟩
      exact { hN.next hb with h2 := fun _ => ho.mono hN.sz, k9 := fun q => absurd (hN.k9 q).2.1 (by rw [hD]; decide), h9 := fun q => absurd (hN.k9 q).2.1 (by rw [hD]; decide), h10 := fun q => absurd (hN.k9 (hN.k10 q)).2.1 (by rw [hD]; decide) }
    | 3, ho, hD, haf, hK =>
      obtain rfl := Option.some.inj ho
      rw [if_pos (by kernel_rfl)]
      go_simp
      refine hK _ _ ⟨m5, m6, m7, m8, v10, v11, v12, _, v14, v15, v16, v17, v18, v19, v20, v7, rfl, ?_⟩
      exact { hN with h3 := fun _ => rfl }
    | 4, ho, hD, haf, hK =>
      obtain rfl := Option.some.inj ho
      rw [if_pos (by kernel_rfl)]
      have d1 := haf _ (Array.mem_of_getElem? (i := 0) rfl) (by rfl)
      obtain rfl := hN.h3 d1
      have hc := toldRegions_any (h2.below hN.bl (Nat.le_refl _)) hl2
      go_simp
      refine hc.mono ?_
      rintro e W' ⟨x, rs, rfl, r1, r2, ho, hb⟩
      refine hK _ _ ⟨m5, m6, m7, m8, v10, v11, v12, v13, _, v15, v16, v17, v18, v19, v20, v7, rfl, ?_⟩
      exact { hN.next hb with h4 := fun _ => ⟨rs, r1, r2, ho.mono hN.sz⟩, k9 := fun q => absurd (hN.k9 q).2.2.1 (by rw [hD]; decide), h9 := fun q => absurd (hN.k9 q).2.2.1 (by rw [hD]; decide), h10 := fun q => absurd (hN.k9 (hN.k10 q)).2.2.1 (by rw [hD]; decide) }
    | 5, ho, hD, haf, hK =>
      obtain rfl := Option.some.inj ho
      rw [if_pos (by kernel_rfl)]
      have hr := run_makeMap (P := Tryz.prog) 67 W
      go_simp
      refine hK _ _ ⟨W.heap.size, m6, m7, m8, v10, v11, v12, v13, v14, _, v16, v17, v18, v19, v20, v7, rfl, ?_⟩
      exact { hN.next (ob_al W (.map #[] 0)) with h5 := fun _ => ⟨rfl, heap_new W _, hN.sz⟩, n56 := fun _ q => by have := (hN.h6 q).lt; omega, n57 := fun _ q => by have := (hN.h7 q).lt; omega, n58 := fun _ q => by have := (hN.h8 q).lt; omega, k9 := fun q => absurd (hN.k9 q).2.2.2.1 (by rw [hD]; decide), h9 := fun q => absurd (hN.k9 q).2.2.2.1 (by rw [hD]; decide), h10 := fun q => absurd (hN.k9 (hN.k10 q)).2.2.2.1 (by rw [hD]; decide) }
    | 6, ho, hD, haf, hK =>
      obtain rfl := Option.some.inj ho
      rw [if_pos (by kernel_rfl)]
      have hr := run_makeMap (P := Tryz.prog) 68 W
      go_simp
      refine hK _ _ ⟨m5, W.heap.size, m7, m8, v10, v11, v12, v13, v14, v15, _, v17, v18, v19, v20, v7, rfl, ?_⟩
      exact { hN.next (ob_al W (.map #[] 0)) with h6 := fun _ => ⟨rfl, heap_new W _, hN.sz⟩, n56 := fun q _ => by have := (hN.h5 q).lt; omega, n67 := fun _ q => by have := (hN.h7 q).lt; omega, n68 := fun _ q => by have := (hN.h8 q).lt; omega, k9 := fun q => absurd (hN.k9 q).2.2.2.2.1 (by rw [hD]; decide), h9 := fun q => absurd (hN.k9 q).2.2.2.2.1 (by rw [hD]; decide), h10 := fun q => absurd (hN.k9 (hN.k10 q)).2.2.2.2.1 (by rw [hD]; decide) }
    | 7, ho, hD, haf, hK =>
      obtain rfl := Option.some.inj ho
      rw [if_pos (by kernel_rfl)]
      have hr := run_makeMap (P := Tryz.prog) 68 W
      go_simp
      refine hK _ _ ⟨m5, m6, W.heap.size, m8, v10, v11, v12, v13, v14, v15, v16, _, v18, v19, v20, v7, rfl, ?_⟩
      exact { hN.next (ob_al W (.map #[] 0)) with h7 := fun _ => ⟨rfl, heap_new W _, hN.sz⟩, n57 := fun q _ => by have := (hN.h5 q).lt; omega, n67 := fun q _ => by have := (hN.h6 q).lt; omega, n78 := fun _ q => by have := (hN.h8 q).lt; omega, k9 := fun q => absurd (hN.k9 q).2.2.2.2.2.1 (by rw [hD]; decide), h9 := fun q => absurd (hN.k9 q).2.2.2.2.2.1 (by rw [hD]; decide), h10 := fun q => absurd (hN.k9 (hN.k10 q)).2.2.2.2.2.1 (by rw [hD]; decide) }
    | 8, ho, hD, haf, hK =>
      obtain rfl := Option.some.inj ho
      rw [if_pos (by kernel_rfl)]
      have hr := run_makeMap (P := Tryz.prog) 69 W
      go_simp
      refine hK _ _ ⟨m5, m6, m7, W.heap.size, v10, v11, v12, v13, v14, v15, v16, v17, _, v19, v20, v7, rfl, ?_⟩
      exact { hN.next (ob_al W (.map #[] 0)) with h8 := fun _ => ⟨rfl, heap_new W _, hN.sz⟩, n58 := fun q _ => by have := (hN.h5 q).lt; omega, n68 := fun q _ => by have := (hN.h6 q).lt; omega, n78 := fun q _ => by have := (hN.h7 q).lt; omega, k9 := fun q => absurd (hN.k9 q).2.2.2.2.2.2 (by rw [hD]; decide), h9 := fun q => absurd (hN.k9 q).2.2.2.2.2.2 (by rw [hD]; decide), h10 := fun q => absurd (hN.k9 (hN.k10 q)).2.2.2.2.2.2 (by rw [hD]; decide) }
    | 9, ho, hD, haf, hK =>
      obtain rfl := Option.some.inj ho
      rw [if_pos (by kernel_rfl)]
      have d0 := haf _ (Array.mem_of_getElem? (i := 0) rfl) (by rfl)
      have d2 := haf _ (Array.mem_of_getElem? (i := 1) rfl) (by rfl)
      have d4 := haf _ (Array.mem_of_getElem? (i := 2) rfl) (by rfl)
      have d5 := haf _ (Array.mem_of_getElem? (i := 3) rfl) (by rfl)
      have d6 := haf _ (Array.mem_of_getElem? (i := 4) rfl) (by rfl)
      have d7 := haf _ (Array.mem_of_getElem? (i := 5) rfl) (by rfl)
      have d8 := haf _ (Array.mem_of_getElem? (i := 6) rfl) (by rfl)
      obtain rfl := hN.h0 d0
      obtain ⟨a12, n12, c12, rfl⟩ := row_shape (hN.h2 d2)
      obtain ⟨rs, hr1, hr2, hr3⟩ := hN.h4 d4
      obtain ⟨a14, n14, c14, rfl⟩ := row_shape hr3
      obtain rfl := (hN.h5 d5).1
      obtain rfl := (hN.h6 d6).1
      obtain rfl := (hN.h7 d7).1
      obtain rfl := (hN.h8 d8).1
      go_simp
      refine hK _ _ ⟨m5, m6, m7, m8, _, v11, _, v13, _, _, _, _, _, _, v20, v7, rfl, ?_⟩
      exact { hN with h9 := fun _ => rfl, h10 := fun q => absurd (hN.k10 q) (by rw [hD]; decide), k9 := fun _ => ⟨d0, d2, d4, d5, d6, d7, d8⟩, k10 := fun q => absurd (hN.k10 q) (by rw [hD]; decide) }
    | 10, ho, hD, haf, hK =>
      obtain rfl := Option.some.inj ho
      rw [if_pos (by kernel_rfl)]
      have d9 := haf _ (Array.mem_of_getElem? (i := 0) rfl) (by rfl)
      obtain rfl := hN.h9 d9
      simp only [plN]
      go_simp
      refine hK _ _ ⟨m5, m6, m7, m8, v10, v11, v12, v13, v14, v15, v16, v17, v18, _, _, v7, rfl, ?_⟩
      exact { hN.next (ob_al W (.cells (plN a b c v12 v14 v15 v16 v17 v18) 71)) with h9 := fun _ => rfl, h10 := fun _ => ⟨W.heap.size, rfl, hN.sz, heap_new W _⟩, k10 := fun _ => d9, h11 := fun q => absurd (hN.k11 q) (by rw [hD]; decide), k11 := fun q => absurd (hN.k11 q) (by rw [hD]; decide) }
    | 11, ho, hD, haf, hK =>
      obtain rfl := Option.some.inj ho
      rw [if_pos (by kernel_rfl)]
      have d10 := haf _ (Array.mem_of_getElem? (i := 0) rfl) (by rfl)
      go_simp
      refine hK _ _ ⟨m5, m6, m7, m8, v10, v11, v12, v13, v14, v15, v16, v17, v18, v19, v20, _, rfl, ?_⟩
      exact { hN with h11 := fun _ => rfl, k11 := fun _ => d10 }
    | n + 12, ho, hD, haf, hK => exact absurd ho (by simp)
  · intro D act W hI hall
    obtain ⟨m5, m6, m7, m8, v10, v11, v12, v13, v14, v15, v16, v17, v18, v19, v20, v7, rfl, hN⟩ := hI
    obtain rfl := hN.h11 (hall 11 (by decide))
    obtain ⟨x, rfl, hx, hbk⟩ := hN.h10 (hall 10 (by decide))
    have hs := hN.h2 (hall 2 (by decide))
    obtain ⟨rs, hrp, hrs, hro⟩ := hN.h4 (hall 4 (by decide))
    have hm5 := hN.h5 (hall 5 (by decide))
    have hm6 := hN.h6 (hall 6 (by decide))
    have hm7 := hN.h7 (hall 7 (by decide))
    have hm8 := hN.h8 (hall 8 (by decide))
    have hn56 := hN.n56 (hall 5 (by decide)) (hall 6 (by decide))
    have hn57 := hN.n57 (hall 5 (by decide)) (hall 7 (by decide))
    have hn58 := hN.n58 (hall 5 (by decide)) (hall 8 (by decide))
    have hn67 := hN.n67 (hall 6 (by decide)) (hall 7 (by decide))
    have hn68 := hN.n68 (hall 6 (by decide)) (hall 8 (by decide))
    have hn78 := hN.n78 (hall 7 (by decide)) (hall 8 (by decide))
    obtain ⟨a12, c12, rfl, _⟩ := row_reads hs
    obtain ⟨a14, c14, rfl, _⟩ := row_reads hro
    obtain rfl := hm5.1
    obtain rfl := hm6.1
    obtain rfl := hm7.1
    obtain rfl := hm8.1
    have hsub : ∀ r ∈ rs, r ∈ vs := fun r hr => (trF_sub vs).mem (hrp.mem_iff.1 hr)
    have HSK : Hid (sK rs + 2 < 1099511627000) := by
      have e1 := sK_perm hrp
      have e2 := sK_sub (trF_sub vs)
      show _ < _
      omega
    have HRO : Hid (∀ r ∈ rs, (∀ q ∈ r.ps, i64 q.2.1) ∧ i64 r.ld) := fun r hr => HOK.out r (hsub r hr)
    have HRI : Hid (∀ r ∈ rs, It9 w r) := fun r hr => HIT.out r (hsub r hr)
    have HRP : Hid (rs.Perm (trF vs) ∧ rs.Pairwise (fun a b => a.id.toNat ≤ b.id.toNat)) := ⟨hrp, hrs⟩
    generalize hts : tsF ss = ts at *
    have HTS : Hid (tsF ss = ts) := hts
    have hrl : rs.length ≤ 1099511627000 := by
      have e1 := hrp.length_eq
      have e2 := trF_len vs
      omega
    have hb := hN.bl
    have hsz := hN.sz
    have hb3 := hN.b3
    clear hN hall HOK HIT hsub hrp hrs hts D h1 h2 hsK hl1 hl2
    simp only [plN] at hbk
    have q0 : W.cell? ⟨w.heap.size, 0, none⟩ = some (.int .i64 a) := by rw [cell_of_row _ _ _ _ _ _ hb3]; rfl
    have x4 : W.cell? ⟨x, 4, none⟩ = some (.slice a12 ts.length c12) := by rw [cell_of_row _ _ _ _ _ _ hbk]; rfl
    have x3 : W.cell? ⟨x, 3, none⟩ = some (.int .i64 0) := by rw [cell_of_row _ _ _ _ _ _ hbk]; rfl
    have f3 : W.frozen? ⟨x, 3, none⟩ = false := frozen_of_row _ _ _ _ _ hbk
    have HFUL : Hid (Ful 0 w x ⟨a, b, c, repF a ts.length, (a12, ts.length, c12), (a14, rs.length, c14), m5, m6, m7, m8, (none, 0, 0), none⟩ (p00 ts rs) [] (W.drew.setCell ⟨x, 3, none⟩ (.int .i64 (repF a ts.length)))) := by
      have hd := Below.dN W 1
      rw [show W.drewN 1 = W.drew from rfl] at hd
      have hbk2 := keep_blkT hbk hd
      have hc := chg_p x 3 (.int .i64 (repF a ts.length)) W.drew
      have hbd := hb.trans (hd.mono hsz)
      have hmt : ∀ {m : Nat} {v : Value}, Mt w.heap.size m v W → (W.drew.setCell ⟨x, 3, none⟩ (.int .i64 (repF a ts.length))).heap[m]? = some (.map #[] 0) := fun hm => by
        have h1 := keep_blkT hm.2.1 hd
        rw [hc.block _ (Array.getElem?_eq_some_iff.1 h1).1 (fun q => by rw [q, hbk2] at h1; cases h1)]
        exact h1
      refine ⟨hbd.trans (hc.below (fun q e => by rw [e]; exact hx) hbd.size), ?_, ?_, ?_, HRI.out, ⟨rfl, .inl ⟨rfl, rfl⟩⟩, ⟨0, Nat.le_refl _, St.made _ (hmt hm5)⟩, ⟨0, Nat.le_refl _, Im.made _ (hmt hm6)⟩, ⟨0, Nat.le_refl _, Im.made _ (hmt hm7)⟩, ⟨0, Nat.le_refl _, Gs.made _ (hmt hm8)⟩, (fun g q => by cases q), ⟨hx, hm5.2.2, hm6.2.2, hm7.2.2, hm8.2.2⟩, ⟨hn56, hn57, hn58, hn67, hn68, hn78⟩⟩
      · rw [heap_setCell_same _ _ 3 _ _ _ hbk2]; rfl
      · exact ownsRow_keptC (hs.below hd (Nat.le_refl _)) hc (row_nex (hs.below hd (Nat.le_refl _)) hbk2 (by decide))
      · exact ownsRow_keptC (hro.below hd (Nat.le_refl _)) hc (row_nex (hro.below hd (Nat.le_refl _)) hbk2 (by decide))
    have HREP : Hid (repF a ts.length = max 1 (min a (ts.length : Int))) := rfl
    generalize hrep : repF a ts.length = rep at *
    have HREP2 : Hid (repF a ts.length = rep) := hrep
    generalize hlt : ts.length = n12 at *
    clear hs hro hm5 hm6 hm7 hm8 hn56 hn57 hn58 hn67 hn68 hn78 hbk hb3 hb hrep
    go_simp
    go_wp2_with fail
    refine wp_region_head 12 (by kernel_rfl) (by kernel_rfl) ?_
    simp only [List.take_succ_cons, List.take_zero]
    iterate 12 still_step
    refine wpStill_nil ?_
    change wpAny _ _ _ _ 1 _ _ _
    refine wpAny_ready (rs := [12]) (by kernel_rfl) (by simp) ?_
    refine AllReady.cons rfl (fun K8 hK8 => ?_) AllReady.nil
    go_simp
    refine hK8 _ _ ?_
    clear hK8 K8 q0 x4 x3 f3
    refine wpAny_done (by kernel_rfl) ?_ _
    go_simp
    rw [← HREP.out]
    have HF0 : Hid (Ful 0 w x ⟨a, b, c, rep, (a12, n12, c12), (a14, rs.length, c14), m5, m6, m7, m8, (none, 0, 0), none⟩ (p00 ts rs) [] (W.setCell ⟨x, 3, none⟩ (.int .i64 rep)).drew) := HFUL
    clear HFUL hk3 hb0
    generalize (W.setCell ⟨x, 3, none⟩ (.int .i64 rep)).drew = W1 at *
    have HTL : Hid (ts.length = n12) := hlt
    clear hlt
    generalize hrn : rs.length = n at *
    have HRN : Hid (rs.length = n) := hrn
    clear hrn
    have y5 : W1.cell? ⟨x, 5, none⟩ = some (.slice a14 n c14) := by have := HF0.out.pln.at_ (i := 5) rfl; exact this
    go_wp2_with fail
    go_loopw [8, 9, 38] (fun _ _ i wr => ∃ k : Nat, k ≤ n ∧ i = .int .i64 k ∧ Hid (Ful (sK (rs.take k)) w x ⟨a, b, c, rep, (a12, n12, c12), (a14, n, c14), m5, m6, m7, m8, (none, 0, 0), none⟩ (cntR (p00 ts rs) (rs.take k)) [] wr)) (fun _ _ i _ => n - (intOf i).toNat)
    case atStart => exact ⟨0, Nat.zero_le _, rfl, HF0.out⟩
    case round =>
      obtain ⟨k, hk, rfl, HFk⟩ := hrel
      clear y5 HF0
      by_cases hlt : k < n
      · have hlt' : k < rs.length := by rw [HRN.out]; exact hlt
        have HT : Hid (rs.take (k + 1) = rs.take k ++ [rs[k]]) := by show _ = _; rw [List.take_append_getElem hlt']
        have hpr : RdRv wr (.slice a14 n c14) rs := by
          have := HFk.out.pln.rs
          rw [cntR_rs] at this
          exact this
        obtain ⟨ao', c', e, _, _, h4⟩ := hpr
        simp only [Value.slice.injEq] at e
        obtain ⟨rfl, -, rfl⟩ := e
        obtain ⟨hit, ad, rfl, hat⟩ := h4 k _ (List.getElem?_eq_getElem hlt')
        clear h4 hit
        have hki : (k : Int) < (n : Int) := by omega
        have hir := HRI.out _ (List.getElem_mem hlt')
        have hor := HRO.out _ (List.getElem_mem hlt')
        have hsk : sK (rs.take k) + rs[k].ps.length + 2 ≤ sK rs := by
          have e1 := sK_take rs (k + 1)
          rw [HT.out, sK_snoc] at e1
          exact e1
        have hsK := HSK.out
        generalize rs[k] = r at *
        obtain ⟨c0, c1, c2, c3, c4, c5, c6, c7, c8⟩ := hat.nine
        clear hat
        have hbx := ob_al wr (.cells (r9 r) 42)
        have hkx := heap_new wr (.cells (r9 r) 42)
        have HFX : Hid _ := HFk.out.below hbx
        have hld : ∀ l : List RV, sK l ≤ sK rs → sm62 (cntR (p00 ts rs) l).ld := fun l hl s => by
          have := cntR_ld ts rs l s
          omega
        have hle : ∀ l : List RV, sK l ≤ sK rs → sm62 (cntR (p00 ts rs) l).le := fun l hl s => by
          have := cntR_le ts rs l s
          omega
        have hca := count_any (k : Int) HFX.out hir hor.1 (by omega) (by omega) (hld _ (by omega)) (hle _ (by omega)) hor.2
        have HNX : Hid (cntP (cntR (p00 ts rs) (rs.take k)) (k : Int) r = cntR (p00 ts rs) (rs.take (k + 1)) ∧ sK (rs.take k) + r.ps.length + 2 = sK (rs.take (k + 1))) := by
          refine ⟨?_, ?_⟩
          · rw [HT.out, cntR_snoc, List.length_take, Nat.min_eq_left (by omega)]
          · rw [HT.out, sK_snoc]
        clear hld hle hir hor hsk hsK HFk
        simp only [r9] at hkx hca hbx HFX
        go_upto_region 6 with fail
        generalize World.alloc wr _ = wx at *
        obtain ⟨n0, n1, n2, n3, n4, n5, n6, n7, n8⟩ := nine_at (r := r) hkx
        clear c0 c1 c2 c3 c4 c5 c6 c7 c8
        go_wp2_with fail
        refine hca.mono ?_
        rintro e w3 ⟨⟨u, rfl⟩, hF3⟩
        rw [HNX.out.1, HNX.out.2] at hF3
        have HF3 : Hid _ := hF3
        clear hca hF3 n0 n1 n2 n3 n4 n5 n6 n7 n8 hkx hbx HFX
        go_wp2_with fail
        exact ⟨⟨k + 1, by omega, by go_num, HF3.out⟩, by simp [intOf]; omega⟩
      · have HE : Hid (Ful (sK rs) w x ⟨a, b, c, rep, (a12, n12, c12), (a14, n, c14), m5, m6, m7, m8, (none, 0, 0), none⟩ (cntR (p00 ts rs) rs) [] wr) := by
          have := HFk.out
          rw [List.take_of_length_le (by rw [HRN.out]; omega)] at this
          exact this
        clear HFk
        go_wp2_with fail
        go_ret
        exact ⟨x, ⟨a, b, c, rep, (a12, n12, c12), (a14, n, c14), m5, m6, m7, m8, (none, 0, 0), none⟩, rs, rfl, HRP.out.1, HRP.out.2, rfl, rfl, rfl, by rw [HTS.out, HTL.out]; exact HREP2.out.symm, rfl, by rw [HTS.out]; exact HE.out⟩
end Go.Proofs.YtedfjacmaidhkaaGreat
