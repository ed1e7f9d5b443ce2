/- register. -/
import Derived.Test.YtefhinopppdjbaaGreatG25
namespace Go.Proofs.YtefhinopppdjbaaGreat
open Go.RowKit
set_option linter.unusedVariables false
set_option linter.unusedSimpArgs false
set_option maxRecDepth 100000

section
variable {B p : Nat} {d : DC} {w w' : World} {H : List EN}
theorem Bxd.below {c : PC} {x r : Nat} {w w' : World} (h : Bxd c x r w) (hb : Below w.heap.size w w') : Bxd c x r w' :=
  h.next (Chg.of_below hb) (fun q => by have := (Array.getElem?_eq_some_iff.1 h.box).1; omega) (fun q => by have := (Array.getElem?_eq_some_iff.1 h.res).1; omega)
set_option maxHeartbeats 2000000 in
theorem register_arg (c : PC) (hbad : c.ts = 0 ∨ c.ttl < 1 ∨ 1048576 < c.ttl) (w : World) :
    Calls Tryz.prog 22 #[.pointer (some ⟨p, 0, none⟩), .agg (pcA c)] w fun e w' => e = .returned (prA 1 0 0) ∧ Below w.heap.size w w' := by
  have hbx := Bxd.new c w
  have hB0 := (two_new w (.cells (pcA c) 38) (.cells #[.int .i64 0, .int .u64 0, .int .i64 0] 29)).2.2
  go_enter Tryz.func22, Tryz.ntmps22
  go_upto_region 1 with fail
  generalize World.alloc (World.alloc w _) _ = W at *
  have c2 : W.cell? ⟨w.heap.size, 2, none⟩ = some (.int .u64 (c.ts : Int)) := hbx.at_ rfl
  have c3 : W.cell? ⟨w.heap.size, 3, none⟩ = some (.int .u64 (c.ttl : Int)) := hbx.at_ rfl
  have hrf := prefused_any 1 W
  have HR : Hid (∀ w1, Below W.heap.size W w1 → Bxd c w.heap.size (w.heap.size + 1) w1) := fun w1 hb1 => hbx.below hb1
  generalize hts : c.ts = ts at *
  generalize httl : c.ttl = ttl at *
  have HEND : Hid (∀ w1 wz, Below W.heap.size W w1 → Chg (fun b => b = w.heap.size + 1) w1 wz → Below w.heap.size w wz) := fun w1 wz q1 q2 => (hB0.trans (q1.mono hB0.size)).trans (Chg.below q2 (fun b q => by have q' : b = w.heap.size + 1 := q; omega) (by have := hB0.size; have := q1.size; omega))
  clear hts httl hbx hB0
  rcases (show ts = 0 ∨ (ts ≠ 0 ∧ ttl < 1) ∨ (ts ≠ 0 ∧ ¬ ttl < 1 ∧ 1048576 < ttl) by omega) with h1 | ⟨h1, h2⟩ | ⟨h1, h2, h3⟩
  · subst h1
    clear hbad
    go_wp2_with fail
    refine hrf.mono ?_
    rintro e w1 ⟨rfl, hb1⟩
    obtain ⟨r0, r1, r2, f5, f6, f7⟩ := (HR.out w1 hb1).rs
    simp only [prA]
    go_wp2_with fail
    obtain ⟨⟨k0, k1, k2⟩, hc⟩ := pr_fin (HR.out w1 hb1).res (.int .i64 1) (.int .u64 0) (.int .i64 0)
    have hz := HEND.out w1 _ hb1 hc
    clear hc
    generalize World.setCell _ ⟨_, 2, none⟩ _ = wz at *
    refine bodyPost_ret (v := prA 1 0 0) (by simp [results, Tryz.results22, go_sem, k0, k1, k2]; try rfl) rfl ?_
    exact ⟨rfl, hz⟩
  · have g1 : ((ts : Int) == 0) = false := by rw [beq_eq_false_iff_ne]; omega
    have g2 : (ttl : Int) < 1 := by omega
    clear hbad h1 h2
    go_wp2_with fail
    refine hrf.mono ?_
    rintro e w1 ⟨rfl, hb1⟩
    obtain ⟨r0, r1, r2, f5, f6, f7⟩ := (HR.out w1 hb1).rs
    simp only [prA]
    go_wp2_with fail
    obtain ⟨⟨k0, k1, k2⟩, hc⟩ := pr_fin (HR.out w1 hb1).res (.int .i64 1) (.int .u64 0) (.int .i64 0)
    have hz := HEND.out w1 _ hb1 hc
    clear hc
    generalize World.setCell _ ⟨_, 2, none⟩ _ = wz at *
    refine bodyPost_ret (v := prA 1 0 0) (by simp [results, Tryz.results22, go_sem, k0, k1, k2]; try rfl) rfl ?_
    exact ⟨rfl, hz⟩
  · have g1 : ((ts : Int) == 0) = false := by rw [beq_eq_false_iff_ne]; omega
    have g2 : ¬ (ttl : Int) < 1 := by omega
    have g3 : (ttl : Int) > 1048576 := by omega
    clear hbad h1 h2 h3
    go_wp2_with fail
    refine hrf.mono ?_
    rintro e w1 ⟨rfl, hb1⟩
    obtain ⟨r0, r1, r2, f5, f6, f7⟩ := (HR.out w1 hb1).rs
    simp only [prA]
    go_wp2_with fail
    obtain ⟨⟨k0, k1, k2⟩, hc⟩ := pr_fin (HR.out w1 hb1).res (.int .i64 1) (.int .u64 0) (.int .i64 0)
    have hz := HEND.out w1 _ hb1 hc
    clear hc
    generalize World.setCell _ ⟨_, 2, none⟩ _ = wz at *
    refine bodyPost_ret (v := prA 1 0 0) (by simp [results, Tryz.results22, go_sem, k0, k1, k2]; try rfl) rfl ?_
    exact ⟨rfl, hz⟩

/-- What a registration leaves. -/
def regE (T U : UInt64) (H : List EN) : List EN := if T ∈ H.map (·.1) then H.map (fun e => if e.1 = T then (e.1, mxU e.2 U) else e) else H ++ [(T, U)]
theorem reg_new {T U : UInt64} {H : List EN} (h : ∀ x ∈ H, x.1 ≠ T) : regE T U H = H ++ [(T, U)] := by
  unfold regE
  rw [if_neg]
  intro q
  obtain ⟨x, hx, e⟩ := List.mem_map.1 q
  exact h x hx e
theorem reg_known {T U : UInt64} {H : List EN} (hn : Ndp H) {i : Nat} {x : EN} (hi : H[i]? = some x) (hx : x.1 = T) : H.set i (x.1, mxU x.2 U) = regE T U H := by
  unfold regE
  rw [if_pos (by rw [← hx]; exact List.mem_map_of_mem (List.mem_of_getElem? hi))]
  induction H generalizing i with
  | nil => simp at hi
  | cons a t ih =>
    unfold Ndp at hn
    simp only [List.map_cons, List.nodup_cons] at hn
    cases i with
    | zero =>
      simp at hi
      subst hi
      simp only [List.set_cons_zero, List.map_cons]
      rw [if_pos hx]
      congr 1
      refine Eq.symm ((List.map_congr_left (g := id) (fun y hy => ?_)).trans (List.map_id t))
      rw [if_neg]
      · rfl
      · intro q
        exact hn.1 (by rw [hx, ← q]; exact List.mem_map_of_mem hy)
    | succ i =>
      simp only [List.getElem?_cons_succ] at hi
      simp only [List.set_cons_succ, List.map_cons]
      rw [ih hn.2 hi, if_neg]
      intro q
      refine hn.1 ?_
      rw [q, ← hx]
      exact List.mem_map_of_mem (List.mem_of_getElem? hi)
end
end Go.Proofs.YtefhinopppdjbaaGreat
