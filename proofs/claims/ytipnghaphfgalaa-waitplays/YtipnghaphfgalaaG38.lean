/- slices.DeleteFunc with Done's question; Done. -/
import Derived.Test.YtipnghaphfgalaaG37
import Derived.Deep.CutRange
namespace Go.Proofs.Ytipnghaphfgalaa
open Go.RowKit
set_option linter.unusedVariables false
set_option maxRecDepth 100000

/-- Does the edge touch a? -/
def dlt (a : UInt64) (e : Ed) : Bool := e.1 == a || e.2 == a
theorem u_eq {p a : UInt64} : ((p.toNat : Int) == (a.toNat : Int)) = (p == a) := by
  rw [Bool.eq_iff_iff, beq_iff_eq, beq_iff_eq]
  exact ⟨fun q => UInt64.toNat_inj.1 (by omega), fun q => by rw [q]⟩
theorem done1_any (e : Ed) (a : UInt64) (cb : Nat) (w : World) (hc : w.cell? ⟨cb, 0, none⟩ = some (.int .u64 (a.toNat : Int))) :
    Calls Try.prog 24 #[.agg #[.int .u64 (e.1.toNat : Int), .int .u64 (e.2.toNat : Int)], .pointer (some ⟨cb, 0, none⟩)] w fun r w' => r = .returned (.bool (dlt a e)) ∧ Below w.heap.size w w' := by
  obtain ⟨e1, e2⟩ := e
  have hd : dlt a (e1, e2) = (e1 == a || e2 == a) := rfl
  have hl := World.block_lt_of_cell? w _ hc
  have hb := w_al w (.cells #[.int .u64 (e1.toNat : Int), .int .u64 (e2.toNat : Int)] 31)
  have hk := heap_alloc_new w (.cells #[.int .u64 (e1.toNat : Int), .int .u64 (e2.toNat : Int)] 31)
  obtain ⟨k0, k1, _⟩ := box2 hk
  have kc : (w.alloc (.cells #[.int .u64 (e1.toNat : Int), .int .u64 (e2.toNat : Int)] 31)).cell? ⟨cb, 0, none⟩ = some (.int .u64 (a.toNat : Int)) := by rw [hb.cell hl]; exact hc
  simp only []
  rw [hd]
  clear hd hk hc
  go_enter Try.func24, Try.ntmps24
  go_upto_region 1 with fail
  generalize (w.alloc (.cells #[.int .u64 (e1.toNat : Int), .int .u64 (e2.toNat : Int)] 31)) = W at *
  by_cases q1 : e1 = a
  · subst q1
    go_wp2_with fail
    go_ret
    exact ⟨by simp, hb⟩
  · have g1 : ((e1.toNat : Int) == (a.toNat : Int)) = false := by rw [u_eq]; simpa using q1
    have g2 : ¬ e1.toNat = a.toNat := fun q => q1 (UInt64.toNat_inj.1 q)
    have HE : Hid ((e1 == a || e2 == a) = ((e2.toNat : Int) == (a.toNat : Int))) := by
      show _ = _
      rw [u_eq, show (e1 == a) = false by simpa using q1, Bool.false_or]
    by_cases q2 : e2 = a
    · subst q2
      go_wp2_with fail
      go_ret
      exact ⟨by simp, hb⟩
    · have g3 : ((e2.toNat : Int) == (a.toNat : Int)) = false := by rw [u_eq]; simpa using q2
      have g4 : ¬ e2.toNat = a.toNat := fun q => q2 (UInt64.toNat_inj.1 q)
      have HE2 : Hid ((e1 == a || e2 == a) = false) := by show _ = _; rw [HE.out, g3]
      go_wp2_with fail
      go_ret
      exact ⟨by rw [HE2.out]; rfl, hb⟩

/-- The first edge that touches a. -/
def fst1 (a : UInt64) : List Ed → Nat
  | [] => 0
  | e :: r => if dlt a e then 0 else fst1 a r + 1
theorem fst1_eq {a : UInt64} {E : List Ed} {k : Nat} (h1 : ∀ j p, j < k → E[j]? = some p → dlt a p = false) (h2 : ∀ p, E[k]? = some p → dlt a p = true) (hk : k ≤ E.length) : fst1 a E = k := by
  induction E generalizing k with
  | nil => simp at hk; subst hk; rfl
  | cons e r ih =>
    cases k with
    | zero => unfold fst1; rw [if_pos (h2 e rfl)]
    | succ k =>
      unfold fst1
      rw [if_neg (by rw [h1 0 e (by omega) rfl]; simp), ih (fun j p hj e => h1 (j + 1) p (by omega) e) (fun p e => h2 p e) (by simpa using hk)]
def idx1 (a : UInt64) (E : List Ed) : Int := if fst1 a E < E.length then (fst1 a E : Int) else -1
set_option maxHeartbeats 1000000 in
theorem indexF_any {v : Value} {E : List Ed} {w : World} (h : RdE w v E) (hl : E.length ≤ 4096) (a : UInt64) (cb : Nat) (hc : w.cell? ⟨cb, 0, none⟩ = some (.int .u64 (a.toNat : Int))) :
    Calls Try.prog 40 #[v, .func (.func 24) #[] #[.pointer (some ⟨cb, 0, none⟩)]] w fun r w' => r = .returned (.int .i64 (idx1 a E)) ∧ Below w.heap.size w w' := by
  have hcl := World.block_lt_of_cell? w _ hc
  obtain ⟨ao, c, rfl, h1, h2, h3, h4⟩ := h
  have HIX : Hid (∀ k, fst1 a E = k → idx1 a E = if k < E.length then (k : Int) else -1) := fun k q => by rw [← q]; rfl
  generalize idx1 a E = R at *
  go_enter Try.func40, Try.ntmps40
  go_wp2_with fail
  go_loopw [5, 8] (fun _ i wr => ∃ k : Nat, k ≤ E.length ∧ i = .int .i64 k ∧ Hid (∀ j p, j < k → E[j]? = some p → dlt a p = false) ∧ Below w.heap.size w wr) (fun _ i _ => E.length - (intOf i).toNat)
  case atStart => exact ⟨0, Nat.zero_le _, rfl, (fun j p q => by omega), Below.refl _ _⟩
  case round =>
    obtain ⟨k, hk, rfl, HK, hb⟩ := hrel
    by_cases hlt : k < E.length
    · obtain ⟨⟨p1, p2⟩, hp⟩ : ∃ p, E[k]? = some p := ⟨_, List.getElem?_eq_getElem hlt⟩
      obtain ⟨g, rfl, hg⟩ := h4 k _ hp
      obtain ⟨d0, d1⟩ := hg.below hb (Nat.le_refl _)
      simp only [] at d0 d1
      have hcr : wr.cell? ⟨cb, 0, none⟩ = some (.int .u64 (a.toNat : Int)) := by rw [hb.cell hcl]; exact hc
      have hf := done1_any (p1, p2) a cb wr hcr
      have hki : (k : Int) < (E.length : Int) := by omega
      simp only [] at hf
      clear h4
      by_cases hd : dlt a (p1, p2) = true
      · have HR : Hid (R = (k : Int)) := by
          show _ = _
          rw [HIX.out k (fst1_eq HK.out (fun p q => by rw [hp] at q; obtain rfl := Option.some.inj q; exact hd) hk), if_pos hlt]
        rw [hd] at hf
        clear hp hd
        go_wp2_with fail
        refine hf.mono ?_
        rintro r w1 ⟨rfl, hb1⟩
        go_wp2_with fail
        go_ret
        exact ⟨by rw [HR.out]; rfl, Below.tr hb hb1⟩
      · have hdf : dlt a (p1, p2) = false := by simpa using hd
        rw [hdf] at hf
        have HK2 : Hid (∀ j p, j < k + 1 → E[j]? = some p → dlt a p = false) := fun j p q1 q2 => by
          rcases Nat.lt_or_ge j k with q | q
          · exact HK.out j p q q2
          · obtain rfl : j = k := by omega
            rw [hp] at q2
            obtain rfl := Option.some.inj q2
            exact hdf
        clear hp hd hdf
        go_wp2_with fail
        refine hf.mono ?_
        rintro r w1 ⟨rfl, hb1⟩
        go_wp2_with fail
        exact ⟨⟨k + 1, by omega, by go_num, HK2, Below.tr hb hb1⟩, by simp [intOf]; omega⟩
    · obtain rfl : k = E.length := by omega
      have HR : Hid (R = -1) := by
        show _ = _
        rw [HIX.out E.length (fst1_eq HK.out (fun p q => by rw [List.getElem?_eq_none (Nat.le_refl _)] at q; cases q) hk), if_neg (by omega)]
      clear h4
      go_wp2_with fail
      go_ret
      exact ⟨by rw [HR.out]; rfl, hb⟩
end Go.Proofs.Ytipnghaphfgalaa
