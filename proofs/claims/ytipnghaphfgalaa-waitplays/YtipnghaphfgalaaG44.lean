/- The document's has. -/
import Derived.Test.YtipnghaphfgalaaG43
import Derived.BigQuiet
namespace Go.Proofs.Ytipnghaphfgalaa
open Go.RowKit
set_option linter.unusedVariables false
set_option maxRecDepth 100000

theorem eqIn_u64 (W : World) (d : Nat) (a b : Int) : (Op.equalIn (d + 1) 23 (.int .u64 a) (.int .u64 b)).run Try.prog W = .ok (a == b) W := by
  simp [Op.equalIn, run_underlying Try.underlying23]
theorem eql_arr2 (W : World) (a b c d : Int) : (binOp .eql 31 (.agg #[.int .u64 a, .int .u64 b]) (.agg #[.int .u64 c, .int .u64 d])).run Try.prog W = .ok (.bool (a == c && b == d)) W := by
  rw [run_eql_struct]
  have : (Op.equalIn 10000 31 (.agg #[.int .u64 a, .int .u64 b]) (.agg #[.int .u64 c, .int .u64 d])).run Try.prog W = .ok (a == c && b == d) W := by
    show (Op.equalIn (9998 + 1 + 1) _ _ _).run _ _ = _
    rw [Op.equalIn]
    simp only [Sem.run_bind, run_underlying Try.underlying31, Result.andThen_ok]
    go_simp
    simp [List.range', eqIn_u64]
    by_cases h1 : a = c
    · subst h1
      by_cases h2 : b = d
      · subst h2; simp
      · simp [h2]
    · simp [h1]
  rw [this]
  rfl
set_option maxHeartbeats 2000000 in
theorem rhas_any {B y : Nat} {v : Value} {E : List Ed} {w : World} (h : RGr B y v E w) (hl : E.length ≤ 4096) (a b : UInt64) :
    Calls Try.prog 41 #[.pointer (some ⟨y, 0, none⟩), .agg #[.int .u64 (a.toNat : Int), .int .u64 (b.toNat : Int)]] w fun r w' => r = .returned (.bool (decide ((a, b) ∈ E))) ∧ Below w.heap.size w w' := by
  have hb0 := w_al w (.cells #[.int .u64 (a.toNat : Int), .int .u64 (b.toNat : Int)] 31)
  have hn0 := heap_alloc_new w (.cells #[.int .u64 (a.toNat : Int), .int .u64 (b.toNat : Int)] 31)
  have h0 := h.below hb0 (Nat.le_refl _)
  obtain ⟨ao, c, ev, h1, h2⟩ := h0.row.rd.shape
  subst ev
  generalize hR : decide ((a, b) ∈ E) = R
  have HR : Hid (decide ((a, b) ∈ E) = R) := hR
  clear hR
  have heq := fun W p1 p2 => eql_arr2 W p1 p2 (a.toNat : Int) (b.toNat : Int)
  go_enter Try.func41, Try.ntmps41
  go_upto_region 1 with fail
  generalize hW : w.alloc (.cells #[.int .u64 (a.toNat : Int), .int .u64 (b.toNat : Int)] 31) = W at *
  have HKC : Hid (∀ W' : World, Below W.heap.size W W' → W'.cell? ⟨y, 0, none⟩ = some (.slice ao E.length c) ∧ W'.cell? ⟨w.heap.size, 0, none⟩ = some (.int .u64 (a.toNat : Int)) ∧ W'.cell? ⟨w.heap.size, 1, none⟩ = some (.int .u64 (b.toNat : Int))) := fun W' hb => by
    obtain ⟨c0, _⟩ := h0.vx
    obtain ⟨x0, x1, _⟩ := box2 hn0
    have hlt : w.heap.size < W.heap.size := by rw [← hW]; simp
    exact ⟨by rw [hb.cell h0.xlt]; exact c0, by rw [hb.cell hlt]; exact x0, by rw [hb.cell hlt]; exact x1⟩
  have HRE : Hid (RdE W (.slice ao E.length c) E) := h0.row.rd
  have HB0 : Hid (Below w.heap.size w W) := hb0
  clear h0 h hW hb0 hn0
  go_wp2_with fail
  go_loopw [5] (fun i wr => ∃ k : Nat, k ≤ E.length ∧ i = .int .i64 k ∧ Hid (∀ j p, j < k → E[j]? = some p → p ≠ (a, b)) ∧ Below W.heap.size W wr) (fun i _ => E.length - (intOf i).toNat)
  case atStart => exact ⟨0, Nat.zero_le _, rfl, (fun j p q => by omega), Below.refl _ _⟩
  case round =>
    obtain ⟨k, hk, rfl, HK, hb⟩ := hrel
    obtain ⟨d0, d1, d2⟩ := HKC.out wr hb
    have HBB : Hid (Below w.heap.size w wr) := HB0.out.trans (hb.mono HB0.out.size)
    by_cases hlt : k < E.length
    · obtain ⟨⟨p1, p2⟩, hp⟩ : ∃ p, E[k]? = some p := ⟨_, List.getElem?_eq_getElem hlt⟩
      obtain ⟨ad, rfl, e0, e1⟩ := (HRE.out.below hb (Nat.le_refl _)).at_ hp
      simp only [] at e0 e1
      have hki : (k : Int) < (E.length : Int) := by omega
      by_cases q : p1 = a ∧ p2 = b
      · obtain ⟨rfl, rfl⟩ := q
        have HF : Hid (R = true) := by show _ = _; rw [← HR.out, decide_eq_true (List.mem_of_getElem? hp)]
        have heq' := fun W => heq W (p1.toNat : Int) (p2.toNat : Int)
        rw [show (((p1.toNat : Int) == (p1.toNat : Int)) && ((p2.toNat : Int) == (p2.toNat : Int))) = true by simp] at heq'
        clear hp heq
        go_wp2_with fail
        go_quiet (fail)
        go_wp2_with fail
        go_ret
        exact ⟨by rw [HF.out]; rfl, HBB.out.trans ((Below.dN wr _).mono HBB.out.size)⟩
      · have HK2 : Hid (∀ j p, j < k + 1 → E[j]? = some p → p ≠ (a, b)) := fun j p q1 q2 => by
          rcases Nat.lt_or_ge j k with z | z
          · exact HK.out j p z q2
          · obtain rfl : j = k := by omega
            rw [hp] at q2
            obtain rfl := Option.some.inj q2
            exact fun e => q (Prod.mk.inj e)
        have heq' := fun W => heq W (p1.toNat : Int) (p2.toNat : Int)
        rw [show (((p1.toNat : Int) == (a.toNat : Int)) && ((p2.toNat : Int) == (b.toNat : Int))) = false by
          rw [Bool.and_eq_false_iff, u_eq, u_eq]
          by_cases q1 : p1 = a
          · right; simpa using fun e => q ⟨q1, e⟩
          · left; simpa using q1] at heq'
        clear hp q heq
        go_wp2_with fail
        go_quiet (fail)
        go_wp2_with fail
        exact ⟨⟨k + 1, by omega, by go_num, HK2, hb.trans ((Below.dN wr _).mono hb.size)⟩, by simp [intOf]; omega⟩
    · obtain rfl : k = E.length := by omega
      have HF : Hid (R = false) := by
        show _ = _
        rw [← HR.out, decide_eq_false]
        intro hm
        obtain ⟨j, hj⟩ := List.mem_iff_getElem?.1 hm
        exact HK.out j _ (List.getElem?_eq_some_iff.1 hj).1 hj rfl
      go_wp2_with fail
      go_ret
      exact ⟨by rw [HF.out]; rfl, HBB.out⟩
end Go.Proofs.Ytipnghaphfgalaa
