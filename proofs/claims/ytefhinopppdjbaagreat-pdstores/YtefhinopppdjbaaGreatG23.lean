/- The place of one that is registered. -/
import Derived.Test.YtefhinopppdjbaaGreatG22
import Derived.Laws.EntriesVeiled
namespace Go.Proofs.YtefhinopppdjbaaGreat
open Go.RowKit
set_option linter.unusedVariables false
set_option maxRecDepth 100000

theorem pd_mf : ∀ (fn : Fn) (first cap : Array Value) (w : World), (Instr.makeFunc fn first cap).run Tryz.prog w = .ok (.func fn first cap) w := fun _ _ _ _ => rfl
/-- What find answers. -/
def Fd (H : List EN) (T : UInt64) (iv : Int) : Prop := (∃ (i : Nat) (x : EN), iv = (i : Int) ∧ H[i]? = some x ∧ x.1 = T) ∨ (iv = -1 ∧ ∀ x ∈ H, x.1 ≠ T)
theorem findc_any (x y : UInt64) (T : UInt64) {b : Nat} {w : World} (hb : w.cell? ⟨b, 0, none⟩ = some (.int .u64 (T.toNat : Int))) :
    Calls Tryz.prog 75 #[.agg #[.int .u64 (x.toNat : Int), .int .u64 (y.toNat : Int)], .pointer (some ⟨b, 0, none⟩)] w fun e w' => e = .returned (.bool (decide (x = T))) ∧ Below w.heap.size w w' := by
  have hlt := World.block_lt_of_cell? w _ hb
  have hbn : b ≠ w.heap.size := by intro q; subst q; simp at hlt
  have he : ((x.toNat : Int) == (T.toNat : Int)) = decide (x = T) := by
    rw [Bool.eq_iff_iff, beq_iff_eq, decide_eq_true_iff]
    constructor
    · intro q; exact UInt64.toNat_inj.1 (by omega)
    · rintro rfl; rfl
  have HE : Hid _ := he
  clear he
  go_enter Tryz.func75, Tryz.ntmps75
  go_wp2_with fail
  go_ret
  refine ⟨?_, (Below.refl _ _).alloc (Nat.le_refl _) _⟩
  rw [← HE.out]; rfl

section
variable {B p : Nat} {d : DC} {w w' : World} {H : List EN}
set_option maxHeartbeats 1000000 in
theorem indexEn_any (h : Rg B p d w H) (hl : H.length ≤ 1099511627776) (T : UInt64) {b : Nat} (hb : w.cell? ⟨b, 0, none⟩ = some (.int .u64 (T.toNat : Int))) :
    Calls Tryz.prog 74 #[sv d.ev, .func (.func 75) #[] #[.pointer (some ⟨b, 0, none⟩)]] w fun e w' => ∃ iv, e = .returned (.int .i64 iv) ∧ Fd H T iv ∧ Below w.heap.size w w' := by
  have hlt := World.block_lt_of_cell? w _ hb
  have hln := h.len
  have hev : sv d.ev = .slice d.ev.1 H.length d.ev.2.2 := by unfold sv; rw [hln]
  rw [hev]
  clear hln
  have HV : Hid _ := hev
  clear hev
  go_enter Tryz.func74, Tryz.ntmps74
  go_wp2_with fail
  go_loopw [8, 5] (fun ks _ wr => ∃ k : Nat, k ≤ H.length ∧ ks = .int .i64 k ∧ Hid (∀ j x, j < k → H[j]? = some x → x.1 ≠ T) ∧ Below w.heap.size w wr) (fun ks _ _ => H.length - (intOf ks).toNat)
  case atStart => exact ⟨0, Nat.zero_le _, rfl, fun j x q => absurd q (by omega), Below.refl _ _⟩
  case round =>
    obtain ⟨k, hk, rfl, HN, hbl⟩ := hrel
    by_cases hkl : k < H.length
    · obtain ⟨e, he⟩ : ∃ e, H[k]? = some e := ⟨_, List.getElem?_eq_getElem hkl⟩
      have hr := h.below hbl (Nat.le_refl _)
      obtain ⟨g, c, hd, h1, h2, hi, a0, a1, fr⟩ := hr.at_ he
      unfold maxLen at h2
      have hd1 : d.ev.1 = some ⟨g, 0, none⟩ := by rw [hd]
      obtain rfl : d.ev.2.2 = c := by rw [hd]
      rw [hd1]
      have hbw : wr.cell? ⟨b, 0, none⟩ = some (.int .u64 (T.toNat : Int)) := by rw [hbl.cell hlt]; exact hb
      have hfc := findc_any e.1 e.2 T hbw
      have hki : (k : Int) < (H.length : Int) := by omega
      have HE : Hid (H[k]? = some e) := he
      clear hr hd he hd1
      obtain ⟨x1, x2⟩ := e
      simp only [] at *
      by_cases hx : x1 = T
      · have ht : decide (x1 = T) = true := decide_eq_true hx
        rw [ht] at hfc
        have HX : Hid (x1 = T) := hx
        clear ht hx
        go_wp2_with fail
        refine hfc.mono ?_
        rintro e w1 ⟨rfl, hb1⟩
        go_wp2_with fail
        go_ret
        exact ⟨_, rfl, .inl ⟨k, _, rfl, HE.out, HX.out⟩, hbl.trans (hb1.mono hbl.size)⟩
      · have ht : decide (x1 = T) = false := decide_eq_false hx
        rw [ht] at hfc
        have HX : Hid (x1 ≠ T) := hx
        clear ht hx
        go_wp2_with fail
        refine hfc.mono ?_
        rintro e w1 ⟨rfl, hb1⟩
        go_wp2_with fail
        refine ⟨⟨k + 1, by omega, by go_num, fun j x q1 q2 => ?_, hbl.trans (hb1.mono hbl.size)⟩, by simp [intOf]; omega⟩
        by_cases q : j = k
        · subst q
          rw [HE.out] at q2
          obtain rfl := Option.some.inj q2
          exact HX.out
        · exact HN.out j x (by omega) q2
    · have HF : Hid (∀ x ∈ H, x.1 ≠ T) := fun x hx => by
        obtain ⟨j, hj⟩ := List.mem_iff_getElem?.1 hx
        exact HN.out j x (by have := (List.getElem?_eq_some_iff.1 hj).1; omega) hj
      go_wp2_with fail
      go_ret
      exact ⟨_, rfl, .inr ⟨rfl, HF.out⟩, hbl⟩
set_option maxHeartbeats 1000000 in
theorem find_any (h : Rg B p d w H) (hl : H.length ≤ 1099511627776) (T : UInt64) :
    Calls Tryz.prog 44 #[sv d.ev, .int .u64 (T.toNat : Int)] w fun e w' => ∃ iv, e = .returned (.int .i64 iv) ∧ Fd H T iv ∧ Below w.heap.size w w' := by
  have hmf := pd_mf
  have hb0 : Below w.heap.size w (w.alloc (.cells #[.int .u64 (T.toNat : Int)] 23)) := (Below.refl _ _).alloc (Nat.le_refl _) _
  have hc := indexEn_any (h.below hb0 (Nat.le_refl _)) hl T (b := w.heap.size) (by rw [World.cell?_alloc_at _ _ _ _ rfl]; rfl)
  unfold sv at hc ⊢
  go_enter Tryz.func44, Tryz.ntmps44
  go_wp2_with fail
  refine hc.mono ?_
  rintro e w1 ⟨iv, rfl, hf, hb1⟩
  have HF : Hid _ := hf
  clear hf hc
  go_wp2_with fail
  go_ret
  exact ⟨iv, rfl, HF.out, hb0.trans (hb1.mono hb0.size)⟩
end
end Go.Proofs.YtefhinopppdjbaaGreat
