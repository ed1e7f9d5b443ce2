/- PdMerges where the split is refused. -/
import Derived.Test.YtlfdcnojbbigbaaG41
import Derived.Deep.CutRange
namespace Go.Proofs.Ytlfdcnojbbigbaa
open Go.RowKit Go.Maps
set_option linter.unusedVariables false
set_option linter.unusedSimpArgs false
set_option maxRecDepth 100000

/-- A slice of bools. -/
def RdB (w : World) (v : Value) (n : Nat) (f : Nat → Bool) : Prop := ∃ ao c, v = .slice ao n c ∧ n ≤ c ∧ c ≤ 9223372036854775807 ∧ ∀ i, i < n → ∃ a, ao = some a ∧ w.cell? (a.add i) = some (.bool (f i))
theorem andUm (x c : UInt64) : bits .and .u64 (x.toNat : Int) (c.toNat : Int) = ((x &&& c).toNat : Int) := by
  show IntKind.u64.wrap ((BitVec.ofInt 64 (x.toNat : Int) &&& BitVec.ofInt 64 (c.toNat : Int)).toNat : Int) = _
  have h1 : ∀ y : UInt64, (BitVec.ofInt 64 (y.toNat : Int)).toNat = y.toNat := fun y => by
    have := y.toNat_lt
    rw [BitVec.toNat_ofInt]
    omega
  rw [BitVec.toNat_and, h1, h1, UInt64.toNat_and]
  have h2 : x.toNat &&& c.toNat ≤ x.toNat := Nat.and_le_left
  have h3 := x.toNat_lt
  rw [IntKind.wrap_u64]
  omega
theorem pm_n (n : UInt64) : ∃ m : Nat, bits .and .u64 (n.toNat : Int) 1125899906842623 = (m : Int) ∧ m ≤ 1125899906842623 :=
  ⟨_, andUm n 1125899906842623, by rw [UInt64.toNat_and]; exact Nat.and_le_right⟩
theorem rdpe_m1 (w : World) (g : Nat) (hg : g = w.heap.size) (t : TypeId) : RdPe (w.alloc (.cells #[.int .u64 1, .int .i64 1, .bool false] t)) (.slice (some ⟨g, 0, none⟩) 1 1) [Pe1] := by
  subst hg
  refine ⟨some ⟨w.heap.size, 0, none⟩, 1, rfl, by simp, by simp [maxLen], (fun e => by cases e), fun i q hi => ?_⟩
  match i with
  | 0 =>
    simp at hi; subst hi
    refine ⟨_, rfl, ?_, ?_, ?_⟩ <;> rw [Addr.add_lit] <;> simp only [Nat.zero_add, Nat.zero_mul] <;> rw [World.cell?_alloc_at _ _ _ _ rfl] <;> rfl
  | i + 1 => simp at hi
theorem ru_m1 (w : World) (g : Nat) (hg : g = w.heap.size) (t : TypeId) : Ru (w.alloc (.cells #[.int .u64 8] t)) (.slice (some ⟨g, 0, none⟩) 1 1) [8] := by
  subst hg
  refine Ru.mk rfl (by simp) (by simp [maxLen]) (fun i hi => ?_)
  obtain rfl : i = 0 := by simpa using hi
  rw [Addr.add_lit, Nat.zero_add, World.cell?_alloc_at _ _ _ _ rfl]; rfl

set_option maxHeartbeats 4000000 in
theorem pdMerges_bad {kv mv : Value} {key : List UInt8} {nm : Nat} {mf : Nat → Bool} (n : UInt64) (first : Bool) {w : World} (hk : Rd w kv key) (hm : RdB w mv nm mf) (hbad : key.length = 0 ∨ 64 < key.length) :
    Calls Try.prog 3 #[.int .u64 (n.toNat : Int), kv, .bool first, mv] w fun e w' => e = .returned (.bool true) ∧ Below w.heap.size w w' := by
  have haw := pdawake_any w
  have hnew := fun W => pnew_any 1 (by omega) (by omega) W
  obtain ⟨mo, mc, rfl, hm1, hm2, hm3⟩ := hm
  obtain ⟨m, hmm, hml⟩ := pm_n n
  obtain ⟨N, hN⟩ : ∃ N, 1 + m = N := ⟨_, rfl⟩
  have gN : (1 : Int) + (m : Int) = (N : Int) := by omega
  have hN1 : 1 ≤ N ∧ N ≤ 1125899906842624 := by omega
  have hkl := hk.len
  unfold maxLen at hkl
  obtain ⟨ka, kc, rfl⟩ := hk.shp
  go_enter Try.func3, Try.ntmps3
  go_wp2_with fail
  refine haw.mono ?_
  rintro e w1 ⟨rfl, hb1⟩
  go_wp2_with fail
  refine (hnew _).mono ?_
  rintro e w2 ⟨rfl, hd2, hp0, hp1, hp2, hb2⟩
  have hbs := hb1.size
  have hB2 : Below w.heap.size w w2 := hb1.trans (hb2.mono hbs)
  obtain ⟨p, hp⟩ : ∃ p, w1.heap.size + 3 = p := ⟨_, rfl⟩
  rw [hp] at hd2 ⊢
  have hmm0 := Mm.made w2 _ hp1
  have hgs0 := Gs.made w2 _ hp2
  have hpl := hd2.lt
  go_upto_region 6 with fail
  obtain ⟨hx0, hx1, hB3⟩ := two_new w2 (.cells #[.int .u64 1, .int .i64 1, .bool false] 31) (.cells #[.int .u64 1, .slice none 0 0, .slice none 0 0, .int .u64 1, .int .u64 1, .slice (some ⟨w2.heap.size, 0, none⟩) 1 1] 34)
  have hpe := (rdpe_m1 w2 w2.heap.size rfl 31).below ((Below.refl _ _).alloc (Nat.le_refl _) (.cells #[.int .u64 1, .slice none 0 0, .slice none 0 0, .int .u64 1, .int .u64 1, .slice (some ⟨w2.heap.size, 0, none⟩) 1 1] 34)) (Nat.le_refl _)
  generalize World.alloc (World.alloc w2 _) _ = W3 at *
  obtain ⟨z0, z1, z2, z3, z4, z5, _⟩ := cells6 hx1
  have hs3 := hB3.size
  have hpe4 := hpe.below ((Below.refl _ W3).alloc (Nat.le_refl _) (.cells #[.int .u64 8] 22)) (Nat.le_refl _)
  have hB4 : Below w.heap.size w (W3.alloc (.cells #[.int .u64 8] 22)) := (hB2.trans (hB3.mono hB2.size)).alloc (by have := hB2.size; omega) _
  have hk4 := hk.below hB4 (Nat.le_refl _)
  have hru := ru_m1 W3 W3.heap.size rfl 22
  have hmm4 := (hmm0.below hB3 (Nat.le_refl _)).below ((Below.refl _ W3).alloc (Nat.le_refl _) (.cells #[.int .u64 8] 22)) (Nat.le_refl _)
  have hgs4 := (hgs0.below hB3 (Nat.le_refl _)).below ((Below.refl _ W3).alloc (Nat.le_refl _) (.cells #[.int .u64 8] 22)) (Nat.le_refl _)
  have hd4 := (hd2.belowN hB3 (Nat.le_refl _)).belowN ((Below.refl _ W3).alloc (Nat.le_refl _) (.cells #[.int .u64 8] 22)) (Nat.le_refl _)
  have hs4 : (W3.alloc (.cells #[.int .u64 8] 22)).heap.size = W3.heap.size + 1 := by simp
  clear hmm0 hgs0 hd2 hpe hx0 hx1 hB3 hp0 hp1 hp2 hnew haw
  have hsp := pm_split_err hpe4 hk4 hru hbad
  clear hpe4 hk4 hru hmm4 hgs4 hd4
  go_wp2_with fail
  refine hsp.mono ?_
  rintro x w4 ⟨ce, g1, rfl, hb4⟩
  have hfin : Below w.heap.size w w4 := hB4.trans (hb4.mono hB4.size)
  have hfz := hfin.size
  clear hsp hb4 hB4
  by_cases q : key.length = 0
  · have q1 : ((key.length : Int) == 0) = true := by rw [beq_iff_eq]; omega
    have HQ : Hid _ := q
    clear q hbad
    go_wp2_with fail
    go_ret
    exact ⟨rfl, hfin.trans ((two_new w4 _ _).2.2.mono hfz)⟩
  · have q1 : ((key.length : Int) == 0) = false := by rw [beq_eq_false_iff_ne]; omega
    have q2 : (64 : Int) < (key.length : Int) := by omega
    have q3 : (key.length : Int) > 64 := by omega
    have q4 : 64 < key.length := by omega
    clear q hbad
    go_wp2_with fail
    go_ret
    exact ⟨rfl, hfin.trans ((two_new w4 _ _).2.2.mono hfz)⟩
end Go.Proofs.Ytlfdcnojbbigbaa
