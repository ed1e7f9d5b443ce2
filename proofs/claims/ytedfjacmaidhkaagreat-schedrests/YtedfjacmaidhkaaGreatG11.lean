/- The queue's Swap. -/
import Derived.Test.YtedfjacmaidhkaaGreatG6
namespace Go.Proofs.YtedfjacmaidhkaaGreat
open Go.RowKit
set_option linter.unusedVariables false
set_option linter.unusedSimpArgs false
set_option maxRecDepth 100000

section
variable {B p : Nat} {f : Value} {x : Option Addr × Nat × Nat} {w w' : World} {H : List Pe}
set_option maxHeartbeats 8000000 in
theorem qswap_any (h : Qu B p f x w H) {i j : Nat} (hi : i < H.length) (hj : j < H.length) :
    Calls Tryz.prog 145 #[.pointer (some ⟨p, 0, none⟩), .int .i64 i, .int .i64 j] w fun e w' => (∃ u, e = .returned u) ∧ Qu B p f x w' (M.sw H i j) ∧ Chg (QuS p x) w w' := by
  obtain ⟨a, ha⟩ : ∃ a, H[i]? = some a := ⟨_, List.getElem?_eq_getElem hi⟩
  obtain ⟨b, hb⟩ : ∃ b, H[j]? = some b := ⟨_, List.getElem?_eq_getElem hj⟩
  obtain ⟨g, c, hd, h1, h2, _, a0, a1, a2, fr⟩ := h.at_ ha
  obtain ⟨g', c', ev, _, _, _, b0, b1, b2, _⟩ := h.at_ hb
  rw [hd] at ev
  simp only [Prod.mk.injEq, Option.some.injEq, Addr.mk.injEq, and_true, true_and] at ev
  obtain ⟨rfl, rfl⟩ := ev
  have hgp : ¬ g = p := fun q => h.ne (by rw [hd]; exact congrArg some q)
  have hpg : ¬ p = g := fun q => hgp q.symm
  obtain ⟨v0, v1, -⟩ := h.vx
  rw [hd] at v0
  simp only [sv] at v0
  unfold maxLen at h2
  obtain ⟨x1, x2, x3⟩ := a
  obtain ⟨y1, y2, y3⟩ := b
  simp only [] at *
  have hfin : Qu B p f x (World.drew (((((((w.setCell ⟨g, i * 3, none⟩ (.int .u64 (y1.toNat : Int))).setCell ⟨g, i * 3 + 1, none⟩ (.int .i64 y2)).setCell ⟨g, i * 3 + 2, none⟩ (.bool y3)).setCell ⟨g, j * 3, none⟩ (.int .u64 (x1.toNat : Int))).setCell ⟨g, j * 3 + 1, none⟩ (.int .i64 x2)).setCell ⟨g, j * 3 + 2, none⟩ (.bool x3)))) (M.sw H i j) ∧ Chg (QuS p x) w (World.drew (((((((w.setCell ⟨g, i * 3, none⟩ (.int .u64 (y1.toNat : Int))).setCell ⟨g, i * 3 + 1, none⟩ (.int .i64 y2)).setCell ⟨g, i * 3 + 2, none⟩ (.bool y3)).setCell ⟨g, j * 3, none⟩ (.int .u64 (x1.toNat : Int))).setCell ⟨g, j * 3 + 1, none⟩ (.int .i64 x2)).setCell ⟨g, j * 3 + 2, none⟩ (.bool x3)))) := by
    obtain ⟨r1, r2⟩ := h.set hd i (y1, y2, y3) (h.dom _ (List.mem_of_getElem? hb))
    obtain ⟨s1, s2⟩ := r1.set hd j (x1, x2, x3) (h.dom _ (List.mem_of_getElem? ha))
    have c := r2.trans (s2.mono (fun b _ q => .inl q))
    have q := s1.drewN 1
    rw [M.sw_eq ha hb]
    exact ⟨q, c.trans (chg_bl (Below.dN _ 1))⟩
  have hii : (i : Int) < (H.length : Int) := by omega
  have hji : (j : Int) < (H.length : Int) := by omega
  have HF : Hid _ := hfin
  generalize H.length = n at *
  clear hfin hi hj h2 h1
  by_cases hij : i = j
  · subst hij
    have hab := Option.some.inj (ha.symm.trans hb)
    simp only [Prod.mk.injEq] at hab
    obtain ⟨rfl, rfl, rfl⟩ := hab
    clear h ha hb hd b0 b1 b2 hji
    go_enter Tryz.func145, Tryz.ntmps145
    go_wp2_with fail
    go_region
    go_wp2_with fail
    go_end0
    exact ⟨⟨_, rfl⟩, HF.out⟩
  · have n1 : ¬ j * 3 = i * 3 := by omega
    have n2 : ¬ j * 3 = i * 3 + 1 := by omega
    have n3 : ¬ j * 3 = i * 3 + 2 := by omega
    have n4 : ¬ j * 3 + 1 = i * 3 := by omega
    have n5 : ¬ j * 3 + 1 = i * 3 + 1 := by omega
    have n6 : ¬ j * 3 + 1 = i * 3 + 2 := by omega
    have n7 : ¬ j * 3 + 2 = i * 3 := by omega
    have n8 : ¬ j * 3 + 2 = i * 3 + 1 := by omega
    have n9 : ¬ j * 3 + 2 = i * 3 + 2 := by omega
    clear h ha hb hd
    go_enter Tryz.func145, Tryz.ntmps145
    go_wp2_with fail
    go_region
    go_wp2_with fail
    go_end0
    exact ⟨⟨_, rfl⟩, HF.out⟩
end
end Go.Proofs.YtedfjacmaidhkaaGreat

/- The queue's methods, called through heap.Interface. -/
namespace Go.Proofs.YtedfjacmaidhkaaGreat
open Go.RowKit
set_option linter.unusedVariables false
set_option maxRecDepth 100000

/-- A method with a value's receiver, called on a pointer in an interface: what lies there is loaded. -/
theorem run_method_val {P : Program} {t elem : TypeId} {name : String} {f : FuncId} {w : World} {a : Addr} {v : Value} (fuel : Nat)
    (hm : (P.info? t).map (fun i => (i.methods.find? (·.name == name)).map (fun m => (m.path, m.func))) = some (some (#[], some (f, false))))
    (hu : P.underlying t = some (.pointer elem)) (hl : (loadVar elem a).run P w = .ok v w) : (method (fuel + 1) t (.pointer (some a)) name).run P w = .ok (f, v) w := by
  obtain ⟨i, hi, hm⟩ := Option.map_eq_some_iff.1 hm
  obtain ⟨m, hf, hm⟩ := Option.map_eq_some_iff.1 hm
  simp only [Prod.mk.injEq] at hm
  obtain ⟨hp, hfn⟩ := hm
  have h1 : (typeInfo t).run P w = .ok i w := by simp [typeInfo, hi]
  have h2 : (underlying t).run P w = .ok (.pointer elem) w := run_underlying hu w
  have h3 : ∀ nm, (Builtin.ssaWrapNilChk_ #[t] t #[.pointer (some a), strVal "", strVal nm]).run P w = .ok (.pointer (some a)) w := fun _ => rfl
  have h4 : (asAddr (.pointer (some a))).run P w = .ok a w := rfl
  unfold method
  simp only [Sem.run_bind, h1, Result.andThen_ok, hf, hp, hfn, follow, Sem.run_pure, receiverAt, h2, Place.get, Array.isEmpty_empty, if_true, h3, h4, hl]
/-- .. and one with a pointer's. -/
theorem run_method_ptr {P : Program} {t elem : TypeId} {name : String} {f : FuncId} {w : World} {a : Addr} (fuel : Nat)
    (hm : (P.info? t).map (fun i => (i.methods.find? (·.name == name)).map (fun m => (m.path, m.func))) = some (some (#[], some (f, true))))
    (hu : P.underlying t = some (.pointer elem)) : (method (fuel + 1) t (.pointer (some a)) name).run P w = .ok (f, .pointer (some a)) w := by
  obtain ⟨i, hi, hm⟩ := Option.map_eq_some_iff.1 hm
  obtain ⟨m, hf, hm⟩ := Option.map_eq_some_iff.1 hm
  simp only [Prod.mk.injEq] at hm
  obtain ⟨hp, hfn⟩ := hm
  have h1 : (typeInfo t).run P w = .ok i w := by simp [typeInfo, hi]
  have h2 : (underlying t).run P w = .ok (.pointer elem) w := run_underlying hu w
  unfold method
  simp only [Sem.run_bind, h1, Result.andThen_ok, hf, hp, hfn, follow, Sem.run_pure, receiverAt, h2, Place.get]

section
variable {w : World} {p : Nat}
theorem meth_less : (method 294 121 (.pointer (some ⟨p, 0, none⟩)) "Less").run Tryz.prog w = .ok (142, .pointer (some ⟨p, 0, none⟩)) w := run_method_ptr 293 (elem := 123) (by kernel_rfl) (by kernel_rfl)
theorem meth_swap : (method 294 121 (.pointer (some ⟨p, 0, none⟩)) "Swap").run Tryz.prog w = .ok (145, .pointer (some ⟨p, 0, none⟩)) w := run_method_ptr 293 (elem := 123) (by kernel_rfl) (by kernel_rfl)
theorem meth_len : (method 294 121 (.pointer (some ⟨p, 0, none⟩)) "Len").run Tryz.prog w = .ok (78, .pointer (some ⟨p, 0, none⟩)) w := run_method_ptr 293 (elem := 123) (by kernel_rfl) (by kernel_rfl)
theorem meth_push : (method 294 121 (.pointer (some ⟨p, 0, none⟩)) "Push").run Tryz.prog w = .ok (144, .pointer (some ⟨p, 0, none⟩)) w := run_method_ptr 293 (elem := 123) (by kernel_rfl) (by kernel_rfl)
theorem meth_pop : (method 294 121 (.pointer (some ⟨p, 0, none⟩)) "Pop").run Tryz.prog w = .ok (143, .pointer (some ⟨p, 0, none⟩)) w := run_method_ptr 293 (elem := 123) (by kernel_rfl) (by kernel_rfl)
end
end Go.Proofs.YtedfjacmaidhkaaGreat
