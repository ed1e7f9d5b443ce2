/- What the Book's Done answers where every list still bears its mark: true. -/
import Derived.Test.YtlajncjamafomaaG7
namespace Go.Proofs.Ytlajncjamafomaa
open Go.RowKit
set_option linter.unusedVariables false
set_option maxRecDepth 100000


theorem own_cell {w : World} {B : Nat} {e : TypeId} {n : Nat} {v : Value} {xs : List Value} (h : w.ownsRow B e 1 v n xs) (i : Nat) (hi : i < n) : ∃ g c, v = .slice (some ⟨g, 0, none⟩) n c ∧ w.cell? ⟨g, i, none⟩ = xs[i]? := by
  rcases h.2 with ⟨_, e0⟩ | ⟨g, cap, cur, e, _⟩
  · omega
  · subst e
    exact ⟨g, cap, rfl, h.cellAt i (by omega)⟩

set_option maxHeartbeats 1000000 in
theorem done_any {B k : Nat} {D : Nat → Prop} {rs : List (Value × UInt8)} {w : World} (hb : Bk B k D rs w) (hn : rs.length ≤ 1099511627776) :
    Calls Try.prog 16 #[.pointer (some ⟨k, 0, none⟩)] w fun e w' => e = .returned (.bool true) ∧ ∃ n, w' = w.drewN n := by
  obtain ⟨vl, vm, tb, h1, h2, h3, h4, h5, h6⟩ := hb.ex
  have c0 : w.cell? ⟨k, 0, none⟩ = some vl := by rw [cell_of_row _ _ _ _ _ _ h1]; rfl
  have c1 : w.cell? ⟨k, 1, none⟩ = some vm := by rw [cell_of_row _ _ _ _ _ _ h1]; rfl
  obtain ⟨al, cl, rfl⟩ := own_shape h2
  have h3' : w.ownsRow B 5 1 vm rs.length (cel (rs.map (·.2))) := by have := h3; unfold Ow at this; rw [List.length_map] at this; exact this
  obtain ⟨am, cm, rfl⟩ := own_shape h3'
  have H : Hid (∀ i, (h : i < rs.length) → ∃ gl gm ar m cr, al = some ⟨gl, 0, none⟩ ∧ am = some ⟨gm, 0, none⟩ ∧ w.cell? ⟨gl, i, none⟩ = some (.slice ar m cr) ∧ m ≤ 9223372036854775807 ∧ w.cell? ⟨gm, i, none⟩ = some (.int .u8 (rs[i].2.toNat : Int)) ∧ ∀ j, j < m → ∃ a, ar = some a ∧ w.cell? (a.add j) = some (.int .u8 (rs[i].2.toNat : Int))) := by
    intro i hi
    obtain ⟨gl, c, e1, e2⟩ := own_cell h2 i hi
    obtain ⟨gm, c', e3, e4⟩ := own_cell h3' i hi
    simp only [Value.slice.injEq, true_and] at e1 e3
    obtain ⟨rfl, rfl⟩ := e1
    obtain ⟨rfl, rfl⟩ := e3
    obtain ⟨⟨n, hr⟩, _, _⟩ := h6 rs[i] (List.getElem_mem hi)
    obtain ⟨ar, cr, er, q1, q2, q3, q4⟩ := hr
    unfold maxLen at q2
    rw [List.length_replicate] at er q1
    refine ⟨gl, gm, ar, n, cr, rfl, rfl, by rw [e2]; simp [hi, er], by omega, by rw [e4, cel_get _ _ (by simpa using hi)]; simp, fun j hj => ?_⟩
    obtain ⟨a, e, hc⟩ := q4 j (by simpa using hj)
    exact ⟨a, e, by rw [hc]; simp⟩
  clear h1 h2 h3 h3' h4 h5 h6 hb
  go_enter Try.func16, Try.ntmps16
  go_wp2
  go_loopw [3, 4] (fun i _ wr => ∃ p : Nat, p ≤ rs.length ∧ i = .int .i64 p ∧ ∃ n, wr = w.drewN n) (fun i _ _ => rs.length - (intOf i).toNat)
  case atStart => exact ⟨0, Nat.zero_le _, rfl, 0, rfl⟩
  case round =>
    obtain ⟨p, hp, rfl, n1, rfl⟩ := hrel
    by_cases hlt : p < rs.length
    · obtain ⟨gl, gm, ar, m, cr, rfl, rfl, d1, hm, d2, hj⟩ := H.out p hlt
      have HJ : Hid _ := hj
      clear hj H
      go_wp2
      go_loopw [4] (fun j wr => ∃ q : Nat, q ≤ m ∧ j = .int .i64 q ∧ ∃ n, wr = w.drewN n) (fun j _ => m - (intOf j).toNat)
      case atStart => exact ⟨0, Nat.zero_le _, rfl, n1, rfl⟩
      case round =>
        obtain ⟨q, hq, rfl, n2, rfl⟩ := hrel
        by_cases hlt2 : q < m
        · obtain ⟨a, rfl, d3⟩ := HJ.out q hlt2
          have hne : (((rs[p].2.toNat : Nat) : Int) != ((rs[p].2.toNat : Nat) : Int)) = false := by simp
          go_wp2
          go_region
          all_goals go_wp2
          all_goals exact ⟨⟨q + 1, by omega, by go_num, _, rfl⟩, by simp [intOf]; omega⟩
        · go_wp2
          exact ⟨⟨p + 1, by omega, by go_num, _, rfl⟩, by simp [intOf]; omega⟩
    · go_wp2
      go_ret
      exact ⟨rfl, _, rfl⟩
/-- One list more is taken; another one, apart from it and no block of the Book's, stays what it was. -/
structure Stays (D : Nat → Prop) (C : Nat) (w : World) (u : Value) (m : List UInt8) : Prop where
  ow : Ow C w u m
  out : ∀ b, u.ownBlock = some b → ¬ D b

theorem Stays.next {D : Nat → Prop} {C : Nat} {w w' : World} {u v : Value} {m : List UInt8} (h : Stays D C w u m) (hch : Chg (fun b => D b ∨ v.ownBlock = some b) w w') (ha : Apart v u) :
    Stays (fun b => D b ∨ v.ownBlock = some b ∨ (w.heap.size ≤ b ∧ b < w'.heap.size)) C w' u m := by
  have hab : ∀ b, u.ownBlock = some b → v.ownBlock ≠ some b := fun b e h => by
    rcases ha with q | q
    · rw [q] at h; cases h
    · exact q (h.trans e.symm)
  refine ⟨h.ow.keptC hch (fun b e hd => ?_), fun b e hd => ?_⟩
  · rcases hd with hd | hd
    · exact h.out b e hd
    · exact hab b e hd
  · rcases hd with hd | hd | hd
    · exact h.out b e hd
    · exact hab b e hd
    · have := (World.ownsRow.lt h.ow b e).2; omega

/-- Own, once more, and what is below B stays. -/
theorem own_step {B C k : Nat} {D : Nat → Prop} {rs : List (Value × UInt8)} {w : World} {v : Value} {l : List UInt8} (hb : Bk B k D rs w) (hs : Stays D C w v l) (hC : B ≤ C) (hn : rs.length ≤ 1099511627776) :
    Calls Try.prog 15 #[.pointer (some ⟨k, 0, none⟩), v] w fun e w' => e = .returned (.bool true) ∧
      (∃ r, Bk B k (fun b => D b ∨ v.ownBlock = some b ∨ (w.heap.size ≤ b ∧ b < w'.heap.size)) (rs ++ [r]) w') ∧ Chg (fun b => D b ∨ v.ownBlock = some b) w w' ∧ Below B w w' := by
  refine (own_any hb hs.ow hC hs.out hn).mono ?_
  rintro e w' ⟨rfl, hbk, hch⟩
  refine ⟨rfl, hbk, hch, hch.below (fun b h => ?_) ?_⟩
  · rcases h with h | h
    · exact hb.dB b h
    · have := (World.ownsRow.lt hs.ow b h).1; omega
  · have := hb.dB k hb.dk; have := hb.dlt k hb.dk; omega

theorem num_any (z : Int) (w : World) : Calls Try.prog 14 #[.int .i64 z] w fun e w' => e = .returned (.int .i64 z) ∧ w = w' := by
  go_enter Try.func14, Try.ntmps14
  go_wp2
  go_ret
  exact ⟨rfl, rfl⟩
end Go.Proofs.Ytlajncjamafomaa
