/- My own words for memory, used by all walks of this seat: 'Rd w v l': the slice value v reads in the world w as the bytes l. Nothing of the program is named here. -/
import Derived.Test.YtefhinopppdjbaaGreatG2
namespace Go.Proofs.YtefhinopppdjbaaGreat
open Go.RowKit
set_option linter.unusedVariables false

/-- A slice of the call's own, in new memory from block B on. -/
def Ow (B : Nat) (w : World) (v : Value) (l : List UInt8) : Prop := w.ownsRow B 5 1 v l.length (cel l)
theorem Ow.rd {B : Nat} {w : World} {v : Value} {l : List UInt8} (h : Ow B w v l) : Rd w v l := by
  have h' := h
  obtain ⟨_, h2⟩ := h
  rcases h2 with ⟨hv, h0⟩ | ⟨g, cap, cur, hv, hg, hh, hn, hcap, hsz, htake⟩
  · obtain rfl := List.length_eq_zero_iff.1 h0
    subst hv
    exact Rd.nil _
  · subst hv
    refine Rd.mk rfl hn hcap (fun i hi => ?_)
    rw [Addr.add_lit, Nat.zero_add]
    unfold Ow at h'
    rw [h'.cellAt i (by omega), cel_get l i hi]
theorem Ow.below {B C : Nat} {w w' : World} {v : Value} {l : List UInt8} (h : Ow B w v l) (hb : Below C w w') (hC : w.heap.size ≤ C) : Ow B w' v l := by
  obtain ⟨h1, h2⟩ := h
  refine ⟨h1, ?_⟩
  rcases h2 with h2 | ⟨g, cap, cur, hv, hg, hh, r⟩
  · exact .inl h2
  · refine .inr ⟨g, cap, cur, hv, hg, ?_, r⟩
    have hlt : g < w.heap.size := (Array.getElem?_eq_some_iff.1 hh).1
    rw [hb.block g (by omega)]; exact hh
theorem Ow.apart {B B' : Nat} {w w' : World} {v u : Value} {l m : List UInt8} (h : Ow B w v l) (k : Ow B' w' u m) (hB : w.heap.size ≤ B') : Apart v u := by
  by_cases e : v.ownBlock = none
  · exact .inl e
  · refine .inr fun e2 => ?_
    obtain ⟨b, hb⟩ := Option.ne_none_iff_exists'.1 e
    have h1 := (World.ownsRow.lt h b hb).2
    have h2 := (World.ownsRow.lt k b (by rw [← e2]; exact hb)).1
    omega
theorem Ow.mono {B B' : Nat} {w : World} {v : Value} {l : List UInt8} (h : Ow B w v l) (hB : B' ≤ B) : Ow B' w v l := by
  obtain ⟨h1, h2⟩ := h
  refine ⟨h1, ?_⟩
  rcases h2 with h2 | ⟨g, cap, cur, hv, hg, r⟩
  · exact .inl h2
  · exact .inr ⟨g, cap, cur, hv, by omega, r⟩
theorem Ow.alloc {B : Nat} {w : World} {v : Value} {l : List UInt8} (h : Ow B w v l) (o : Obj) : Ow B (w.alloc o) v l := World.ownsRow.alloc h o
theorem Ow.drew {B : Nat} {w : World} {v : Value} {l : List UInt8} (h : Ow B w v l) : Ow B w.drew v l := World.ownsRow.drew h
theorem Ow.nil (B : Nat) (w : World) : Ow B w (.slice none 0 0) [] := World.ownsRow_nil _ _ _ _
theorem Ow.lit0 (B : Nat) (w : World) (hB : B ≤ w.heap.size) : Ow B (w.alloc (.cells #[] 5)) (.slice (some ⟨w.heap.size, 0, none⟩) 0 0) [] := World.ownsRow_made w #[] 0 hB (by simp) rfl
theorem Tryz.cells5 : Tryz.prog.cellsOf 5 = 1 := by kernel_rfl
theorem Tryz.info5 : (Tryz.prog.info? 5).map (fun i => (i.zero, i.size, i.bytes)) = some (some (.int .u8 0), 1, 1) := by kernel_rfl
/-- 'append(out, x...)' of bytes, out the call's own. -/
theorem wpList_app {w : World} {ops : Array Oper} {rest : List Oper} {o : Oper} {a : Act} {Q : Exit → Act → World → Prop} (hgd : o.guard = none) (s x : Operand)
    (ho : o.op = .call { callee := .builtin .append, args := #[s, x], argTypes := #[31, 31] })
    (B : Nat) (v : Value) (l : List UInt8) (hs : a.eval s = v) (hown : Ow B w v l) (vx : Value) (m : List UInt8) (hx : a.eval x = vx) (hm : Rd w vx m)
    (hB : B ≤ w.heap.size) (hlen : l.length + m.length ≤ 140737488355328)
    (h : ∀ v' w', Ow B w' v' (l ++ m) → Below B w w' → w.grownBy w' v.ownBlock → wpList Tryz.prog ops Q rest (a.put o.dst v') w') : wpList Tryz.prog ops Q (o :: rest) a w := by
  obtain ⟨i, hi, hz0, hz1, hz2⟩ := info_parts Tryz.info5
  have hbel : ∀ {w'}, w.grownBy w' v.ownBlock → Below B w w' := fun hg => (Below.refl B w).grown hg hB (fun k hk => (hown.lt k hk).1)
  rcases hm.two with ⟨rfl, rfl⟩ | ⟨ad, c, rfl, h1, h2, h3⟩
  · refine wpList_append_own_none hgd s x 31 ho B 5 i 1 Tryz.underlying31 hi _ _ _ hs hown hx ?_
    exact h v w (by simpa using hown) (Below.refl _ _) (World.grownBy.refl _ _)
  · refine wpList_append_own w hgd s x 31 ho B 5 i _ 1 1 Tryz.underlying31 hi hz0 hz1 hz2 rfl (by decide) v l.length (cel l) hs hown ad m.length c (cel m) hx (by simp [cel_length]) ?_ (cel_one m) (by unfold maxLen; omega) (by omega) hB ?_
    · intro j u hu
      have hj : j < m.length := by have := (List.getElem?_eq_some_iff.1 hu).1; simpa [cel_length] using this
      rw [h3 j hj]; rw [cel_get m j hj] at hu; exact hu
    · intro v' w' ho' hg' _
      refine h v' w' ?_ (hbel hg') hg'
      unfold Ow; rw [cel_append, List.length_append]; exact ho'
end Go.Proofs.YtefhinopppdjbaaGreat
