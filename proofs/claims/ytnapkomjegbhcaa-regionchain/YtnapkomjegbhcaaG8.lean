/- What the bound on an input's bulk gives (Bulk), and a []byte that came in. -/
import Derived.Test.YtnapkomjegbhcaaG2
import Derived.Test.YtnapkomjegbhcaaG1

/- How a list of byte slices that came in is read: as 'Rds', with a bound on all its bytes by the input's bulk. -/
namespace Go.Proofs.Ytnapkomjegbhcaa
open Go.ChangeShapes Go.WideShapes Go.ChangeAt Go.RowKit
set_option linter.unusedVariables false
set_option maxRecDepth 100000

/-- All bytes of a list, and one more a text. -/
def tot : List (List UInt8) → Nat
  | [] => 0
  | f :: r => f.length + 1 + tot r
theorem tot_len (ls : List (List UInt8)) : ls.length ≤ tot ls := by
  induction ls with
  | nil => simp [tot]
  | cons f r ih => simp only [tot, List.length_cons]; omega
theorem tot_mem (ls : List (List UInt8)) (f : List UInt8) (h : f ∈ ls) : f.length ≤ tot ls := by
  induction ls with
  | nil => cases h
  | cons g r ih =>
    rcases List.mem_cons.1 h with rfl | h
    · simp only [tot]; omega
    · have := ih h; simp only [tot]; omega
/-- One slice of bytes among the cells that came in. -/
theorem open_bytes_cs {H : Type} {enc : TypeId × Value → H} {W : World} {fuel : Nat} {cs : List Value} {x : DataW H × List MemPlace} (hf : DataW.trod enc Try.prog W 0 (fun _ => true) true fuel 24 cs = some x) :
    ∃ u l, cs = [u] ∧ Rd W u l ∧ l.length + 1 ≤ Rows.uptoBulk x.1 := by
  rcases open_ints Try.underlying24 Try.underlying5 (by kernel_rfl) hf with ⟨hcs, hx⟩ | ⟨a, len, cap, zs, hcs, _, hl, hm, hz, hd, hcell, hwz⟩
  · subst hx
    exact ⟨_, [], hcs, Rd.nil _, by simp [Rows.uptoBulk]⟩
  · have hz' : zs.length = cap := by simpa using hz
    have hlen : ((zs.take len).map (fun z => UInt8.ofNat z.toNat)).length = len := by simp; omega
    refine ⟨_, (zs.take len).map (fun z => UInt8.ofNat z.toNat), hcs, Rd.mk hlen.symm (by omega) hm (fun i hi => ?_), ?_⟩
    · have hi' : i < zs.length := by omega
      rw [hcell i hi']
      have hw := hwz (zs[i]) (List.getElem_mem hi')
      have hx : 0 ≤ zs[i] ∧ zs[i] ≤ 255 := by simpa [Lit.wf, IntKind.min, IntKind.max, IntKind.signed, IntKind.bits] using hw
      have e : zs.getD i 0 = zs[i] := by simp [hi']
      rw [e]
      simp only [List.getElem_map, List.getElem_take]
      rw [M.u8_ofNat]
      congr 2
      omega
    · rw [hlen, hd]
      have := bulk_ge (H := H) (lits .u8 (zs.take len))
      simp only [Rows.uptoBulk]
      simp only [lits, List.length_map, List.length_take] at this
      simp only [lits]
      omega

theorem tot_bulk {H : Type} : ∀ (elems : List (DataW H × List MemPlace)) (ls : List (List UInt8)), ls.length = elems.length → (∀ (i : Nat) (y : DataW H × List MemPlace) (l : List UInt8), elems[i]? = some y → ls[i]? = some l → l.length + 1 ≤ Rows.uptoBulk y.1) → tot ls ≤ Rows.uptoBulkAll (elems.map (·.1))
  | [], [], _, _ => by simp [tot, Rows.uptoBulkAll]
  | y :: ys, l :: ls, hlen, h => by
    have h0 := h 0 y l rfl rfl
    have ih := tot_bulk ys ls (by simpa using hlen) (fun i y' l' e1 e2 => h (i + 1) y' l' (by simpa using e1) (by simpa using e2))
    simp only [tot, List.map_cons, Rows.uptoBulkAll]
    omega

/-- A list of byte slices that came in. -/
theorem open_lists {H : Type} {enc : TypeId × Value → H} {W : World} {a0 : Option Addr} {len cap : Nat} {d : DataW H} {p : List MemPlace} (h : DataW.Trod enc Try.prog W 0 (fun _ => true) true 22 (.slice a0 len cap) d p) :
    ∃ ls : List (List UInt8), Rds W (.slice a0 len cap) ls ∧ tot ls ≤ Rows.uptoBulk d := by
  obtain ⟨fuel, hf⟩ := h
  have hc1 : Try.prog.cellsOf 24 = 1 := by kernel_rfl
  rcases DataW.trod_slice Try.underlying22 hf with ⟨hcs, hx⟩ | ⟨a, len', cap', elems, rest, n, _, hcs, hx, _, hl, hm, hlen, hel, _, _⟩
  · simp [Value.cells] at hcs
    obtain ⟨rfl, rfl, rfl⟩ := hcs
    exact ⟨[], ⟨none, 0, rfl, by simp, by simp, fun i hi => by simp at hi⟩, by simp [tot]⟩
  · simp [Value.cells] at hcs
    obtain ⟨rfl, rfl, rfl⟩ := hcs
    have each : ∀ i, i < len → ∃ ul : Value × List UInt8, W.cell? (a.add i) = some ul.1 ∧ Rd W ul.1 ul.2 ∧ ∀ y, elems[i]? = some y → ul.2.length + 1 ≤ Rows.uptoBulk y.1 := by
      intro i hi
      have h1 := hel i hi
      rw [hc1, Nat.mul_one, List.getElem?_eq_getElem (by omega), Option.bind_eq_some_iff] at h1
      obtain ⟨cs, h2, h3⟩ := h1
      obtain ⟨u, l, rfl, hr, hb⟩ := open_bytes_cs h3
      refine ⟨(u, l), cell_of_cells?_one h2, hr, fun y hy => ?_⟩
      rw [List.getElem?_eq_getElem (by omega)] at hy
      obtain rfl := Option.some.inj hy
      exact hb
    have hall : ∃ g : Nat → Value × List UInt8, ∀ i, i < len → W.cell? (a.add i) = some (g i).1 ∧ Rd W (g i).1 (g i).2 ∧ ∀ y, elems[i]? = some y → (g i).2.length + 1 ≤ Rows.uptoBulk y.1 := by
      refine ⟨fun i => if h : i < len then Classical.choose (each i h) else (undef, []), fun i hi => ?_⟩
      simp only [dif_pos hi]
      exact Classical.choose_spec (each i hi)
    obtain ⟨g, hg⟩ := hall
    have hgl : ((List.range len).map (fun i => (g i).2)).length = len := by simp
    refine ⟨(List.range len).map (fun i => (g i).2), ⟨some a, cap, by rw [hgl], by omega, hm, fun i hi => ?_⟩, ?_⟩
    · have hi' : i < len := by omega
      refine ⟨a, (g i).1, rfl, (hg i hi').1, ?_⟩
      simpa using (hg i hi').2.1
    · have := tot_bulk elems ((List.range len).map (fun i => (g i).2)) (by rw [hgl, hlen]) (fun i y l e1 e2 => by
        have hi : i < len := by have := (List.getElem?_eq_some_iff.1 e1).1; omega
        have e3 : ((List.range len).map (fun i => (g i).2))[i]? = some (g i).2 := by simp [hi]
        rw [e3] at e2
        obtain rfl := Option.some.inj e2
        exact (hg i hi).2.2 y e1)
      have hd : d = .slice (elems.map (·.1)) (rest.map (·.1)) := congrArg Prod.fst hx
      rw [hd]
      simp only [Rows.uptoBulk]
      omega
end Go.Proofs.Ytnapkomjegbhcaa
