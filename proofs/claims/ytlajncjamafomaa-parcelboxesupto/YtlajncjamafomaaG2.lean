/- What bytes.Equal answers of two slices of bytes. -/
import Derived.Test.YtlajncjamafomaaG1
import Derived.Laws.BytesArg
import Derived.Laws.Cells
namespace Go.Proofs.Ytlajncjamafomaa
open Go.RowKit
set_option linter.unusedVariables false
set_option maxRecDepth 100000

theorem fold_bytes (l : List UInt8) (s : ByteArray) : (l.map (fun x => (x.toNat : Int))).foldl (fun r n => r.push (UInt8.ofNat n.toNat)) s = ⟨s.data ++ l.toArray⟩ := by
  induction l generalizing s with
  | nil => simp
  | cons x l ih =>
    rw [List.map_cons, List.foldl_cons, ih]
    apply ByteArray.ext
    simp [ByteArray.push]
theorem run_convL {P : Program} {w : World} {v : Value} {l : List UInt8} (h : Rd w v l) (src e dst : TypeId) (hs : P.underlying src = some (.slice e)) (he : P.underlying e = some (.int .u8)) (hd : P.underlying dst = some .string) : (convert src dst v).run P w = .ok (.string ⟨l.toArray⟩) w := by
  rcases h.two with ⟨rfl, rfl⟩ | ⟨a, c, rfl, h1, h2, h3⟩
  · rw [run_convert_bytes_nil w src e hs he 0 0 dst hd]; rfl
  · rw [run_convert_bytes_string w src dst e _ _ _ hs he hd, run_bytesToString w a l.length c (l.map (fun x => (x.toNat : Int))), fold_bytes]
    · congr 2
      apply ByteArray.ext
      show (#[] : Array UInt8) ++ l.toArray = l.toArray
      simp
    · rw [run_loadCells w a l.length (fun j => .int .u8 ((l[j]?.getD 0).toNat : Int)) (fun j hj => by rw [h3 j hj]; simp [hj])]
      congr 1
      apply Array.ext'
      apply List.ext_getElem?
      intro j
      by_cases hj : j < l.length <;> simp [hj]
theorem bequal_any {va vb : Value} {la lb : List UInt8} {w : World} (ha : Rd w va la) (hb : Rd w vb lb) :
    Calls Try.prog 56 #[va, vb] w fun e w' => e = .returned (.bool (decide (la = lb))) ∧ w' = w := by
  have h1 := run_convL (P := Try.prog) ha 22 5 9 (by kernel_rfl) (by kernel_rfl) (by kernel_rfl)
  have h2 := run_convL (P := Try.prog) hb 22 5 9 (by kernel_rfl) (by kernel_rfl) (by kernel_rfl)
  have h3 : (la == lb) = decide (la = lb) := by
    by_cases e : la = lb
    · subst e; simp
    · rw [decide_eq_false e]; simp [e]
  have HB : Hid _ := h3
  clear h3
  obtain ⟨ao, ca, rfl, _⟩ := ha
  obtain ⟨bo, cb, rfl, _⟩ := hb
  go_enter Try.func56, Try.ntmps56
  go_wp2_with fail
  go_ret
  refine ⟨?_, rfl⟩
  show Ending.returned (.bool (la == lb)) = _
  rw [HB.out]
end Go.Proofs.Ytlajncjamafomaa
