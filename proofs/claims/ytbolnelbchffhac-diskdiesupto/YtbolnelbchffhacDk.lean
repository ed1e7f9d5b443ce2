/- My own words for a disk in memory: 'Dk': a Disk struct in block d whose map holds just the files of st, each with its bytes in memory of its own. -/
import Derived.Test.YtbolnelbchffhacChg
import Derived.Maps.OwnSet
import Derived.StringKeys
import Derived.Carry
import Derived.Laws.EntriesVeiled
namespace Go.Proofs.Ytbolnelbchffhac
open Go.RowKit Go.ChangeMaps Go.WideShapes
set_option linter.unusedVariables false
set_option maxRecDepth 100000

abbrev Nm := List UInt8
/-- What a block of the disk is for. -/
inductive Role where
  | disk
  | map
  | file (n : Nm)
  | data (n : Nm)

/-- How a pointer to a file reads. -/
def flE : Value → Option (DataW Unit × List MemPlace)
  | .pointer none => some (.nil, [])
  | .pointer (some ⟨b, 0, none⟩) => some (.lit (.int .u64 (b : Int)), [])
  | _ => none
theorem flE_nil {v : Value} {ps : List MemPlace} (h : flE v = some (.nil, ps)) : v = .pointer none := by
  unfold flE at h
  split at h <;> simp at h
  rfl
theorem flE_at {v : Value} {ps : List MemPlace} {b : Nat} (h : flE v = some (.lit (.int .u64 (b : Int)), ps)) : v = .pointer (some ⟨b, 0, none⟩) := by
  unfold flE at h
  split at h <;> simp at h
  have h := h.1
  congr
  omega

theorem Try.strKeyed : Maps.Keyed Try.prog 9 := Maps.string_keyed Try.underlying9
theorem Try.zeroFile (w : World) : (zeroValue 72).run Try.prog w = .ok (.pointer none) w := by kernel_rfl

/-- The disk's memory, all of it by name. -/
structure DkI (B d n m : Nat) (D : DataW Unit) (fb : Nm → Nat) (fv : Nm → Value) (own : Nat → Option Role) (st : Nm → Option (List UInt8 × Nat)) (sz : Nat) (may : Value) (left : Int) (w : World) : Prop where
  cell : w.heap[d]? = some (.cells #[.map (some m), .int .i64 (sz : Int), may, .int .i64 left] 55 (0, 0))
  map : w.ownsMap Try.prog 9 flE m n D
  has : ∀ nm f, st nm = some f → D.atKey (.string nm) .nil = .lit (.int .u64 (fb nm : Int))
  hasnt : ∀ nm, st nm = none → Maps.has D (.string nm) = false
  file : ∀ nm f, st nm = some f → w.heap[fb nm]? = some (.cells #[fv nm, .int .i64 (f.2 : Int)] 74 (0, 0)) ∧ Ow B w (fv nm) f.1 ∧ f.2 ≤ f.1.length
  od : own d = some .disk
  om : own m = some .map
  ofl : ∀ nm f, st nm = some f → own (fb nm) = some (.file nm)
  ov : ∀ nm f b, st nm = some f → (fv nm).ownBlock = some b → own b = some (.data nm)
  lo : ∀ b, own b ≠ none → B ≤ b ∧ b < w.heap.size

/-- The disk. -/
def Dk (B d n : Nat) (own : Nat → Option Role) (st : Nm → Option (List UInt8 × Nat)) (sz : Nat) (may : Value) (left : Int) (w : World) : Prop :=
  ∃ m D fb fv, DkI B d n m D fb fv own st sz may left w

theorem DkI.next {B d n m : Nat} {D : DataW Unit} {fb : Nm → Nat} {fv : Nm → Value} {own : Nat → Option Role} {st : Nm → Option (List UInt8 × Nat)} {sz : Nat} {may : Value} {left : Int} {w w' : World} {S : Nat → Prop}
    (h : DkI B d n m D fb fv own st sz may left w) (hc : Chg S w w') (hS : ∀ b, own b ≠ none → ¬ S b) : DkI B d n m D fb fv own st sz may left w' := by
  have kp : ∀ b, own b ≠ none → w'.heap[b]? = w.heap[b]? := fun b hb => hc.block b (h.lo b hb).2 (hS b hb)
  refine ⟨by rw [kp d (by rw [h.od]; simp)]; exact h.cell, ?_, h.has, h.hasnt, fun nm f e => ?_, h.od, h.om, h.ofl, h.ov, fun b hb => ⟨(h.lo b hb).1, Nat.lt_of_lt_of_le (h.lo b hb).2 hc.size⟩⟩
  · obtain ⟨es, clock, hb, r⟩ := h.map
    exact ⟨es, clock, by rw [kp m (by rw [h.om]; simp)]; exact hb, r⟩
  · obtain ⟨h1, h2, h3⟩ := h.file nm f e
    refine ⟨by rw [kp _ (by rw [h.ofl nm f e]; simp)]; exact h1, h2.keptC hc (fun b hb => hS b (by rw [h.ov nm f b e hb]; simp)), h3⟩

theorem Dk.next {B d n : Nat} {own : Nat → Option Role} {st : Nm → Option (List UInt8 × Nat)} {sz : Nat} {may : Value} {left : Int} {w w' : World} {S : Nat → Prop}
    (h : Dk B d n own st sz may left w) (hc : Chg S w w') (hS : ∀ b, own b ≠ none → ¬ S b) : Dk B d n own st sz may left w' := by
  obtain ⟨m, D, fb, fv, h⟩ := h
  exact ⟨m, D, fb, fv, h.next hc hS⟩

/-- A look-up of a file that is there, and of one that isn't. -/
theorem DkI.look {B d n m : Nat} {D : DataW Unit} {fb : Nm → Nat} {fv : Nm → Value} {own : Nat → Option Role} {st : Nm → Option (List UInt8 × Nat)} {sz : Nat} {may : Value} {left : Int} {w : World}
    (h : DkI B d n m D fb fv own st sz may left w) (s : ByteArray) (hs : s.size ≤ maxLen) (f : List UInt8 × Nat) (e : st s.data.toList = some f) :
    (Instr.lookup 51 (.map (some m)) (.string s) false).run Try.prog w = .ok (.pointer (some ⟨fb s.data.toList, 0, none⟩)) w := by
  obtain ⟨v, ps, hrun, hv⟩ := h.map.lookup (t := 51) Try.strKeyed Try.underlying51 (Try.zeroFile w) (zd := .nil) (zp := []) rfl (key := .string s) (WideMaps.keyOf_string_mk Try.underlying9 hs)
  rw [h.has _ f e] at hv
  rw [hrun, flE_at hv]
theorem DkI.look_no {B d n m : Nat} {D : DataW Unit} {fb : Nm → Nat} {fv : Nm → Value} {own : Nat → Option Role} {st : Nm → Option (List UInt8 × Nat)} {sz : Nat} {may : Value} {left : Int} {w : World}
    (h : DkI B d n m D fb fv own st sz may left w) (s : ByteArray) (hs : s.size ≤ maxLen) (e : st s.data.toList = none) :
    (Instr.lookup 51 (.map (some m)) (.string s) false).run Try.prog w = .ok (.pointer none) w := by
  obtain ⟨v, ps, hrun, hv⟩ := h.map.lookup (t := 51) Try.strKeyed Try.underlying51 (Try.zeroFile w) (zd := .nil) (zp := []) rfl (key := .string s) (WideMaps.keyOf_string_mk Try.underlying9 hs)
  rw [Maps.atKey_of_not_has (h.hasnt _ e)] at hv
  rw [hrun, flE_nil hv]

/-- The value of the method 'alive' of the disk in block d. -/
def alive (d : Nat) : Value := .func (.func 24) #[.pointer (some ⟨d, 0, none⟩)] #[]

theorem alive_any (d : Nat) (x y : Int) (w : World) : Calls Try.prog 24 #[.pointer (some ⟨d, 0, none⟩), .int .i64 x, .int .i64 y] w fun e w' => e = .returned (.int .i64 y) ∧ w' = w := by
  go_enter Try.func24, Try.ntmps24
  go_wp2
  go_ret
  exact ⟨rfl, rfl⟩
end Go.Proofs.Ytbolnelbchffhac
