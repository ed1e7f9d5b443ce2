/- Words for DiskNames: the states that it goes through. -/
import Derived.Test.YtbolnelbchffhacDkAwake
import Derived.Test.YtbolnelbchffhacDkRename
import Derived.Test.YtbolnelbchffhacOpenB
import Derived.ProofKit
import Derived.OpenShut
import Derived.ChangeOld
import Derived.SizedLaws
namespace Go.Proofs.Ytbolnelbchffhac
open Go.ChangeShapes Go.WideShapes Go.ChangeAt Go.RowKit
set_option linter.unusedVariables false
set_option maxRecDepth 100000

/-- An operation whose guard lets it by is carried out as one without a guard. -/
theorem wpList_unguard {P : Program} {w : World} {ops : Array Oper} {rest : List Oper} {o : Oper} {a : Act} {Q : Exit → Act → World → Prop} (hw : Region.wanted o (yielded ops a.tmps) = true) (h : wpList P ops Q ({ o with guard := none } :: rest) a w) : wpList P ops Q (o :: rest) a w := by
  unfold wpList at h ⊢
  rw [if_pos hw]
  rw [if_pos (by rfl)] at h
  exact h

theorem rdI_nil (w : World) : RdI w (.slice none 0 0) [] := ⟨none, 0, rfl, by simp, by simp, fun i hi => by simp at hi⟩

section
variable {B d n : Nat} {own : Nat → Option Role} {st : Nm → Option (List UInt8 × Nat)} {sz : Nat} {left : Int} {w : World}
/-- Read of a file that isn't there. -/
theorem read_no (h : Dk B d n own st sz (alive d) left w) (s : ByteArray) (hs : s.size ≤ maxLen) (e : st s.data.toList = none) :
    Calls Try.prog 16 #[.pointer (some ⟨d, 0, none⟩), .string s] w fun e w' => e = .returned (.tuple #[.slice none 0 0, .int .i64 20]) ∧ ∃ q, w' = w.drewN q := by
  have hrf := fun q => refuseFile_any (h.drN q) s hs
  simp only [e, if_true] at hrf
  obtain ⟨m, D, fb, fv, h⟩ := h
  have c2 : w.cell? ⟨d, 2, none⟩ = some (.func (.func 24) #[.pointer (some ⟨d, 0, none⟩)] #[]) := by rw [cell_of_row _ _ _ _ _ _ h.cell]; rfl
  go_enter Try.func16, Try.ntmps16
  go_wp2_with fail
  go_quiet (first | (go_at_call 40; refine Calls.quiet_of (v := .int .i64 20) (hrf _)) | (go_at_call 24; refine Calls.quiet_of_same (v := .int .i64 20) (alive_any _ _ _ _)) | fail)
  go_wp2_with fail
  go_ret2
  exact ⟨rfl, _, rfl⟩
end

def PP : Nm := [112]
def QQ : Nm := [113]
def sp1 (f : List UInt8 × Nat) : St := setF none0 PP (some f)
def sp2 (f g : List UInt8 × Nat) : St := setF (sp1 f) QQ (some g)
theorem sp1_at (f : List UInt8 × Nat) : sp1 f PP = some f := setF_same _ _ _
theorem sp1_set (f g : List UInt8 × Nat) : setF (sp1 f) PP (some g) = sp1 g := setF_setF _ _ _ _
theorem sp2_file (f g : List UInt8 × Nat) : sp2 f g PP = some f := by
  unfold sp2; rw [setF_other _ _ (by decide)]; exact sp1_at f
theorem sp2_new (f g : List UInt8 × Nat) : sp2 f g QQ = some g := setF_same _ _ _
theorem sp2_setF (f g h : List UInt8 × Nat) : setF (sp2 f g) PP (some h) = sp2 h g := by
  funext k
  by_cases h1 : k = PP
  · subst h1; rw [setF_same, sp2_file]
  · rw [setF_other _ _ h1]
    by_cases h2 : k = QQ
    · subst h2; rw [sp2_new, sp2_new]
    · unfold sp2 sp1; rw [setF_other _ _ h2, setF_other _ _ h2, setF_other _ _ h1, setF_other _ _ h1]
theorem sp2_setN (f g h : List UInt8 × Nat) : setF (sp2 f g) QQ (some h) = sp2 f h := setF_setF _ _ _ _
theorem sp2_names (f g : List UInt8 × Nat) : NamesOf (sp2 f g) [PP, QQ] := by
  refine ⟨fun nm => ?_, by decide, by simp only [List.pairwise_cons, List.mem_singleton, forall_eq, List.not_mem_nil, false_implies, implies_true, List.Pairwise.nil, and_true]; decide⟩
  by_cases h1 : nm = PP
  · subst h1; simp [sp2_file]
  · by_cases h2 : nm = QQ
    · subst h2; simp [sp2_new]
    · simp [h1, h2, sp2, sp1, setF_other _ _ h1, setF_other _ _ h2, none0]
theorem sp2_small (f g : List UInt8 × Nat) (hf : f.1.length ≤ 16777216) (hg : g.1.length ≤ 16777216) : ∀ nm x, sp2 f g nm = some x → x.1.length ≤ 16777216 := by
  intro nm x e
  by_cases h1 : nm = PP
  · subst h1; rw [sp2_file] at e; obtain rfl := Option.some.inj e; exact hf
  · by_cases h2 : nm = QQ
    · subst h2; rw [sp2_new] at e; obtain rfl := Option.some.inj e; exact hg
    · simp [sp2, sp1, setF_other _ _ h1, setF_other _ _ h2, none0] at e
theorem sp2_sum (f g : List UInt8 × Nat) : sumB (sp2 f g) [PP, QQ] = f.1.length + g.1.length := by simp [sumB, sp2_file, sp2_new]


/-- The file under its new name alone. -/
def sq (f : List UInt8 × Nat) : St := setF none0 QQ (some f)
theorem sq_at (f : List UInt8 × Nat) : sq f QQ = some f := setF_same _ _ _
theorem sq_of (f g : List UInt8 × Nat) : setF (setF (sp2 f g) PP none) QQ (some f) = sq f := by
  funext k
  by_cases h2 : k = QQ
  · subst h2; rw [setF_same, sq_at]
  · rw [setF_other _ _ h2]
    by_cases h1 : k = PP
    · subst h1; rw [setF_same]; unfold sq; rw [setF_other _ _ h2]; rfl
    · rw [setF_other _ _ h1]; unfold sp2 sp1 sq; rw [setF_other _ _ h2, setF_other _ _ h1, setF_other _ _ h2]
theorem sq_no (f : List UInt8 × Nat) : sq f PP = none := by unfold sq; rw [setF_other _ _ (by decide)]; rfl
theorem sq_set (f g : List UInt8 × Nat) : setF (sq f) QQ (some g) = sq g := setF_setF _ _ _ _
theorem sq_names (f : List UInt8 × Nat) : NamesOf (sq f) [QQ] := by
  refine ⟨fun nm => ?_, by simp, by simp⟩
  by_cases h : nm = QQ
  · subst h; simp [sq_at]
  · simp [h, sq, setF_other _ _ h, none0]
theorem sq_small (f : List UInt8 × Nat) (hf : f.1.length ≤ 16777216) : ∀ nm x, sq f nm = some x → x.1.length ≤ 16777216 := by
  intro nm x e
  by_cases h : nm = QQ
  · subst h; rw [sq_at] at e; obtain rfl := Option.some.inj e; exact hf
  · simp [sq, setF_other _ _ h, none0] at e
theorem sp2_over (f g : List UInt8 × Nat) : setF (sp2 f g) PP none QQ = some g := by rw [setF_other _ _ (by decide)]; exact sp2_new f g
theorem sp2_again (f g : List UInt8 × Nat) : setF (setF (sp2 f g) PP none) PP (some f) = sp2 f g := by rw [setF_setF, sp2_setF]

theorem take_own (a m : List UInt8) : (a ++ m).take a.length = a := List.take_left' rfl
theorem crash_q (a m : List UInt8) (sz : Nat) : crashF [QQ] [] 0 (sq (a ++ m, a.length)) sz = (sq (a, a.length), sz - m.length) := by
  by_cases h : m = []
  · subst h; simp [crashF, sq_at]
  · have hp : 0 < m.length := List.length_pos_iff.2 h
    have hne : ¬ a.length = (a ++ m).length := by rw [List.length_append]; omega
    have hl : (a ++ m).length - a.length = m.length := by rw [List.length_append]; omega
    have hs0 : stays (keepAt [] 0) m.length = 0 := by simp [stays, keepAt]
    rw [crashF, sq_at]
    simp only [if_neg hne, hl, hs0, Nat.add_zero, take_own, sq_set, Nat.sub_zero, crashF]
theorem crash_pq (a m b : List UInt8) (sz : Nat) : crashF [PP, QQ] [] 0 (sp2 (a ++ m, a.length) (b, b.length)) sz = (sp2 (a, a.length) (b, b.length), sz - m.length) := by
  by_cases h : m = []
  · subst h; simp [crashF, sp2_file, sp2_new]
  · have hp : 0 < m.length := List.length_pos_iff.2 h
    have hne : ¬ a.length = (a ++ m).length := by rw [List.length_append]; omega
    have hl : (a ++ m).length - a.length = m.length := by rw [List.length_append]; omega
    have hs0 : stays (keepAt [] 0) m.length = 0 := by simp [stays, keepAt]
    rw [crashF, sp2_file]
    simp only [if_neg hne, hl, hs0, Nat.add_zero, take_own, sp2_setF, Nat.sub_zero]
    rw [crashF, sp2_new]
    simp only [if_true, crashF]

theorem lcopy_any {v : Value} {l : List UInt8} {w : World} (hr : Rd w v l) (hl : l.length ≤ 140737488355328) :
    Calls Try.prog 15 #[v] w fun e w' => ∃ v', e = .returned v' ∧ Ow w.heap.size w' v' l ∧ Below w.heap.size w w' := by
  go_enter Try.func15, Try.ntmps15
  go_wp2_with (first | (at_builtin; refine wpList_app rfl _ _ rfl w.heap.size _ [] rfl (Ow.nil _ _) _ l rfl hr (Nat.le_refl _) (by simpa using hl) ?_; intro v' w' ho' hb' hg') | fail)
  go_ret
  exact ⟨_, rfl, ho', hb'⟩
end Go.Proofs.Ytbolnelbchffhac
