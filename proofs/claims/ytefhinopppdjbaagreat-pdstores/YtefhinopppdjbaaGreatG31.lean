/- slices.Sort at uint64: what is asked of it, and of at most twelve numbers. -/
import Derived.Test.YtefhinopppdjbaaGreatG29
namespace Go.Proofs.YtefhinopppdjbaaGreat
open Go.RowKit Go.Sort
set_option linter.unusedVariables false
set_option maxRecDepth 100000

/-- What is asked of math/bits.Len: some number. -/
def LenOk : Prop := ∀ (n : Nat) (W : World), n < 4611686018427387904 → Calls Tryz.prog 28 #[.int .u64 n] W fun e w' => ∃ r : Nat, r ≤ 64 ∧ e = .returned (.int .i64 r) ∧ w' = W
/-- What is asked of slices.Sort, of at most N numbers. -/
def SortsTo (N : Nat) : Prop := ∀ (B : Nat) (w : World) (v : Value) (l : List UInt64), Ou B w v l → l.length ≤ N → Calls Tryz.prog 14 #[v] w fun e w' => e = .returned (.tuple #[]) ∧ (∃ l', Ou B w' v l' ∧ l'.Perm l ∧ l'.Pairwise (fun x y => x.toNat ≤ y.toNat)) ∧ Chg (fun b => v.ownBlock = some b) w w'

theorem swo_ltU : SWO ltU where
  irrefl x := by simp [ltU]
  trans x y z h1 h2 := by simp only [ltU, decide_eq_true_eq] at *; omega
  ntrans x y z h1 h2 := by simp only [ltU, decide_eq_false_iff_not] at *; omega

theorem sorted_of {d d' : Array UInt64} (hP : PermIn 0 d.size d d') (hS : SortedIn ltU 0 d.size d') : d'.size = d.size ∧ d'.toList.Perm d.toList ∧ d'.toList.Pairwise (fun x y => x.toNat ≤ y.toNat) := by
  obtain ⟨hsz, _, hperm⟩ := hP
  have e1 : d'.extract 0 d.size = d' := by rw [← hsz]; exact Array.extract_size
  rw [e1, Array.extract_size] at hperm
  refine ⟨hsz, hperm, ?_⟩
  rw [List.pairwise_iff_getElem]
  intro i j hi hj hij
  have hi' : i < d'.size := by simpa using hi
  have hj' : j < d'.size := by simpa using hj
  have := hS i j (Nat.zero_le _) hij (by omega)
  rw [getElem!_pos d' j hj', getElem!_pos d' i hi'] at this
  simp only [ltU, decide_eq_false_iff_not] at this
  simp only [Array.getElem_toList]
  omega

theorem pdq_nil (r : Nat) (w : World) : Calls Tryz.prog 27 #[.slice none 0 0, .int .i64 0, .int .i64 0, .int .i64 r] w fun e w' => e = .returned (.tuple #[]) ∧ w' = w := by
  have hi : Calls Tryz.prog 51 #[.slice none 0 0, .int .i64 0, .int .i64 0] w fun e w' => e = .returned (.tuple #[]) ∧ w' = w := by
    go_enter Tryz.func51, Tryz.ntmps51
    go_wp2_with fail
    refine wp_loop_rounds 1 ?_
    rw [rounds_succ]
    go_wp2_with fail
    go_end0
    exact ⟨rfl, rfl⟩
  go_enter Tryz.func27, Tryz.ntmps27
  go_wp2_with fail
  refine wp_loop_rounds 1 ?_
  rw [rounds_succ]
  go_wp2_with fail
  refine hi.mono ?_
  rintro e w1 ⟨rfl, rfl⟩
  go_wp2_with fail
  refine bodyPost_ret (v := .tuple #[]) (by simp [results, Tryz.results27, go_sem]; try rfl) rfl ?_
  exact ⟨rfl, rfl⟩

theorem pdq_small {B g c : Nat} {d : Array UInt64} {w : World} (h : Rw B g c d w) (r : Nat) (hd : d.size ≤ 12) : Calls Tryz.prog 27 #[.slice (some ⟨g, 0, none⟩) d.size c, .int .i64 0, .int .i64 d.size, .int .i64 r] w fun e w' => e = .returned (.tuple #[]) ∧ Rw B g c (insertionSort ltU d 0 d.size) w' ∧ Chg (fun x => x = g) w w' := by
  have hi := uins_any h 0 d.size (Nat.le_refl _) (Nat.zero_le _) (by omega)
  have hd2 : (d.size : Int) ≤ 12 := by omega
  go_enter Tryz.func27, Tryz.ntmps27
  go_wp2_with fail
  refine wp_loop_rounds 1 ?_
  rw [rounds_succ]
  go_wp2_with fail
  refine hi.mono ?_
  rintro e w1 ⟨rfl, hr, hc⟩
  go_wp2_with fail
  refine bodyPost_ret (v := .tuple #[]) (by simp [results, Tryz.results27, go_sem]; try rfl) rfl ?_
  exact ⟨rfl, hr, hc⟩

theorem usort_small (hlen : LenOk) : SortsTo 12 := by
  intro B w v l ho hl
  rcases ho.blk with ⟨rfl, rfl⟩ | ⟨g, c, rfl, h1, h2, h3, h4, _⟩
  · go_enter Tryz.func14, Tryz.ntmps14
    go_wp2_with fail
    refine (hlen 0 w (by omega)).mono ?_
    rintro e w1 ⟨r, hr, rfl, rfl⟩
    go_wp2_with fail
    refine (pdq_nil r _).mono ?_
    rintro e w2 ⟨rfl, rfl⟩
    go_wp2_with fail
    go_end0
    exact ⟨rfl, ⟨[], Ou.nil _ _, .refl _, .nil⟩, Chg.refl _ _⟩
  · have hRw : Rw B g c l.toArray w := by unfold Rw; simpa using ho
    have hsz : l.toArray.size = l.length := by simp
    have hp := fun r => pdq_small hRw r (by rw [hsz]; exact hl)
    obtain ⟨hP, hS⟩ := insertionSort_holds (lt := ltU) swo_ltU l.toArray 0 l.toArray.size (Nat.zero_le _) (Nat.le_refl _)
    obtain ⟨q1, q2, q3⟩ := sorted_of hP hS
    rw [hsz] at hp q1 q2 q3
    clear hP hS
    unfold maxLen at h2
    go_enter Tryz.func14, Tryz.ntmps14
    go_wp2_with fail
    refine (hlen l.length w (by omega)).mono ?_
    rintro e w1 ⟨r, hr, rfl, rfl⟩
    go_wp2_with fail
    refine (hp r).mono ?_
    rintro e w2 ⟨rfl, hw2, hc2⟩
    go_wp2_with fail
    go_end0
    refine ⟨rfl, ⟨_, ?_, by simpa using q2, q3⟩, hc2.mono (fun b _ q => by subst q; rfl)⟩
    unfold Rw at hw2
    rw [q1] at hw2
    exact hw2
end Go.Proofs.YtefhinopppdjbaaGreat
