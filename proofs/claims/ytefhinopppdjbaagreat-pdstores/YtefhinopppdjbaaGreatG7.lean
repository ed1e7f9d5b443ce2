/- slices.Sort at uint64: what is asked of it, and of at most twelve numbers. -/
import Derived.Test.YtefhinopppdjbaaGreatG6
namespace Go.Proofs.YtefhinopppdjbaaGreat
open Go.RowKit Go.Sort
set_option linter.unusedVariables false
set_option maxRecDepth 100000

/-- What is asked of math/bits.Len: some number. -/
def LenOkI : Prop := ∀ (n : Nat) (W : World), n < 4611686018427387904 → Calls Tryz.prog 28 #[.int .u64 n] W fun e w' => ∃ r : Nat, r ≤ 64 ∧ e = .returned (.int .i64 r) ∧ w' = W
/-- What is asked of slices.Sort, of at most N numbers. -/
def SortsToI (N : Nat) : Prop := ∀ (B : Nat) (w : World) (v : Value) (l : List Int), Oj B w v l → l.length ≤ N → Calls Tryz.prog 30 #[v] w fun e w' => e = .returned (.tuple #[]) ∧ (∃ l', Oj B w' v l' ∧ l'.Perm l ∧ l'.Pairwise (fun x y => x ≤ y)) ∧ Chg (fun b => v.ownBlock = some b) w w'

theorem swo_ltI : SWO ltI where
  irrefl x := by simp [ltI]
  trans x y z h1 h2 := by simp only [ltI, decide_eq_true_eq] at *; omega
  ntrans x y z h1 h2 := by simp only [ltI, decide_eq_false_iff_not] at *; omega

theorem sortedI_of {d d' : Array Int} (hP : PermIn 0 d.size d d') (hS : SortedIn ltI 0 d.size d') : d'.size = d.size ∧ d'.toList.Perm d.toList ∧ d'.toList.Pairwise (fun x y => x ≤ y) := by
  obtain ⟨hsz, _, hperm⟩ := hP
  have e1 : d'.extract 0 d.size = d' := by rw [← hsz]; exact Array.extract_size
  rw [e1, Array.extract_size] at hperm
  refine ⟨hsz, hperm, ?_⟩
  rw [List.pairwise_iff_getElem]
  intro i j hi hj hij
  have hi' : i < d'.size := by simpa using hi
  have hj' : j < d'.size := by simpa using hj
  have := hS i j (Nat.zero_le _) hij (by omega)
  rw [getElem!_pos d' j hj', getElem!_pos d' i hi'] at this
  simp only [ltI, decide_eq_false_iff_not] at this
  simp only [Array.getElem_toList]
  omega

theorem pdqI_nil (r : Nat) (w : World) : Calls Tryz.prog 63 #[.slice none 0 0, .int .i64 0, .int .i64 0, .int .i64 r] w fun e w' => e = .returned (.tuple #[]) ∧ w' = w := by
  have hi : Calls Tryz.prog 87 #[.slice none 0 0, .int .i64 0, .int .i64 0] w fun e w' => e = .returned (.tuple #[]) ∧ w' = w := by
    go_enter Tryz.func87, Tryz.ntmps87
    go_wp2_with fail
    refine wp_loop_rounds 1 ?_
    rw [rounds_succ]
    go_wp2_with fail
    go_end0
    exact ⟨rfl, rfl⟩
  go_enter Tryz.func63, Tryz.ntmps63
  go_wp2_with fail
  refine wp_loop_rounds 1 ?_
  rw [rounds_succ]
  go_wp2_with fail
  refine hi.mono ?_
  rintro e w1 ⟨rfl, rfl⟩
  go_wp2_with fail
  refine bodyPost_ret (v := .tuple #[]) (by simp [results, Tryz.results63, go_sem]; try rfl) rfl ?_
  exact ⟨rfl, rfl⟩

theorem pdqI_small {B g c : Nat} {d : Array Int} {w : World} (h : RwI B g c d w) (r : Nat) (hd : d.size ≤ 12) : Calls Tryz.prog 63 #[.slice (some ⟨g, 0, none⟩) d.size c, .int .i64 0, .int .i64 d.size, .int .i64 r] w fun e w' => e = .returned (.tuple #[]) ∧ RwI B g c (insertionSort ltI d 0 d.size) w' ∧ Chg (fun x => x = g) w w' := by
  have hi := iins_any h 0 d.size (Nat.le_refl _) (Nat.zero_le _) (by omega)
  have hd2 : (d.size : Int) ≤ 12 := by omega
  go_enter Tryz.func63, Tryz.ntmps63
  go_wp2_with fail
  refine wp_loop_rounds 1 ?_
  rw [rounds_succ]
  go_wp2_with fail
  refine hi.mono ?_
  rintro e w1 ⟨rfl, hr, hc⟩
  go_wp2_with fail
  refine bodyPost_ret (v := .tuple #[]) (by simp [results, Tryz.results63, go_sem]; try rfl) rfl ?_
  exact ⟨rfl, hr, hc⟩

theorem isort_small (hlen : LenOkI) : SortsToI 12 := by
  intro B w v l ho hl
  rcases ho.blk with ⟨rfl, rfl⟩ | ⟨g, c, rfl, h1, h2, h3, h4, _⟩
  · go_enter Tryz.func30, Tryz.ntmps30
    go_wp2_with fail
    refine (hlen 0 w (by omega)).mono ?_
    rintro e w1 ⟨r, hr, rfl, rfl⟩
    go_wp2_with fail
    refine (pdqI_nil r _).mono ?_
    rintro e w2 ⟨rfl, rfl⟩
    go_wp2_with fail
    go_end0
    exact ⟨rfl, ⟨[], Oj.nil _ _, .refl _, .nil⟩, Chg.refl _ _⟩
  · have hRw : RwI B g c l.toArray w := by unfold RwI; simpa using ho
    have hsz : l.toArray.size = l.length := by simp
    have hp := fun r => pdqI_small hRw r (by rw [hsz]; exact hl)
    obtain ⟨hP, hS⟩ := insertionSort_holds (lt := ltI) swo_ltI l.toArray 0 l.toArray.size (Nat.zero_le _) (Nat.le_refl _)
    obtain ⟨q1, q2, q3⟩ := sortedI_of hP hS
    rw [hsz] at hp q1 q2 q3
    clear hP hS
    unfold maxLen at h2
    go_enter Tryz.func30, Tryz.ntmps30
    go_wp2_with fail
    refine (hlen l.length w (by omega)).mono ?_
    rintro e w1 ⟨r, hr, rfl, rfl⟩
    go_wp2_with fail
    refine (hp r).mono ?_
    rintro e w2 ⟨rfl, hw2, hc2⟩
    go_wp2_with fail
    go_end0
    refine ⟨rfl, ⟨_, ?_, by simpa using q2, q3⟩, hc2.mono (fun b _ q => by subst q; rfl)⟩
    unfold RwI at hw2
    rw [q1] at hw2
    exact hw2
end Go.Proofs.YtefhinopppdjbaaGreat
