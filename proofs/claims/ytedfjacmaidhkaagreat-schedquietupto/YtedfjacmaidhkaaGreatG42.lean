/- What Decide comes to where nothing is to be merged: region by region. -/
import Derived.Test.YtedfjacmaidhkaaGreatG41
import Derived.Test.YtedfjacmaidhkaaGreatG32
namespace Go.Proofs.YtedfjacmaidhkaaGreat
open Go.RowKit Go.Maps
set_option linter.unusedVariables false
set_option linter.unusedSimpArgs false
set_option maxRecDepth 100000

def NoM : Or → Bool → Prop := fun _ b => b = false
/-- One region is decided on. -/
def StepD (d : PL) (r : RV) (a b : PD × List Or) : Prop :=
  (((r.bz = true ∨ a.1.nm r.id.toNat = true) ∨ ∀ (j : Nat) T, (seven d a.1 r NoM)[j]? = some T → ∃ o, T o false) ∧ b = a) ∨
  (r.bz = false ∧ a.1.nm r.id.toNat = false ∧ ∃ (i : Nat) (S : Or → Bool → Prop) (o : Or), (seven d a.1 r NoM)[i]? = some S ∧ S o true ∧ (∀ (j : Nat) T, j < i → (seven d a.1 r NoM)[j]? = some T → ∃ o, T o false) ∧ b = ({ a.1 with ld := ldG a.1.ld o, nm := gPut a.1.nm o.reg }, a.2 ++ [o]))
inductive RunD (d : PL) : List RV → PD × List Or → PD × List Or → Prop
  | nil (a) : RunD d [] a a
  | cons {r : RV} {t : List RV} {a m b : PD × List Or} : StepD d r a m → RunD d t m b → RunD d (r :: t) a b
/-- A member of one of the rules' answers. -/
theorem first_st {lt : Pe → Pe → Bool} {ps : List Pe} {q : Pe × Bool} (h : FirstP lt ps q) (hd : ∀ e ∈ ps, i64 e.2.1) : i64 q.1.2.1 := by
  rcases h with ⟨_, rfl⟩ | ⟨_, h1, _⟩
  · unfold noPe i64; simp
  · exact hd _ h1
theorem only_mem {ps : List Pe} {oks : List (Pe → Bool)} {e : Pe} (h : e ∈ onlyF ps oks) : e ∈ ps := (List.mem_filter.1 h).1
theorem seven_ok {d : PL} {p : PD} {r : RV} (hdm : ∀ e ∈ r.ps, i64 e.2.1) (hsm : ∀ s ∈ p.ss, i64 s.1) : ∀ S ∈ seven d p r NoM, ∀ o, S o true → o.kind ≠ 6 ∧ i64 o.store ∧ o.reg < 18446744073709551616 := by
  have hid : r.id.toNat < 18446744073709551616 := r.id.toNat_lt
  have z0 : i64 0 := by unfold i64; omega
  intro S hS o ho
  simp only [seven, List.mem_cons, List.not_mem_nil, or_false] at hS
  have grow : ∀ b, GrowP p r o b → o.kind ≠ 6 ∧ i64 o.store ∧ o.reg < 18446744073709551616 := fun b hg => by
    obtain ⟨q, hq, _, rfl⟩ := hg
    exact ⟨by simp, first_st hq (fre_dom hsm), hid⟩
  rcases hS with rfl | rfl | rfl | rfl | rfl | rfl | rfl
  · unfold PromP at ho
    split at ho
    · cases ho
    · obtain ⟨q, hq, _, rfl⟩ := ho
      exact ⟨by simp, first_st hq (fun e he => hdm e (only_mem he)), hid⟩
  · unfold AddP at ho
    split at ho
    · cases ho
    · exact grow _ ho
  · obtain ⟨q, hq, ho⟩ := ho
    split at ho
    · cases ho
    · obtain ⟨u, hu, _, rfl⟩ := ho
      refine ⟨by simp, ?_, hid⟩
      split at hu
      · rw [hu]; exact first_st hq (fun e he => hdm e (only_mem he))
      · exact first_st hu (fun e he => hdm e (only_mem he))
  · obtain ⟨rfl, _⟩ := ho
    exact ⟨by simp, z0, hid⟩
  · cases ho
  · obtain ⟨b1, hg, _⟩ := ho
    exact grow _ hg
  · obtain ⟨q, hq, _, rfl⟩ := ho
    exact ⟨by simp, first_st hq (fun e he => hdm e (only_mem he)), hid⟩
theorem ldG_near (f : Int → Int) (o : Or) (s : Int) : f s - 1 ≤ ldG f o s ∧ ldG f o s ≤ f s + 1 := by
  unfold ldG
  split
  · unfold iPut; split <;> (try subst_vars) <;> omega
  · split
    · unfold iPut; split <;> (try subst_vars) <;> omega
    · omega
/-- Where no rule applies at any region, nothing is told. -/
theorem RunD.quiet {d : PL} {t : List RV} {a b : PD × List Or} (h : RunD d t a b) (hq : ∀ r ∈ t, r.bz = true ∨ ∀ S ∈ seven d a.1 r NoM, ∀ o, ¬ S o true) : b = a := by
  induction h with
  | nil a => rfl
  | cons hs _ ih =>
    rename_i r t a m b _
    have hm : m = a := by
      rcases hs with ⟨_, e⟩ | ⟨h1, _, i, S, o, h3, h4, _⟩
      · exact e
      · rcases hq r (List.mem_cons_self ..) with q | q
        · rw [q] at h1; cases h1
        · exact absurd h4 (q S (List.mem_of_getElem? h3) o)
    subst hm
    exact ih (fun r hr => hq r (List.mem_cons_of_mem _ hr))
end Go.Proofs.YtedfjacmaidhkaaGreat
