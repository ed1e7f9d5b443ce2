/- The seven rules as decide meets them: where nothing is to be merged. -/
import Derived.Test.YtedfjacmaidhkaaGreatG36
import Derived.Test.YtedfjacmaidhkaaGreatG34
import Derived.Test.YtedfjacmaidhkaaGreatG25
import Derived.Test.YtedfjacmaidhkaaGreatG35
import Derived.Test.YtedfjacmaidhkaaGreatG37
import Derived.Test.YtedfjacmaidhkaaGreatG39
import Derived.Test.YtedfjacmaidhkaaGreatG27
import Derived.Test.YtedfjacmaidhkaaGreatG26
import Derived.Test.YtedfjacmaidhkaaGreatG31
namespace Go.Proofs.YtedfjacmaidhkaaGreat
open Go.RowKit Go.Maps
set_option linter.unusedVariables false
set_option linter.unusedSimpArgs false
set_option maxRecDepth 100000
def seven (d : PL) (p : PD) (r : RV) (MM : Or → Bool → Prop) : List (Or → Bool → Prop) := [PromP d p r, AddP d p r, RemP d p r, SplP d r, MM, BalP p r, LeadP p r]
section
variable {K x : Nat} {d : PL} {p : PD} {os : List Or} {w0 w : World} {r : RV} {g : Nat} {MM : Or → Bool → Prop}
theorem seven_rd (h : Ful K w0 x d p os w) (hg : w.heap[g]? = some (.cells (rul x) 92 (0, 0))) (hr : It9 w0 r) (hdm : ∀ e ∈ r.ps, i64 e.2.1) (hl : r.ps.length ≤ 1099511627000) (hsm : ∀ s ∈ p.ss, i64 s.1) (hsl : p.ss.length ≤ 1099511627000) (hlo : sm62 p.ld) (hrl : i64 r.ld) (hle : sm62 p.le)
    (hmm : ∀ W, Below w.heap.size w W → Calls Tryz.prog 42 #[.pointer (some ⟨x, 0, none⟩), .agg (r9 r)] W fun e w' => RuA W MM e w') : RdRu w x r (.slice (some ⟨g, 0, none⟩) 7 7) (seven d p r MM) := by
  have hP : ∀ W, Below w.heap.size w W → Pln x d p W := fun W hW => (h.below hW).pln
  have hI : ∀ W, Below w.heap.size w W → It9 W r := fun W hW => hr.below (h.below hW).bl (Nat.le_refl _)
  have hc : ∀ (i : Nat) u, (rul x)[i]? = some u → w.cell? ((⟨g, 0, none⟩ : Addr).add i) = some u := fun i u hu => by
    rw [Addr.add_lit, Nat.zero_add, cell_of_row _ _ _ _ _ _ hg]; exact hu
  refine ⟨⟨g, 0, none⟩, 7, rfl, Nat.le_refl 7, by decide, fun i S hS => ?_⟩
  match i with
  | 0 => obtain rfl := Option.some.inj hS; exact ⟨_, hc 0 _ rfl, fun _ _ => rfl, fun W hW => promote_any (hP W hW) (hI W hW) hdm hl⟩
  | 1 => obtain rfl := Option.some.inj hS; exact ⟨_, hc 1 _ rfl, fun _ _ => rfl, fun W hW => add_any (hP W hW) (hI W hW) hdm hl hsm hsl⟩
  | 2 => obtain rfl := Option.some.inj hS; exact ⟨_, hc 2 _ rfl, fun _ _ => rfl, fun W hW => remove_any (hP W hW) (hI W hW) hdm hl⟩
  | 3 => obtain rfl := Option.some.inj hS; exact ⟨_, hc 3 _ rfl, fun _ _ => rfl, fun W hW => split_any (hP W hW) (hI W hW)⟩
  | 4 => obtain rfl := Option.some.inj hS; exact ⟨_, hc 4 _ rfl, fun _ _ => rfl, fun W hW => hmm W hW⟩
  | 5 => obtain rfl := Option.some.inj hS; exact ⟨_, hc 5 _ rfl, fun _ _ => rfl, fun W hW => balance_any (hP W hW) (hI W hW) hdm hl hsm hsl hlo⟩
  | 6 => obtain rfl := Option.some.inj hS; exact ⟨_, hc 6 _ rfl, fun _ _ => rfl, fun W hW => lead_any (hP W hW) (hI W hW) hdm hl hrl hle⟩
  | i + 7 => simp [seven] at hS
end
end Go.Proofs.YtedfjacmaidhkaaGreat

/- What Decide comes to where nothing is to be merged: region by region. -/
namespace Go.Proofs.YtedfjacmaidhkaaGreat
open Go.RowKit Go.Maps
set_option linter.unusedVariables false
set_option linter.unusedSimpArgs false
set_option maxRecDepth 100000

def NoM : Or → Bool → Prop := fun _ b => b = false
/-- One region is decided on. -/
def StepD (d : PL) (r : RV) (a b : PD × List Or) : Prop :=
  (((r.bz = true ∨ a.1.nm r.id.toNat = true) ∨ ∀ (j : Nat) T, (seven d a.1 r NoM)[j]? = some T → ∃ o, T o false) ∧ b = a) ∨
  (r.bz = false ∧ a.1.nm r.id.toNat = false ∧ ∃ (i : Nat) (S : Or → Bool → Prop) (o : Or), (seven d a.1 r NoM)[i]? = some S ∧ S o true ∧ (∀ (j : Nat) T, j < i → (seven d a.1 r NoM)[j]? = some T → ∃ o, T o false) ∧ b = ({ a.1 with ld := ldG a.1.ld o, nm := gPut a.1.nm o.reg }, a.2 ++ [o]))
inductive RunD (d : PL) : List RV → PD × List Or → PD × List Or → Prop
  | nil (a) : RunD d [] a a
  | cons {r : RV} {t : List RV} {a m b : PD × List Or} : StepD d r a m → RunD d t m b → RunD d (r :: t) a b
/-- A member of one of the rules' answers. -/
theorem first_st {lt : Pe → Pe → Bool} {ps : List Pe} {q : Pe × Bool} (h : FirstP lt ps q) (hd : ∀ e ∈ ps, i64 e.2.1) : i64 q.1.2.1 := by
  rcases h with ⟨_, rfl⟩ | ⟨_, h1, _⟩
  · unfold noPe i64; simp
  · exact hd _ h1
theorem only_mem {ps : List Pe} {oks : List (Pe → Bool)} {e : Pe} (h : e ∈ onlyF ps oks) : e ∈ ps := (List.mem_filter.1 h).1
theorem seven_ok {d : PL} {p : PD} {r : RV} (hdm : ∀ e ∈ r.ps, i64 e.2.1) (hsm : ∀ s ∈ p.ss, i64 s.1) : ∀ S ∈ seven d p r NoM, ∀ o, S o true → o.kind ≠ 6 ∧ i64 o.store ∧ o.reg < 18446744073709551616 := by
  have hid : r.id.toNat < 18446744073709551616 := r.id.toNat_lt
  have z0 : i64 0 := by unfold i64; omega
  intro S hS o ho
  simp only [seven, List.mem_cons, List.not_mem_nil, or_false] at hS
  have grow : ∀ b, GrowP p r o b → o.kind ≠ 6 ∧ i64 o.store ∧ o.reg < 18446744073709551616 := fun b hg => by
    obtain ⟨q, hq, _, rfl⟩ := hg
    exact ⟨by simp, first_st hq (fre_dom hsm), hid⟩
  rcases hS with rfl | rfl | rfl | rfl | rfl | rfl | rfl
  · unfold PromP at ho
    split at ho
    · cases ho
    · obtain ⟨q, hq, _, rfl⟩ := ho
      exact ⟨by simp, first_st hq (fun e he => hdm e (only_mem he)), hid⟩
  · unfold AddP at ho
    split at ho
    · cases ho
    · exact grow _ ho
  · obtain ⟨q, hq, ho⟩ := ho
    split at ho
    · cases ho
    · obtain ⟨u, hu, _, rfl⟩ := ho
      refine ⟨by simp, ?_, hid⟩
      split at hu
      · rw [hu]; exact first_st hq (fun e he => hdm e (only_mem he))
      · exact first_st hu (fun e he => hdm e (only_mem he))
  · obtain ⟨rfl, _⟩ := ho
    exact ⟨by simp, z0, hid⟩
  · cases ho
  · obtain ⟨b1, hg, _⟩ := ho
    exact grow _ hg
  · obtain ⟨q, hq, _, rfl⟩ := ho
    exact ⟨by simp, first_st hq (fun e he => hdm e (only_mem he)), hid⟩
theorem ldG_near (f : Int → Int) (o : Or) (s : Int) : f s - 1 ≤ ldG f o s ∧ ldG f o s ≤ f s + 1 := by
  unfold ldG
  split
  · unfold iPut; split <;> (try subst_vars) <;> omega
  · split
    · unfold iPut; split <;> (try subst_vars) <;> omega
    · omega
/-- Where no rule applies at any region, nothing is told. -/
theorem RunD.quiet {d : PL} {t : List RV} {a b : PD × List Or} (h : RunD d t a b) (hq : ∀ r ∈ t, r.bz = true ∨ ∀ S ∈ seven d a.1 r NoM, ∀ o, ¬ S o true) : b = a := by
  induction h with
  | nil a => rfl
  | cons hs _ ih =>
    rename_i r t a m b _
    have hm : m = a := by
      rcases hs with ⟨_, e⟩ | ⟨h1, _, i, S, o, h3, h4, _⟩
      · exact e
      · rcases hq r (List.mem_cons_self ..) with q | q
        · rw [q] at h1; cases h1
        · exact absurd h4 (q S (List.mem_of_getElem? h3) o)
    subst hm
    exact ih (fun r hr => hq r (List.mem_cons_of_mem _ hr))
end Go.Proofs.YtedfjacmaidhkaaGreat
