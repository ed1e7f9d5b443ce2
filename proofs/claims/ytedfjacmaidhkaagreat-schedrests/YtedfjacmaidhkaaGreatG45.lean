/- What an order leaves of a region's peers, and that it comes to an end. -/
import Derived.Test.YtedfjacmaidhkaaGreatG44
namespace Go.Proofs.YtedfjacmaidhkaaGreat
open Go.RowKit Go.Maps
set_option linter.unusedVariables false
set_option linter.unusedSimpArgs false
set_option maxRecDepth 100000

/-- What is left of one peer. -/
def rsS (o : Or) (q : Pe) : List Pe := if o.kind = 3 ∧ q.1.toNat = o.peer then [] else if o.kind = 2 ∧ q.1.toNat = o.peer then [(q.1, q.2.1, false)] else [q]
def rsT (o : Or) (ps : List Pe) : List Pe := ps.flatMap (rsS o)
def rsN (o : Or) (ps : List Pe) (nx : Nat) : List Pe := rsT o ps ++ if o.kind = 1 then [(UInt64.ofNat nx, o.store, true)] else []
theorem rsT_snoc (o : Or) (l : List Pe) (q : Pe) : rsT o (l ++ [q]) = rsT o l ++ rsS o q := by simp [rsT]
theorem rsT_id {o : Or} {ps : List Pe} (h : ∀ q ∈ ps, q.1.toNat ≠ o.peer) : rsT o ps = ps := by
  induction ps with
  | nil => rfl
  | cons a t ih =>
    have h1 := h a (List.mem_cons_self ..)
    show rsS o a ++ rsT o t = _
    rw [ih (fun q hq => h q (List.mem_cons_of_mem _ hq))]
    unfold rsS; rw [if_neg (fun q => h1 q.2), if_neg (fun q => h1 q.2)]; rfl
theorem rsT_one {o : Or} {ps : List Pe} (h : o.kind = 1) : rsT o ps = ps := by
  induction ps with
  | nil => rfl
  | cons a t ih =>
    show rsS o a ++ rsT o t = _
    rw [ih]
    unfold rsS; rw [if_neg (fun q => by rw [h] at q; exact absurd q.1 (by decide)), if_neg (fun q => by rw [h] at q; exact absurd q.1 (by decide))]; rfl
/-- Each peer that is left is one that was, perhaps turned. -/
theorem rsT_mem {o : Or} {ps : List Pe} {q : Pe} (h : q ∈ rsT o ps) : ∃ a ∈ ps, q.1 = a.1 ∧ q.2.1 = a.2.1 := by
  obtain ⟨a, ha, hq⟩ := List.mem_flatMap.1 h
  refine ⟨a, ha, ?_⟩
  unfold rsS at hq
  split at hq
  · cases hq
  · split at hq
    · rw [List.mem_singleton.1 hq]; exact ⟨rfl, rfl⟩
    · rw [List.mem_singleton.1 hq]; exact ⟨rfl, rfl⟩
theorem rsS_le (o : Or) (a : Pe) : (rsS o a).Pairwise (fun _ _ => False) := by
  unfold rsS
  split
  · exact List.Pairwise.nil
  · split <;> exact List.pairwise_singleton _ _
theorem rsT_pw {o : Or} {ps : List Pe} {R : Pe → Pe → Prop} (hR : ∀ a b c d : Pe, a.1 = c.1 → a.2.1 = c.2.1 → b.1 = d.1 → b.2.1 = d.2.1 → R c d → R a b) (h : ps.Pairwise R) : (rsT o ps).Pairwise R := by
  induction ps with
  | nil => exact List.Pairwise.nil
  | cons a t ih =>
    obtain ⟨h1, h2⟩ := List.pairwise_cons.1 h
    show (rsS o a ++ rsT o t).Pairwise R
    refine List.pairwise_append.2 ⟨(rsS_le o a).imp (fun q => q.elim), ih h2, fun x hx y hy => ?_⟩
    obtain ⟨b, hb, e1, e2⟩ := rsT_mem hy
    have hx' : x ∈ rsT o [a] := by simpa [rsT] using hx
    obtain ⟨c, hc, e3, e4⟩ := rsT_mem hx'
    obtain rfl := List.mem_singleton.1 hc
    exact hR x y c b e3 e4 e1 e2 (h1 b hb)
theorem cnt_app (a b : List Pe) : vtF (a ++ b) = vtF a + vtF b ∧ lnF (a ++ b) = lnF a + lnF b := by
  unfold vtF lnF; rw [List.filter_append, List.filter_append]; simp
/-- How the counts turn. -/
theorem rsT_cnt {o : Or} {q : Pe} : ∀ {ps : List Pe}, ps.Pairwise (fun a b => a.1.toNat < b.1.toNat) → q ∈ ps → q.1.toNat = o.peer → (o.kind = 2 → q.2.2 = true → lnF (rsT o ps) + 1 = lnF ps ∧ vtF (rsT o ps) = vtF ps + 1) ∧ (o.kind = 3 → q.2.2 = false → lnF (rsT o ps) = lnF ps ∧ vtF (rsT o ps) + 1 = vtF ps)
  | [], _, h, _ => by cases h
  | a :: t, hp, hq, he => by
    obtain ⟨h1, h2⟩ := List.pairwise_cons.1 hp
    have c0 := cnt_app (rsS o a) (rsT o t)
    have c1 := cnt_app [a] t
    have e0 : rsT o (a :: t) = rsS o a ++ rsT o t := rfl
    have e1 : a :: t = [a] ++ t := rfl
    rcases List.mem_cons.1 hq with rfl | hq
    · have ht : rsT o t = t := rsT_id (fun x hx => by have := h1 x hx; omega)
      rw [e0, e1, c0.1, c0.2, c1.1, c1.2, ht]
      obtain ⟨x, y, z⟩ := q
      refine ⟨fun hk hz => ?_, fun hk hz => ?_⟩
      · simp only [] at hz; subst hz
        have hs : rsS o (x, y, true) = [(x, y, false)] := by unfold rsS; rw [if_neg (fun e => by rw [hk] at e; exact absurd e.1 (by decide)), if_pos ⟨hk, he⟩]
        rw [hs]; simp [vtF, lnF]; omega
      · simp only [] at hz; subst hz
        have hs : rsS o (x, y, false) = [] := by unfold rsS; rw [if_pos ⟨hk, he⟩]
        rw [hs]; simp [vtF, lnF]; omega
    · have hne : ¬ a.1.toNat = o.peer := by have := h1 q hq; omega
      have hs : rsS o a = [a] := by unfold rsS; rw [if_neg (fun e => hne e.2), if_neg (fun e => hne e.2)]
      obtain ⟨i1, i2⟩ := rsT_cnt h2 hq he
      rw [e0, e1, c0.1, c0.2, c1.1, c1.2, hs]
      exact ⟨fun hk hz => by have := i1 hk hz; omega, fun hk hz => by have := i2 hk hz; omega⟩
def phi (N : Nat) (ps : List Pe) : Nat := 2 * lnF ps + (vtF ps - N) + 3 * (N - ps.length)
theorem phi_le {N nx : Nat} {ps : List Pe} (h5 : N ≤ 5) (hG : GP ps nx) : phi N ps ≤ 30 := by
  have := vt_ln ps
  have := hG.len
  unfold phi; omega
/-- The order is done. -/
theorem rest_next {N nx : Nat} {ps : List Pe} {o : Or} (h1 : 1 ≤ N) (h5 : N ≤ 5) (hG : GP ps nx) (hv : 0 < vtF ps) (hn : 0 < nx) (hnx : nx < 1000000) (h : RestP N ps [o]) :
    GP (rsN o ps nx) (if o.kind = 1 then nx + 1 else nx) ∧ 0 < vtF (rsN o ps nx) ∧ phi N (rsN o ps nx) + 1 ≤ phi N ps ∧ (o.kind = 1 ∧ (rsN o ps nx).length = ps.length + 1 ∨ o.kind = 2 ∧ (rsN o ps nx).length = ps.length ∨ o.kind = 3 ∧ (rsN o ps nx).length + 1 = ps.length ∧ ∃ q ∈ ps, q.2.2 = false ∧ o.store = q.2.1 ∧ o.peer = q.1.toNat) := by
  have pwr : (rsT o ps).Pairwise (fun a b => a.1.toNat < b.1.toNat) := rsT_pw (fun a b c d e1 _ e2 _ q => by rw [e1, e2]; exact q) hG.ris
  have pws : (rsT o ps).Pairwise (fun a b => a.2.1 ≠ b.2.1) := rsT_pw (fun a b c d _ e1 _ e2 q => by rw [e1, e2]; exact q) hG.st
  have pos : ∀ q ∈ rsT o ps, 0 < q.1.toNat ∧ q.1.toNat < nx := fun q hq => by obtain ⟨a, ha, e, _⟩ := rsT_mem hq; rw [e]; exact hG.pos a ha
  have dom : ∀ q ∈ rsT o ps, 1 ≤ q.2.1 ∧ q.2.1 ≤ 5 := fun q hq => by obtain ⟨a, ha, _, e⟩ := rsT_mem hq; rw [e]; exact hG.dom a ha
  have v0 := vt_ln ps
  have v1 := vt_ln (rsN o ps nx)
  cases h with
  | prom q hq hl hvn =>
    have hk : rsN ⟨2, 5, q.2.1, q.1.toNat, 0⟩ ps nx = rsT ⟨2, 5, q.2.1, q.1.toNat, 0⟩ ps := by unfold rsN; rw [if_neg (by show ¬ (2 : Int) = 1; decide), List.append_nil]
    rw [hk] at *
    obtain ⟨c1, c2⟩ := (rsT_cnt (o := ⟨2, 5, q.2.1, q.1.toNat, 0⟩) hG.ris hq rfl).1 rfl hl
    have v2 := vt_ln (rsT ⟨2, 5, q.2.1, q.1.toNat, 0⟩ ps)
    refine ⟨?_, by omega, by unfold phi; omega, .inr (.inl ⟨rfl, by omega⟩)⟩
    rw [if_neg (by show ¬ (2 : Int) = 1; decide)]
    exact ⟨pwr, pos, pws, dom⟩
  | add s s1 s5 hs hlt =>
    have hid : rsT ⟨1, 5, s, 0, 0⟩ ps = ps := rsT_one rfl
    have hk : rsN ⟨1, 5, s, 0, 0⟩ ps nx = ps ++ [(UInt64.ofNat nx, s, true)] := by unfold rsN; rw [hid, if_pos rfl]
    have hnn : (UInt64.ofNat nx).toNat = nx := by rw [UInt64.toNat_ofNat']; omega
    rw [hk] at *
    have c := cnt_app ps [(UInt64.ofNat nx, s, true)]
    have c3 : vtF [(UInt64.ofNat nx, s, true)] = 0 ∧ lnF [(UInt64.ofNat nx, s, true)] = 1 := by simp [vtF, lnF]
    refine ⟨?_, by omega, by unfold phi; rw [List.length_append, List.length_singleton]; omega, .inl ⟨rfl, by simp⟩⟩
    rw [if_pos rfl]
    refine ⟨List.pairwise_append.2 ⟨hG.ris, List.pairwise_singleton _ _, fun x hx y hy => ?_⟩, fun x hx => ?_, List.pairwise_append.2 ⟨hG.st, List.pairwise_singleton _ _, fun x hx y hy => ?_⟩, fun x hx => ?_⟩
    · rw [List.mem_singleton.1 hy]; show x.1.toNat < (UInt64.ofNat nx).toNat; rw [hnn]; exact (hG.pos x hx).2
    · rcases List.mem_append.1 hx with hx | hx
      · have := hG.pos x hx; omega
      · rw [List.mem_singleton.1 hx]; show 0 < (UInt64.ofNat nx).toNat ∧ (UInt64.ofNat nx).toNat < nx + 1; rw [hnn]; omega
    · rw [List.mem_singleton.1 hy]; exact hs x hx
    · rcases List.mem_append.1 hx with hx | hx
      · exact hG.dom x hx
      · rw [List.mem_singleton.1 hx]; exact ⟨s1, s5⟩
  | rem q hq hl hvn =>
    have hk : rsN ⟨3, 5, q.2.1, q.1.toNat, 0⟩ ps nx = rsT ⟨3, 5, q.2.1, q.1.toNat, 0⟩ ps := by unfold rsN; rw [if_neg (by show ¬ (3 : Int) = 1; decide), List.append_nil]
    rw [hk] at *
    obtain ⟨c1, c2⟩ := (rsT_cnt (o := ⟨3, 5, q.2.1, q.1.toNat, 0⟩) hG.ris hq rfl).2 rfl hl
    have v2 := vt_ln (rsT ⟨3, 5, q.2.1, q.1.toNat, 0⟩ ps)
    refine ⟨?_, by omega, by unfold phi; omega, .inr (.inr ⟨rfl, by omega, q, hq, hl, rfl, rfl⟩)⟩
    rw [if_neg (by show ¬ (3 : Int) = 1; decide)]
    exact ⟨pwr, pos, pws, dom⟩
end Go.Proofs.YtedfjacmaidhkaaGreat
