/- slices.Insert of one edge. -/
import Derived.Test.YtipnghaphfgalaaG26
import Derived.Deep.RegionLaw
namespace Go.Proofs.Ytipnghaphfgalaa
open Go.RowKit
set_option linter.unusedVariables false
set_option maxRecDepth 100000

/-- What Insert answers. -/
def InsP (B : Nat) (w : World) (v : Value) (E : List Ed) (i : Nat) (e : Ed) (r : Ending) (w' : World) : Prop := ∃ v', r = .returned v' ∧ OwE B w' v' (E.take i ++ e :: E.drop i) ∧ Chg (fun b => v.ownBlock = some b) w w' ∧ (v'.ownBlock = v.ownBlock ∨ ∃ b, v'.ownBlock = some b ∧ w.heap.size ≤ b)
section
variable {B : Nat} {v : Value} {E : List Ed} {w : World}
theorem rdE_one (w : World) (p : Nat) (e : Ed) (hp : EdAt w ⟨p, 0, none⟩ e) : RdE w (.slice (some ⟨p, 0, none⟩) 1 1) [e] := by
  refine ⟨some ⟨p, 0, none⟩, 1, rfl, by simp, by unfold maxLen; omega, (fun q => by cases q), fun i q hq => ⟨_, rfl, ?_⟩⟩
  cases i with
  | zero => simp at hq; subst hq; exact hp
  | succ i => simp at hq
set_option maxHeartbeats 1000000 in
/-- At the end. -/
theorem insert_end (h : OwE B w v E) (hl : E.length ≤ 4096) (hB : B ≤ w.heap.size) (p : Nat) (e : Ed) (hp : EdAt w ⟨p, 0, none⟩ e) :
    Calls Try.prog 21 #[v, .int .i64 (E.length : Int), .slice (some ⟨p, 0, none⟩) 1 1] w (InsP B w v E E.length e) := by
  have hr := rdE_one w p e hp
  have hfin : ∀ v' w', OwE B w' v' (E ++ [e]) → w.grownBy w' v.ownBlock → (v'.ownBlock = v.ownBlock ∨ v'.ownBlock = some w.heap.size) → InsP B w v E E.length e (.returned v') w' := fun v' w' h1 h2 h3 => by
    refine ⟨v', rfl, by simpa using h1, Chg.of_grown h2 (fun b q _ => q), ?_⟩
    rcases h3 with q | q
    · exact .inl q
    · exact .inr ⟨_, q, Nat.le_refl _⟩
  have HF : Hid (∀ v' w', OwE B w' v' (E ++ [e]) → w.grownBy w' v.ownBlock → (v'.ownBlock = v.ownBlock ∨ v'.ownBlock = some w.heap.size) → InsP B w v E E.length e (.returned v') w') := hfin
  clear hfin
  have ho := h
  obtain ⟨a, c, ev, h1, h2⟩ := h.rd.shape
  subst ev
  generalize hn : InsP B w (.slice a E.length c) E E.length e = POST at *
  have HO : Hid (OwE B w (.slice a E.length c) E) := ho
  have hn1 : (E.length : Int) ≤ (c : Int) := by omega
  clear h ho hn
  by_cases hc : c = E.length
  · have hcc : (c : Int) = (E.length : Int) := by omega
    go_enter Try.func21, Try.ntmps21
    cases a with
    | none =>
      go_wp2_with (first | (at_builtin; refine wpList_appE rfl _ _ rfl B _ E rfl HO.out _ [e] rfl hr hB (by simp; omega) ?_; intro v' w' q1 q2 q3) | fail)
      exact HF.out v' w' q1 q2 q3
    | some ad =>
      go_wp2_with (first | (at_builtin; refine wpList_appE rfl _ _ rfl B _ E rfl HO.out _ [e] rfl hr hB (by simp; omega) ?_; intro v' w' q1 q2 q3) | fail)
      exact HF.out v' w' q1 q2 q3
  · cases a with
    | none =>
      exfalso
      obtain ⟨_, _, eq, _, _, q3, _⟩ := HO.out.rd
      simp only [Value.slice.injEq] at eq
      obtain ⟨rfl, _, rfl⟩ := eq
      have := q3 rfl
      omega
    | some ad =>
      go_enter Try.func21, Try.ntmps21
      go_wp2_with (first | (at_builtin; refine wpList_appE rfl _ _ rfl B _ E rfl HO.out _ [e] rfl hr hB (by simp; omega) ?_; intro v' w' q1 q2 q3) | fail)
      exact HF.out v' w' q1 q2 q3

end
end Go.Proofs.Ytipnghaphfgalaa
