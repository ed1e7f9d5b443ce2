/- Stop, Edges, New. -/
import Derived.Test.YtipnghaphfgalaaG36
import Derived.Lib.SliceRun
namespace Go.Proofs.Ytipnghaphfgalaa
open Go.RowKit
set_option linter.unusedVariables false
set_option maxRecDepth 100000

def stE (E : List Ed) (a b : UInt64) : List Ed := E.filter (fun e => !(e == (a, b)))
def StopP (B x : Nat) (v : Value) (E : List Ed) (a b : UInt64) (w : World) (r : Ending) (w' : World) : Prop :=
  ∃ v', r = .returned (.bool (W.is E (a, b))) ∧ Gr B x v' (stE E a b) w' ∧ Chg (GS x v) w w' ∧ v'.ownBlock = v.ownBlock
set_option maxHeartbeats 1000000 in
theorem stop_any {B x : Nat} {v : Value} {E : List Ed} {w : World} (h : Gr B x v E w) (a b : UInt64) :
    Calls Try.prog 12 #[.pointer (some ⟨x, 0, none⟩), .int .u64 (a.toNat : Int), .int .u64 (b.toNat : Int)] w (StopP B x v E a b w) := by
  have hfd := gfind_any h (a, b)
  simp only [] at hfd
  have hlen := h.len
  have hxl := h.xlt
  generalize hP : StopP B x v E a b w = POST
  have HP : Hid (StopP B x v E a b w = POST) := hP
  clear hP
  have HI : Hid (W.is E (a, b) = true → E[W.pl E (a, b)]? = some (a, b)) := fun q => by
    have := q; unfold W.is at this; rwa [beq_iff_eq] at this
  have HNI : Hid (W.is E (a, b) = false → (a, b) ∉ E) := fun q => (W.is_false h.ris _).1 q
  have HT : Hid (∀ t, W.is E (a, b) = t → ∀ v' w', Gr B x v' (stE E a b) w' → Chg (GS x v) w w' → v'.ownBlock = v.ownBlock → POST (.returned (.bool t)) w') := fun t ht v' w' q1 q2 q3 => by
    rw [← HP.out, ← ht]
    exact ⟨v', rfl, q1, q2, q3⟩
  generalize hi : W.pl E (a, b) = i at *
  generalize ht : W.is E (a, b) = t at *
  clear hi
  go_enter Try.func12, Try.ntmps12
  go_wp2_with fail
  refine hfd.mono ?_
  rintro r w1 ⟨rfl, hb1⟩
  have h1 := h.below hb1 (Nat.le_refl _)
  have hch1 : Chg (GS x v) w w1 := (Chg.of_below hb1).mono (fun b q1 q2 => by omega)
  cases t with
  | false =>
    have HF : Hid (POST (.returned (.bool false)) w1) := HT.out false rfl v w1 (by
      have : stE E a b = E := List.filter_eq_self.2 (fun e he => by
        have : e ≠ (a, b) := fun q => HNI.out rfl (by rw [← q]; exact he)
        simpa using this)
      rw [this]; exact h1) hch1 rfl
    clear hfd h h1 hch1
    go_wp2_with fail
    exact HF.out
  | true =>
    have hE := HI.out rfl
    obtain ⟨hil, _⟩ := List.getElem?_eq_some_iff.1 hE
    obtain ⟨g, c, ev, hc1, hc2, -⟩ : ∃ g c, v = .slice (some ⟨g, 0, none⟩) E.length c ∧ E.length ≤ c ∧ c ≤ maxLen ∧ True := by
      rcases h.row.blk with ⟨_, q⟩ | ⟨g, c, q, q1, q2, _⟩
      · subst q; simp at hil
      · exact ⟨g, c, q, q1, q2, trivial⟩
    obtain ⟨n1, hn1⟩ : ∃ n1, E.length = n1 + 1 := ⟨E.length - 1, by omega⟩
    have hwr : IntKind.i64.wrap ((i : Int) + 1) = ((i + 1 : Nat) : Int) := by rw [IntKind.wrap_i64]; omega
    obtain ⟨c0, cz⟩ := h1.vx
    subst ev
    have hdl := deleteE_any (n1 := n1) h1.row rfl (by omega) hil rfl hn1
    have HK : Hid (∀ w4, Chg (fun b => b = g) w1 w4 → w4.cell? ⟨x, 0, none⟩ = some (.slice (some ⟨g, 0, none⟩) E.length c) ∧ w4.frozen? ⟨x, 0, none⟩ = false) := fun w4 hc => by
      have hcx : w4.heap[x]? = some (.cells #[.slice (some ⟨g, 0, none⟩) E.length c] 52 (0, 0)) := by rw [hc.block x h1.xlt (fun q => h.ne (by rw [q]; rfl))]; exact h1.cell
      exact ⟨by rw [cell_of_row _ _ _ _ _ _ hcx]; rfl, frozen_of_row _ _ _ _ _ hcx⟩
    have HFIN : Hid (∀ w4, OwE B w4 (.slice (some ⟨g, 0, none⟩) n1 c) (E.take i ++ E.drop (i + 1)) → Chg (fun b => b = g) w1 w4 → POST (.returned (.bool true)) (w4.setCell ⟨x, 0, none⟩ (.slice (some ⟨g, 0, none⟩) n1 c))) := fun w4 ho hc => by
      have hgx : g ≠ x := fun q => h.ne (by rw [q]; rfl)
      have hcx : w4.heap[x]? = some (.cells #[.slice (some ⟨g, 0, none⟩) E.length c] 52 (0, 0)) := by rw [hc.block x h1.xlt (fun q => hgx q.symm)]; exact h1.cell
      have hcp : Chg (fun b => b = x) w4 (w4.setCell ⟨x, 0, none⟩ (.slice (some ⟨g, 0, none⟩) n1 c)) := (Chg.refl (fun b => b = x) w4).put x _ _ rfl
      have he : stE E a b = E.take i ++ E.drop (i + 1) := (W.del_filter h.ris hE).symm
      refine HT.out true rfl (.slice (some ⟨g, 0, none⟩) n1 c) _ ?_ ?_ rfl
      · rw [he]
        refine ⟨by rw [heap_setCell_same _ _ 0 _ _ _ hcx]; rfl, ho.keptC hcp (fun b e q => hgx ((Option.some.inj e).trans q)), fun q => hgx (Option.some.inj q), h.lo, W.ris_del h.ris i, by simp; omega⟩
      · exact (hch1.trans (hc.mono (fun b _ q => .inl (.inr (by rw [q]; rfl))))).trans (hcp.mono (fun b _ q => .inl (.inl q)))
    have HN1 : Hid (E.length = n1 + 1) := hn1
    clear hfd h h1 hch1 hE hn1
    go_wp2_with fail
    refine hdl.mono ?_
    rintro r w4 ⟨rfl, ho4, hc4⟩
    obtain ⟨y0, yf⟩ := HK.out w4 hc4
    have HE4 : Hid _ := HFIN.out w4 ho4 hc4
    clear ho4 hc4 hdl
    go_wp2_with fail
    exact HE4.out

theorem OwE.lit0 (B : Nat) (w : World) (hB : B ≤ w.heap.size) : OwE B (w.alloc (.cells #[] 31)) (.slice (some ⟨w.heap.size, 0, none⟩) 0 0) [] := World.ownsRow_made w #[] 0 hB (by simp) rfl
theorem cloneE_any {v : Value} {E : List Ed} {w : World} (hr : RdE w v E) (hl : E.length ≤ 1048576) :
    Calls Try.prog 22 #[v] w fun e w' => ∃ v', e = .returned v' ∧ OwE w.heap.size w' v' E ∧ Below w.heap.size w w' := by
  have q : ∀ (w : World) (a : Option Addr) (n c n' c' : Nat), (binOp .eql 22 (.slice a n c) (.slice none n' c')).run Try.prog w = .ok (.bool a.isNone) w := fun w a n c n' c' => Lib.run_eql_slice_nil w _ _ a n c n' c' Try.underlying22
  have hr0 := hr
  obtain ⟨ao, c, hv, h1, h2, h3, h4⟩ := hr
  cases ao with
  | none =>
    have hc := h3 rfl
    have hE : E = [] := List.length_eq_zero_iff.1 (by omega)
    subst hE
    subst hv
    go_enter Try.func22, Try.ntmps22
    go_wp2
    go_ret
    exact ⟨_, rfl, OwE.nil _ _, Below.refl _ _⟩
  | some a =>
    subst hv
    go_enter Try.func22, Try.ntmps22
    go_wp2_with (first | (at_builtin; refine wpList_appE rfl _ _ rfl w.heap.size _ [] rfl (OwE.lit0 _ _ (Nat.le_refl _)) _ E rfl (hr0.below (w_al w _) (Nat.le_refl _)) (by simp) (by simp; omega) ?_; intro v' w' ho' hg' hw') | fail)
    go_ret
    exact ⟨_, rfl, ho', (w_al w _).trans ((Below.refl _ _).grown hg' (by simp) (fun k hk => Nat.le_of_eq (Option.some.inj hk)))⟩
theorem edges_any {B x : Nat} {v : Value} {E : List Ed} {w : World} (h : Gr B x v E w) :
    Calls Try.prog 10 #[.pointer (some ⟨x, 0, none⟩)] w fun e w' => ∃ v', e = .returned v' ∧ OwE w.heap.size w' v' E ∧ Below w.heap.size w w' := by
  obtain ⟨c0, cz⟩ := h.vx
  have hcl := cloneE_any h.row.rd (by have := h.len; omega)
  obtain ⟨va, vc, ev, -⟩ := h.row.rd.shape
  subst ev
  clear h
  go_enter Try.func10, Try.ntmps10
  go_wp2_with fail
  refine hcl.mono ?_
  rintro r w1 ⟨v', rfl, q1, q2⟩
  have H : Hid _ := And.intro q1 q2
  obtain ⟨z1, z2, z3, -⟩ := q1.rd.shape
  clear q1 q2
  subst z3
  go_wp2_with fail
  go_ret
  exact ⟨_, rfl, H.out⟩
theorem gnew_any (w : World) : Calls Try.prog 8 #[] w fun e w' => ∃ x, e = .returned (.pointer (some ⟨x, 0, none⟩)) ∧ Gr w.heap.size x (.slice none 0 0) [] w' ∧ Below w.heap.size w w' := by
  go_enter Try.func8, Try.ntmps8
  go_wp2_with fail
  go_ret
  exact ⟨w.heap.size, rfl, ⟨heap_alloc_new w _, OwE.nil _ _, (fun q => by cases q), Nat.le_refl _, List.Pairwise.nil, by simp⟩, w_al w _⟩
end Go.Proofs.Ytipnghaphfgalaa
