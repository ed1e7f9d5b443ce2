/- What New, refuseFile, refuseWrite, Dead, Sync and Read of a disk that is alive do. -/
import Derived.Test.YtbolnelbchffhacDkLaws
import Derived.Lib.SliceRun
namespace Go.Proofs.Ytbolnelbchffhac
open Go.RowKit
set_option linter.unusedVariables false
set_option maxRecDepth 100000

theorem dclone_any {v : Value} {l : List UInt8} {w : World} (hr : Rd w v l) (hl : l.length ≤ 140737488355328) :
    Calls Try.prog 43 #[v] w fun e w' => ∃ v', e = .returned v' ∧ Ow w.heap.size w' v' l ∧ Below w.heap.size w w' := by
  have q : ∀ (w : World) (a : Option Addr) (n c n' c' : Nat), (binOp .eql 29 (.slice a n c) (.slice none n' c')).run Try.prog w = .ok (.bool a.isNone) w := fun w a n c n' c' => Lib.run_eql_slice_nil w _ _ a n c n' c' Try.underlying29
  rcases hr.two with ⟨rfl, rfl⟩ | ⟨a, c, hv, h1, h2, h3⟩
  · go_enter Try.func43, Try.ntmps43
    go_wp2
    go_ret
    exact ⟨_, rfl, Ow.nil _ _, Below.refl _ _⟩
  · subst hv
    go_enter Try.func43, Try.ntmps43
    go_wp2_with (first | (at_builtin; refine wpList_app rfl _ _ rfl w.heap.size _ [] rfl (Ow.lit0 _ _ (Nat.le_refl _)) _ l rfl (hr.alloc _) (by simp) (by simpa using hl) ?_; intro v' w' ho' hb' hg') | fail)
    go_ret
    exact ⟨_, rfl, ho', ((Below.refl _ _).alloc (Nat.le_refl _) _).trans hb'⟩

theorem Below.dN (w : World) (n : Nat) : Below w.heap.size w (w.drewN n) := below_drewN (Below.refl _ _) n

section
variable {B d n : Nat} {own : Nat → Option Role} {st : Nm → Option (List UInt8 × Nat)} {sz : Nat} {may : Value} {left : Int} {w : World}

theorem ba_loop (s : ByteArray) : ∀ (k i : Nat) (r : List UInt8), s.size - i ≤ k → r ≠ [] → ByteArray.toList.loop s i r ≠ [] := by
  intro k
  induction k with
  | zero =>
    intro i r hk hr
    rw [ByteArray.toList.loop, if_neg (by omega)]
    simpa using hr
  | succ k ih =>
    intro i r hk hr
    rw [ByteArray.toList.loop]
    split
    · exact ih (i + 1) _ (by omega) (by simp)
    · simpa using hr
theorem ba_empty (s : ByteArray) : s.toList.isEmpty = decide (s.size = 0) := by
  unfold ByteArray.toList
  rw [ByteArray.toList.loop]
  by_cases h : 0 < s.size
  · rw [if_pos h]
    have := ba_loop s s.size 1 [s.get! 0] (by omega) (by simp)
    rw [decide_eq_false (by omega)]
    simpa using this
  · rw [if_neg h, decide_eq_true (by omega)]; rfl
theorem goodName_any (s : ByteArray) (w : World) : Calls Try.prog 51 #[.string s] w fun e w' => e = .returned (.bool (decide (1 ≤ s.size ∧ s.size ≤ 64))) ∧ w' = w := by
  go_enter Try.func51, Try.ntmps51
  go_wp2
  all_goals go_ret
  all_goals refine ⟨?_, rfl⟩
  all_goals congr 2
  all_goals (try rename_i hh)
  all_goals (try (rw [ba_empty]; by_cases h0 : s.size = 0 <;> by_cases h64 : s.size ≤ 64 <;> simp [h0, h64] <;> omega))
  all_goals (have he := ba_empty s; simp_all)

theorem refuseFile_any (h : Dk B d n own st sz may left w) (s : ByteArray) (hs : s.size ≤ maxLen) :
    Calls Try.prog 40 #[.pointer (some ⟨d, 0, none⟩), .string s] w fun e w' => e = .returned (.int .i64 (if st s.data.toList = none then 20 else 0)) ∧ ∃ k, w' = w.drewN k := by
  obtain ⟨m, D, fb, fv, h⟩ := h
  have c0 : w.cell? ⟨d, 0, none⟩ = some (.map (some m)) := by rw [cell_of_row _ _ _ _ _ _ h.cell]; rfl
  cases e : st s.data.toList with
  | none =>
    have hrun := h.look_no s hs e
    go_enter Try.func40, Try.ntmps40
    go_wp2
    go_ret
    exact ⟨by simp, 0, rfl⟩
  | some f =>
    have hrun := h.look s hs f e
    go_enter Try.func40, Try.ntmps40
    go_wp2
    go_ret
    exact ⟨by simp, 0, rfl⟩

/-- What Write would answer. -/
def wErr (s : ByteArray) (k sz : Nat) : Nat := if ¬ (1 ≤ s.size ∧ s.size ≤ 64) then 1 else if 16777216 < sz + k then 2 else 0

theorem refuseWrite_any (h : Dk B d n own st sz may left w) (s : ByteArray) (k : Nat) (hk : k ≤ 1099511627776) (hz : sz ≤ 16777216) :
    Calls Try.prog 39 #[.pointer (some ⟨d, 0, none⟩), .string s, .int .i64 (k : Int)] w fun e w' => e = .returned (.int .i64 (wErr s k sz : Int)) ∧ ∃ q, w' = w.drewN q := by
  obtain ⟨m, D, fb, fv, h⟩ := h
  have c1 : w.cell? ⟨d, 1, none⟩ = some (.int .i64 (sz : Int)) := by rw [cell_of_row _ _ _ _ _ _ h.cell]; rfl
  unfold wErr
  by_cases hg : 1 ≤ s.size ∧ s.size ≤ 64
  · rw [if_neg (by simpa using hg)]
    have hgn := goodName_any s w
    rw [decide_eq_true hg] at hgn
    by_cases hf : 16777216 < sz + k
    · rw [if_pos hf]
      go_enter Try.func39, Try.ntmps39
      go_wp2_with (first | (go_at_call 51; refine hgn.mono ?_; rintro e w' ⟨rfl, rfl⟩) | fail)
      go_ret
      exact ⟨rfl, 0, rfl⟩
    · rw [if_neg hf]
      go_enter Try.func39, Try.ntmps39
      go_wp2_with (first | (go_at_call 51; refine hgn.mono ?_; rintro e w' ⟨rfl, rfl⟩) | fail)
      go_ret
      exact ⟨rfl, 0, rfl⟩
  · rw [if_pos hg]
    have hgn := goodName_any s w
    rw [decide_eq_false hg] at hgn
    go_enter Try.func39, Try.ntmps39
    go_wp2_with (first | (go_at_call 51; refine hgn.mono ?_; rintro e w' ⟨rfl, rfl⟩) | fail)
    go_ret
    exact ⟨rfl, 0, rfl⟩

theorem Dk.drN (h : Dk B d n own st sz may left w) (q : Nat) : Dk B d n own st sz may left (w.drewN q) := by
  refine h.next (Chg.of_below (Below.dN w q)) (fun b hb => ?_)
  obtain ⟨_, _, _, _, h⟩ := h
  have := (h.lo b hb).2
  omega
theorem DkI.drN {m : Nat} {D : DataW Unit} {fb : Nm → Nat} {fv : Nm → Value} (h : DkI B d n m D fb fv own st sz may left w) (q : Nat) : DkI B d n m D fb fv own st sz may left (w.drewN q) := by
  refine h.next (Chg.of_below (Below.dN w q)) (fun b hb => ?_)
  have := (h.lo b hb).2
  omega
theorem Chg.dN {S : Nat → Prop} {w w' : World} (h : Chg S w w') (q : Nat) : Chg S w (w'.drewN q) := h.trans ((Chg.of_below (Below.dN w' q)).mono (fun b hb hb2 => by omega))

/-- A file's two cells. -/
theorem DkI.fcell {m : Nat} {D : DataW Unit} {fb : Nm → Nat} {fv : Nm → Value} (h : DkI B d n m D fb fv own st sz may left w) {nm : Nm} {f : List UInt8 × Nat} (e : st nm = some f) :
    ∃ a c, fv nm = .slice a f.1.length c ∧ f.1.length ≤ 9223372036854775807 ∧ w.cell? ⟨fb nm, 0, none⟩ = some (.slice a f.1.length c) ∧ w.cell? ⟨fb nm, 1, none⟩ = some (.int .i64 (f.2 : Int)) ∧ (∀ i, w.frozen? ⟨fb nm, i, none⟩ = false) ∧ Rd w (.slice a f.1.length c) f.1 := by
  obtain ⟨h1, h2, h3⟩ := h.file nm f e
  obtain ⟨a, c, e1, q1, q2, _, _⟩ := h2.rd
  have hr := h2.rd
  unfold maxLen at q2
  rw [e1] at h1 hr
  exact ⟨a, c, e1, by omega, by rw [cell_of_row _ _ _ _ _ _ h1]; rfl, by rw [cell_of_row _ _ _ _ _ _ h1]; rfl, fun i => frozen_of_row _ _ _ _ _ h1, hr⟩

/-- The count of synced bytes is written. -/
theorem DkI.setSync {m : Nat} {D : DataW Unit} {fb : Nm → Nat} {fv : Nm → Value} (h : DkI B d n m D fb fv own st sz may left w) {nm : Nm} {f : List UInt8 × Nat} (e : st nm = some f) (k : Nat) (hk : k ≤ f.1.length) :
    (∃ own', Dk B d n own' (setF st nm (some (f.1, k))) sz may left (w.setCell ⟨fb nm, 1, none⟩ (.int .i64 (k : Int))) ∧ ∀ b, own' b ≠ none → own b ≠ none ∨ w.heap.size ≤ b) ∧ Chg (fun b => own b ≠ none) w (w.setCell ⟨fb nm, 1, none⟩ (.int .i64 (k : Int))) := by
  obtain ⟨h1, h2, h3⟩ := h.file nm f e
  have hof := h.ofl nm f e
  have hc : Chg (fun b => own b = some (.file nm) ∨ own b = some (.data nm)) w (w.setCell ⟨fb nm, 1, none⟩ (.int .i64 (k : Int))) := (Chg.refl _ w).put (fb nm) 1 _ (.inl hof)
  have hc2 : Chg (fun b => b = fb nm) w (w.setCell ⟨fb nm, 1, none⟩ (.int .i64 (k : Int))) := (Chg.refl _ w).put (fb nm) 1 _ rfl
  refine ⟨⟨_, ⟨m, D, fb, _, h.upd e hc (fv' := fv nm) (bytes' := f.1) (s' := k) (by rw [heap_setCell_same w _ 1 _ _ _ h1]; rfl) (h2.keptC hc2 (fun b hb q => ?_)) hk (fun b hb => .inl (h.ov nm f b e hb))⟩, fun b hb => ?_⟩, (Chg.refl _ w).put (fb nm) 1 _ (by rw [hof]; simp)⟩
  · have := h.ov nm f b e hb
    rw [q, hof] at this; cases this
  · left
    by_cases q : (fv nm).ownBlock = some b
    · rw [h.ov nm f b e q]; simp
    · rw [if_neg q] at hb; exact hb

/-- Sync of a file that is there. -/
theorem sync_alive (h : Dk B d n own st sz (alive d) left w) (s : ByteArray) (hs : s.size ≤ maxLen) (f : List UInt8 × Nat) (e : st s.data.toList = some f) :
    Calls Try.prog 13 #[.pointer (some ⟨d, 0, none⟩), .string s] w fun e w' => e = .returned (.int .i64 0) ∧ (∃ own', Dk B d n own' (setF st s.data.toList (some (f.1, f.1.length))) sz (alive d) left w' ∧ ∀ b, own' b ≠ none → own b ≠ none ∨ w.heap.size ≤ b) ∧ Chg (fun b => own b ≠ none) w w' := by
  have hrf := fun q => refuseFile_any (h.drN q) s hs
  simp only [e, if_neg (show ¬ (some f = none) by simp)] at hrf
  obtain ⟨m, D, fb, fv, h⟩ := h
  have c0 : w.cell? ⟨d, 0, none⟩ = some (.map (some m)) := by rw [cell_of_row _ _ _ _ _ _ h.cell]; rfl
  have c2 : w.cell? ⟨d, 2, none⟩ = some (.func (.func 24) #[.pointer (some ⟨d, 0, none⟩)] #[]) := by rw [cell_of_row _ _ _ _ _ _ h.cell]; rfl
  have hrun := fun q => (h.drN q).look s hs f e
  obtain ⟨fa, fc, efv, hln, f0, f1, hfz, hrd⟩ := h.fcell e
  have hfz1 := hfz 1
  have H : Hid _ := And.intro h (And.intro efv hrd)
  clear h hfz efv hrd
  generalize hnm : s.data.toList = nm at *
  generalize hg : fb nm = g at *
  have HG : Hid _ := hg
  clear hg
  go_enter Try.func13, Try.ntmps13
  go_wp2_with fail
  go_quiet (first | (go_at_call 40; refine Calls.quiet_of (v := .int .i64 0) (hrf _)) | (go_at_call 24; refine Calls.quiet_of_same (v := .int .i64 0) (alive_any _ _ _ _)) | fail)
  go_wp2_with fail
  go_ret
  subst hnm
  have h0 := H.out.1.setSync e f.1.length (Nat.le_refl _)
  rw [HG.out] at h0
  obtain ⟨⟨own', q1, q2⟩, q3⟩ := h0
  exact ⟨rfl, ⟨own', q1.drN nq, q2⟩, q3.dN nq⟩

/-- Read of a file that is there. -/
theorem read_alive (h : Dk B d n own st sz (alive d) left w) (s : ByteArray) (hs : s.size ≤ maxLen) (f : List UInt8 × Nat) (e : st s.data.toList = some f) (hl : f.1.length ≤ 140737488355328) :
    Calls Try.prog 16 #[.pointer (some ⟨d, 0, none⟩), .string s] w fun e w' => ∃ v, e = .returned (.tuple #[v, .int .i64 0]) ∧ Ow w.heap.size w' v f.1 ∧ Below w.heap.size w w' := by
  have hrf := fun q => refuseFile_any (h.drN q) s hs
  simp only [e, if_neg (show ¬ (some f = none) by simp)] at hrf
  obtain ⟨m, D, fb, fv, h⟩ := h
  have c0 : w.cell? ⟨d, 0, none⟩ = some (.map (some m)) := by rw [cell_of_row _ _ _ _ _ _ h.cell]; rfl
  have c2 : w.cell? ⟨d, 2, none⟩ = some (.func (.func 24) #[.pointer (some ⟨d, 0, none⟩)] #[]) := by rw [cell_of_row _ _ _ _ _ _ h.cell]; rfl
  have hrun := fun q => (h.drN q).look s hs f e
  obtain ⟨fa, fc, efv, hln, f0, f1, hfz, hrd⟩ := h.fcell e
  clear h hfz efv
  generalize fb s.data.toList = g at *
  go_enter Try.func16, Try.ntmps16
  go_wp2_with fail
  go_quiet (first | (go_at_call 40; refine Calls.quiet_of (v := .int .i64 0) (hrf _)) | (go_at_call 24; refine Calls.quiet_of_same (v := .int .i64 0) (alive_any _ _ _ _)) | fail)
  go_wp2_with fail
  refine (dclone_any (hrd.drewN nq) hl).mono ?_
  rintro e w2 ⟨v2, rfl, ho2, hb2⟩
  go_wp2_with fail
  go_ret2
  exact ⟨_, rfl, ho2, Below.tr (Below.dN w nq) hb2⟩

/-- Dead of a disk that is alive. -/
theorem dead_alive (h : Dk B d n own st sz (alive d) left w) :
    Calls Try.prog 18 #[.pointer (some ⟨d, 0, none⟩)] w fun e w' => e = .returned (.bool false) ∧ ∃ q, w' = w.drewN q := by
  obtain ⟨m, D, fb, fv, h⟩ := h
  have c2 : w.cell? ⟨d, 2, none⟩ = some (.func (.func 24) #[.pointer (some ⟨d, 0, none⟩)] #[]) := by rw [cell_of_row _ _ _ _ _ _ h.cell]; rfl
  go_enter Try.func18, Try.ntmps18
  go_wp2_with fail
  refine (alive_any _ _ _ _).mono ?_
  rintro e w1 ⟨rfl, rfl⟩
  go_wp2_with fail
  go_ret
  exact ⟨rfl, 0, rfl⟩
end
end Go.Proofs.Ytbolnelbchffhac
