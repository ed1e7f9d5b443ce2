/- Proved here: CodecFrames answers true for every text of bytes, where what is read is of bulk at most 1048576: TakeFrame and TakeRow read what the document reads and refuse what it refuses, in new memory, each text of its own, and the bytes stay. -/
import Derived.Test.YtbolnelbchffhaaUpto
import Derived.Test.YtbolnelbchffhaaRRowTake
import Derived.Test.YtbolnelbchffhaaRFrameTake
import Derived.Test.YtbolnelbchffhaaSameAll
import Derived.Test.YtbolnelbchffhaaDone
namespace Go.Proofs.Ytbolnelbchffhaa
open Go.ChangeShapes Go.WideShapes Go.ChangeAt Go.RowKit
set_option linter.unusedVariables false
set_option maxRecDepth 100000

theorem Ows.kept {B g : Nat} {w w' : World} {v : Value} {ls : List (List UInt8)} {us : List Value} (h : Ows B w v ls us) (hg : w.grownBy w' (some g)) (hB : g < B) : Ows B w' v ls us := by
  refine ⟨World.ownsRow.kept h.row hg ?_, h.len, fun i u l e1 e2 => (h.el i u l e1 e2).kept hg hB, h.off, h.sep⟩
  by_cases e : v.ownBlock = none
  · exact .inl e
  · refine .inr fun e2 => ?_
    have := (World.ownsRow.lt h.row g e2).1
    omega

theorem ownsRow_mono {B B' : Nat} {w : World} {e : TypeId} {n : Nat} {v : Value} {xs : List Value} (h : w.ownsRow B e 1 v n xs) (hB : B' ≤ B) : w.ownsRow B' e 1 v n xs := by
  obtain ⟨h1, h2⟩ := h
  refine ⟨h1, ?_⟩
  rcases h2 with h2 | ⟨g, cap, cur, hv, hg, r⟩
  · exact .inl h2
  · exact .inr ⟨g, cap, cur, hv, by omega, r⟩

/-- The Book holds i lists; those of us from i on, x and r are what they were, and no list of the Book's; neither is the row. -/
def LoopI (B k C : Nat) (v x r : Value) (us : List Value) (ls : List (List UInt8)) (lx lr : List UInt8) (i : Nat) (wr : World) : Prop :=
  ∃ (D : Nat → Prop) (rs : List (Value × UInt8)), rs.length = i ∧ Bk B k D rs wr ∧ (∀ (j : Nat) (u : Value) (l : List UInt8), i ≤ j → us[j]? = some u → ls[j]? = some l → Stays D C wr u l) ∧ Stays D C wr x lx ∧ Stays D C wr r lr ∧
    wr.ownsRow C 25 1 v us.length us ∧ ∀ b, v.ownBlock = some b → ¬ D b

theorem own_round {B k C : Nat} {v x r : Value} {us : List Value} {ls : List (List UInt8)} {lx lr : List UInt8} {i : Nat} {wr : World} (h : LoopI B k C v x r us ls lx lr i wr) (hi : i < us.length) (hls : us.length = ls.length) (hC : B ≤ C) (hn : us.length ≤ 1099511627776)
    (hsep : us.Pairwise Apart) (hoff : ∀ u ∈ us, ∀ b, u.ownBlock = some b → v.ownBlock ≠ some b) (hax : ∀ u ∈ us, Apart u x) (har : ∀ u ∈ us, Apart u r) :
    Calls Try.prog 26 #[.pointer (some ⟨k, 0, none⟩), us[i]] wr fun e w' => e = .returned (.bool true) ∧ LoopI B k C v x r us ls lx lr (i + 1) w' ∧ Below B wr w' := by
  obtain ⟨D, rs, hrs, hbk, hst, hx, hr, hrow, hvd⟩ := h
  have hu := hst i us[i] (ls[i]'(by omega)) (Nat.le_refl _) (by simp [hi]) (by simp [show i < ls.length by omega])
  have hm : us[i] ∈ us := List.getElem_mem hi
  refine (own_step hbk hu hC (by omega)).mono ?_
  rintro e w' ⟨rfl, ⟨q, hbk'⟩, hch, hbl⟩
  refine ⟨rfl, ⟨_, rs ++ [q], by simp [hrs], hbk', ?_, hx.next hch (hax _ hm), hr.next hch (har _ hm), ?_, ?_⟩, hbl⟩
  · intro j u l hj e1 e2
    have hju : j < us.length := (List.getElem?_eq_some_iff.1 e1).1
    obtain rfl : us[j] = u := by rw [List.getElem?_eq_getElem hju] at e1; exact Option.some.inj e1
    exact (hst j us[j] l (by omega) e1 e2).next hch (List.pairwise_iff_getElem.1 hsep i j hi hju (by omega))
  · refine ownsRow_keptC hrow hch (fun b e hd => ?_)
    rcases hd with hd | hd
    · exact hvd b e hd
    · exact hoff _ hm b hd e
  · intro b e hd
    rcases hd with hd | hd | hd
    · exact hvd b e hd
    · exact hoff _ hm b hd e
    · have := (World.ownsRow.lt hrow b e).2; omega

theorem tr_len (l : List UInt8) : (M.tr l).1.length ≤ l.length := by
  by_cases h : (M.tr l).2 = 0
  · have := M.tr_form l h
    have h2 := M.rowB_pos (M.tr l).1
    have h3 : (M.row (M.tr l).1).length = l.length := by rw [this]
    simp only [M.row, List.length_append] at h3
    omega
  · have : (M.tr l).1 = [] := by
      revert h
      unfold M.tr
      split
      · simp
      · split
        · simp
        · split
          · simp
          · split
            · simp
            · simp
    rw [this]; simp

set_option maxHeartbeats 4000000 in
theorem frames_walk {v : Value} {l : List UInt8} {w : World} (hr : Rd w v l) (hl : l.length ≤ 1048576) :
    Calls Try.prog 8 #[v] w fun e w' => e = .returned (.bool true) ∧ Below w.heap.size w w' := by
  have htr := tr_len l
  go_enter Try.func8, Try.ntmps8
  go_wp2_with fail
  refine (awake_any _).mono ?_
  rintro e w1 ⟨rfl, hb1⟩
  have hB1 : w.heap.size ≤ w1.heap.size := hb1.size
  have hR1 := RdB.of hr hb1
  go_wp2_with fail
  refine (lend_new hR1 (by omega) hB1 _).mono ?_
  rintro e w2 ⟨p, rfl, hp2, hs2, hb2⟩
  have hB2 : w.heap.size ≤ w2.heap.size := Nat.le_trans hB1 hb2.size
  have hR2 := hR1.next (hb2.mono hB1)
  have hl2 := hs2.blk.lt
  go_wp2_with fail
  refine (tframe_any hp2 (by omega)).mono ?_
  rintro e w3 ⟨x, rest, rfl, hox, hor, haxr, hb3⟩
  have hB3 : w.heap.size ≤ w3.heap.size := Nat.le_trans hB2 hb3.size
  have hR3 := hR2.next (hb3.mono hB2)
  go_wp2_with fail
  refine (takerow_any (hp2.below hb3 (Nat.le_refl _)) (by omega)).mono ?_
  rintro e w4 ⟨f, us, rfl, hof, hb4⟩
  have hB4 : w.heap.size ≤ w4.heap.size := Nat.le_trans hB3 hb4.size
  have hR4 := hR3.next (hb4.mono hB3)
  have hax : ∀ u ∈ us, Apart u x := fun u hu => by
    obtain ⟨m, hm⟩ := hof.elem u hu
    by_cases e : u.ownBlock = none
    · exact .inl e
    · refine .inr fun q => ?_
      obtain ⟨b, hb⟩ := Option.ne_none_iff_exists'.1 e
      have h1 := (World.ownsRow.lt hm b hb).1
      have h2 := (World.ownsRow.lt hox b (by rw [← q]; exact hb)).2
      omega
  have har : ∀ u ∈ us, Apart u rest := fun u hu => by
    obtain ⟨m, hm⟩ := hof.elem u hu
    by_cases e : u.ownBlock = none
    · exact .inl e
    · refine .inr fun q => ?_
      obtain ⟨b, hb⟩ := Option.ne_none_iff_exists'.1 e
      have h1 := (World.ownsRow.lt hm b hb).1
      have h2 := (World.ownsRow.lt hor b (by rw [← q]; exact hb)).2
      omega
  go_wp2_with fail
  refine (rtframe_any hR4.now (by omega)).mono ?_
  rintro e w5 ⟨u, left, rfl, hou, hol, hb5⟩
  have hB5 : w.heap.size ≤ w5.heap.size := Nat.le_trans hB4 hb5.size
  have hR5 := hR4.next (hb5.mono hB4)
  go_wp2_with fail
  refine (rtakerow_any hR5.now (by omega)).mono ?_
  rintro e w6 ⟨vv, us2, rfl, hov, hb6⟩
  have hB6 : w.heap.size ≤ w6.heap.size := Nat.le_trans hB5 hb6.size
  have hR6 := hR5.next (hb6.mono hB5)
  have hb26 : Below w2.heap.size w2 w6 := Below.tr (Below.tr (Below.tr hb3 hb4) hb5) hb6
  have hb36 : Below w3.heap.size w3 w6 := Below.tr (Below.tr hb4 hb5) hb6
  have hb46 : Below w4.heap.size w4 w6 := Below.tr hb5 hb6
  have hbk := Bk.new (B := w.heap.size) w6 31 hB6
  have hal : Below w6.heap.size w6 (w6.alloc (.cells #[.slice none 0 0, .slice none 0 0] 31)) := Below.al _ _
  have HK : Hid _ := And.intro hbk (And.intro (hR6.next (hal.mono hB6)) (And.intro (hs2.next (Below.tr hb26 hal)) (And.intro (hox.below (Below.tr hb36 hal) (Nat.le_refl _)) (And.intro (hor.below (Below.tr hb36 hal) (Nat.le_refl _)) (And.intro (hof.below (Below.tr hb46 hal) (Nat.le_refl _)) (And.intro ((hou.below (Below.tr hb6 hal) (Nat.le_refl _))) (And.intro (hol.below (Below.tr hb6 hal) (Nat.le_refl _)) (And.intro (hov.below hal (Nat.le_refl _)) ((hb1.trans (hb2.mono hB1)).trans ((Below.tr hb26 hal).mono hB2))))))))))
  clear hbk hal
  have s36 := hb36.size
  have s23 := hb3.size
  have s46 := hb46.size
  have s56 := hb6.size
  have s34 := hb4.size
  have s45 := hb5.size
  have hn1 : (((M.tr l).2 : Int) != ((M.tr l).2 : Int)) = false := by simp
  have hn2 : (((M.tf l).2.2 : Int) != ((M.tf l).2.2 : Int)) = false := by simp
  go_wp2_with fail
  obtain ⟨hbk, hR7, hs7, hox7, hor7, hof7, hou7, hol7, hov7, hw7⟩ := HK.out
  clear HK
  refine (back_new hs7 hR7 (by omega) hB1).mono ?_
  rintro e w8 ⟨rfl, hg8, hb8⟩
  have hw8 := hw7.trans hb8
  have hB8 := hw8.size
  have hbk8 := hbk.next (S := fun b => b = w1.heap.size + 1) (Chg.of_grown hg8 (fun b e _ => (Option.some.inj e).symm)) (fun b e => by omega)
  have hox8 := hox7.kept hg8 hl2
  have hor8 := hor7.kept hg8 hl2
  have hof8 := hof7.kept hg8 (by omega)
  have hou8 := hou7.kept hg8 (by omega)
  have hol8 := hol7.kept hg8 (by omega)
  have hov8 := hov7.kept hg8 (by omega)
  go_wp2_with fail
  refine (same_any hox8.rd hou8.rd).mono ?_
  rintro e w9 ⟨rfl, k9, rfl⟩
  rw [decide_eq_true rfl]
  go_wp2_with fail
  refine (same_any (hor8.rd.drewN k9) (hol8.rd.drewN k9)).mono ?_
  rintro e w10 ⟨rfl, k10, rfl⟩
  rw [decide_eq_true rfl]
  go_wp2_with fail
  refine (num_any _ _).mono ?_
  rintro e w11 ⟨rfl, rfl⟩
  go_wp2_with fail
  refine (sameall_any (hof8.rds.below (Below.dN w8 _) (Nat.le_refl _)) (hov8.rds.below (Below.dN w8 _) (Nat.le_refl _))).mono ?_
  rintro e w12 ⟨rfl, k12, rfl⟩
  go_wp2_with fail
  refine (num_any _ _).mono ?_
  rintro e w13 ⟨rfl, rfl⟩
  have q3 : ∀ b, x.ownBlock = some b → b < w3.heap.size := fun b e => (World.ownsRow.lt hox b e).2
  have q4 : ∀ b, rest.ownBlock = some b → b < w3.heap.size := fun b e => (World.ownsRow.lt hor b e).2
  have q5 : ∀ u ∈ us, ∀ b, u.ownBlock = some b → b < w4.heap.size := fun u hu b e => by
    obtain ⟨m, hm⟩ := hof.elem u hu
    exact (World.ownsRow.lt hm b e).2
  have q6 : ∀ b, f.ownBlock = some b → b < w4.heap.size := fun b e => (World.ownsRow.lt hof.row b e).2
  have hbkW := hbk8.next (Chg.of_below (Below.dN w8 (k9 + k10 + k12))) (fun b e => by have := hbk8.dlt b e; omega)
  have hwW : Below w.heap.size w (w8.drewN (k9 + k10 + k12)) := hw8.trans ((Below.dN _ _).mono hB8)
  have hofW := hof8.below (Below.dN w8 (k9 + k10 + k12)) (Nat.le_refl _)
  have hI : LoopI w.heap.size w6.heap.size w2.heap.size f x rest us (M.tr l).1 (M.tf l).1 (M.tf l).2.1 0 (w8.drewN (k9 + k10 + k12)) := by
    refine ⟨_, [], rfl, hbkW, ?_, ⟨hox8.drewN _, fun b e hd => by have := q3 b e; omega⟩, ⟨hor8.drewN _, fun b e hd => by have := q4 b e; omega⟩, ownsRow_mono hofW.row s23, fun b e hd => by have := q6 b e; omega⟩
    intro j u l _ e1 e2
    exact ⟨(hofW.el j u l e1 e2).mono s23, fun b e hd => by have := q5 u (List.mem_of_getElem? e1) b e; omega⟩
  have hlen := hof.len
  have hsep := hof.sep
  have hoff := hof.off
  have hul : us.length ≤ 1048576 := by omega
  have hels : ∀ i, (h : i < us.length) → ∃ a n c, us[i] = .slice a n c := fun i h => by
    obtain ⟨m, hm⟩ := hof.elem us[i] (List.getElem_mem h)
    obtain ⟨a, c, e⟩ := hm.shape
    exact ⟨_, _, _, e⟩
  obtain ⟨af, cf, ef⟩ := own_shape hof.row
  subst ef
  clear hox8 hor8 hof8 hou8 hol8 hov8 hox7 hor7 hof7 hou7 hol7 hov7 hbk hbk8 hs7 hR7 hbkW hofW hox hor hof hou hol hov hR1 hR2 hR3 hR4 hR5 hR6 q3 q4 q5 q6 hp2 hs2 hr hw7 hw8 hg8 hb8 hb1 hb2 hb3 hb4 hb5 hb6 hb26 hb36 hb46 hn1 hn2
  go_wp2_with fail
  go_loopw [16] (fun i wr => ∃ k : Nat, k ≤ us.length ∧ i = .int .i64 k ∧ LoopI w.heap.size w6.heap.size w2.heap.size (.slice af us.length cf) x rest us (M.tr l).1 (M.tf l).1 (M.tf l).2.1 k wr ∧ Below w.heap.size w wr) (fun i _ => us.length - (intOf i).toNat)
  case atStart => exact ⟨0, Nat.zero_le _, rfl, hI, hwW⟩
  case round =>
    obtain ⟨k, hk, rfl, hL, hbr⟩ := hrel
    clear hI hwW
    by_cases hlt : k < us.length
    · have hown := own_round hL hlt hlen hB2 (by omega) hsep hoff hax har
      obtain ⟨D, rs, _, _, _, _, _, hrow, _⟩ := hL
      obtain ⟨g, c, e1, e2⟩ := own_cell hrow k hlt
      simp only [Value.slice.injEq, true_and] at e1
      obtain ⟨rfl, rfl⟩ := e1
      rw [List.getElem?_eq_getElem hlt] at e2
      obtain ⟨ai, ni, ci, ei⟩ := hels k hlt
      rw [ei] at e2 hown
      clear hrow hels hoff hsep
      go_wp2_with fail
      refine hown.mono ?_
      rintro e w14 ⟨rfl, hL', hbl⟩
      go_wp2_with fail
      exact ⟨⟨k + 1, by omega, by go_num, hL', hbr.trans hbl⟩, by simp [intOf]; omega⟩
    · obtain rfl : k = us.length := by omega
      obtain ⟨D, rs, hrs, hbk, _, sx, sr, _, _⟩ := hL
      clear hels hoff hsep
      go_wp2_with fail
      refine (own_step hbk sx hB2 (by omega)).mono ?_
      rintro e w14 ⟨rfl, ⟨r1, hbk14⟩, hch14, hbl14⟩
      have sr14 := sr.next hch14 haxr
      go_wp2_with fail
      refine (own_step hbk14 sr14 hB2 (by simp; omega)).mono ?_
      rintro e w15 ⟨rfl, ⟨r2, hbk15⟩, hch15, hbl15⟩
      go_wp2_with fail
      refine (done_any hbk15 (by simp; omega)).mono ?_
      rintro e w17 ⟨rfl, k17, rfl⟩
      go_wp2_with fail
      go_ret
      have hfin := (hbr.trans hbl14).trans hbl15
      exact ⟨rfl, hfin.trans ((Below.dN w15 k17).mono hfin.size)⟩

namespace codecFramesUpto
theorem own : ownKnob Try.prog.godebug = none := by kernel_rfl
theorem laidOut : laidOutB Try.prog = true := by kernel_rfl

theorem contract (H : Type) (enc : TypeId × Value → H) (W : World) (base : Nat) (args : Array Value) (ds gs : List (DataW H)) (before : List MemPlace)
    (hval : ∀ (j : Nat) t v, Try.f8.params[j]? = some t → args[j]? = some v → Value.okWide Try.prog W .any base t v)
    (hW : DataW.Whole enc Try.prog Try.f8.params.toList Rows.codecFramesSpec.vars false W args.toList ds gs before) (hk : Rows.uptoSmall H (ds ++ gs) = true) :
    Calls Try.prog 8 args W fun e W' => ∃ v, e = .returned v ∧ Rows.codecFramesSpec.post enc Try.prog Try.f8 false true false false W args v W' := by
  have hW' := hW
  obtain ⟨p, q, hA0, hV, rfl, hfz, hnd⟩ := hW
  have hA : DataW.TrodAll enc Try.prog W 0 (fun _ => true) true Try.f8.params.toList args.toList ds p := hA0
  rw [Try.params8] at hA hval
  obtain ⟨v0, vs0, d0, ds0, p0, q0, hargs, rfl, rfl, h0, r0⟩ := trodAll_cons hA
  obtain ⟨rfl, rfl, rfl⟩ := trodAll_nil r0
  obtain rfl : args = #[v0] := by cases args; simp_all
  obtain ⟨rfl, rfl⟩ := trodVars_none hV
  have hbulk : Rows.uptoBulkAll ([d0] ++ ([] : List (DataW H))) ≤ 1048576 := of_decide_eq_true hk
  simp only [List.append_nil, Rows.uptoBulkAll] at hbulk
  obtain ⟨a0, len0, cap0, rfl⟩ := okWide_slice Try.underlying25 (hval 0 25 v0 rfl rfl)
  have k0 := h0
  have lt0 : ∀ x ∈ p0, x.block < W.heap.size := by obtain ⟨m, hm⟩ := k0; exact DataW.trod_lt m _ _ _ hm
  obtain ⟨l0, hr0, hlen0, zs0, hz0⟩ := open_bytes h0
  have hl0 : l0.length ≤ Rows.uptoBulk d0 := by
    rcases hz0 with ⟨_, h⟩ | ⟨hd, hzl, hle⟩
    · omega
    · subst hd
      have := bulk_ge (H := H) (lits .u8 (zs0.take len0))
      simp only [Rows.uptoBulk]
      simp only [lits, List.length_map, List.length_take] at this
      simp only [lits]
      omega
  clear hA0
  refine (frames_walk hr0 (by omega)).mono fun e W' ⟨he, bel⟩ => ?_
  subst he
  exact ⟨_, rfl, _, _, _, [], _, [], hW', trodAll_mk1 (shut_bool Try.underlying4 _), (trodAll_cons_mk (Below.trod laidOut (by kernel_rfl) (of_decide_eq_true (by kernel_rfl)) k0 bel lt0) trodAll_mk0), rfl, bel.frame _, fun h => by cases h⟩

theorem lifted (os : Os) (started : os.Started) (H : Type) (enc : TypeId × Value → H) (F : Stop.Interp) :
    ReturnsInHanded {} Try.checked os 8 .any ((Rows.OpenSpec.upto Rows.codecFramesSpec).pre6 enc Try.prog Try.f8 Rows.codecFramesUptoRow.domain false) (((Rows.OpenSpec.upto Rows.codecFramesSpec).at F).post enc Try.prog Try.f8 false true false false) := by
  refine returnsInHanded_of_cond (C := Try.checked) (s := Rows.OpenSpec.upto Rows.codecFramesSpec) (k := Rows.uptoSmall) rfl own started (by kernel_rfl) Try.func8
    (OpenSpec.witness (enc := enc) (C := Try.checked) (s := Rows.OpenSpec.upto Rows.codecFramesSpec) (k := Rows.uptoSmall) rfl false ⟨#[], #[.slice none 0 0], []⟩ 8 (by kernel_rfl) (by kernel_rfl) (by kernel_rfl)
      (x := ([.nil], [], [])) (by kernel_rfl) rfl (by kernel_rfl)) ?_
  intro W base args ds gs before hval hW _ hk _
  exact contract H enc W base args ds gs before hval hW hk
end codecFramesUpto

/-- The statement. -/
theorem codecFramesUpto_holds : Rows.CodecFramesUptoSaid :=
  OpenClaim.holds_of_cond 8 Try.f8 rfl rfl rfl rfl rfl rfl rfl ⟨rfl, rfl, rfl, rfl, rfl⟩ rfl rfl rfl rfl rfl (by kernel_rfl) Try.func8 (by kernel_rfl)
    (of_decide_eq_true (by kernel_rfl)) (by unfold Func.isWrapper; first | (rw [if_pos (by decide +kernel)]; kernel_rfl) | (rw [if_neg (by decide +kernel)]; exact ⟨rfl, rfl⟩))
    (fun os started H enc _ F => codecFramesUpto.lifted os started H enc F)
#print axioms codecFramesUpto_holds

end Go.Proofs.Ytbolnelbchffhaa
