/- Proved here: DiskKeeps answers true for every two texts and every number: of what is written behind a Sync, a crash keeps just the beginning that is asked for; crashed again it stays; no condition. -/
import Derived.Test.YtbolnelbchffhacDkAwake
import Derived.Test.YtbolnelbchffhacOpenB
import Derived.Deep.RegionLaw
import Derived.Shelf.Abstract
import Derived.ProofKit
import Derived.OpenShut
import Derived.ChangeOld
import Derived.SizedLaws
namespace Go.Proofs.Ytbolnelbchffhac
open Go.ChangeShapes Go.WideShapes Go.ChangeAt Go.RowKit
set_option linter.unusedVariables false
set_option maxRecDepth 100000

/-- A call of a Go function, as one step of a region that draws. -/
theorem step_call {P : Program} {ops : Array Oper} {o : Oper} {a : Act} {w : World} {K : Act → World → Prop} {Q : Exit → Act → World → Prop} {E : Prop}
    (hg : o.guard = none) (f : FuncId) (x : Operand) (ts : Array TypeId) (hop : o.op = Op.call { callee := Callee.value (Operand.func f), args := #[x], argTypes := ts }) (vx : Value) (hx : a.eval x = vx)
    (hen : Enters P f) (R : Value → World → Prop) (hc : Calls P f #[vx] w fun e w' => ∃ v, e = .returned v ∧ R v w') (hK : ∀ v w', R v w' → K (a.put o.dst v) w') :
    if Region.wanted o (yielded ops a.tmps) = true then Oper.wp P o a w K Q else E := by
  have hw : Region.wanted o (yielded ops a.tmps) = true := by simp [Region.wanted, hg]
  rw [if_pos hw]
  have he : a.eval (Operand.func f) = .func (.func f) #[] #[] := rfl
  unfold Oper.wp
  simp [execOp, hop, resolve, invoke, he, hx, Deferred.ofValue, hen #[vx] w, Oper.upon_enter]
  refine hc.mono ?_
  rintro e w' ⟨v, rfl, hr⟩
  exact hK v w' hr

/-- 'append(out, x...)' of bytes, as one step of a region that draws. -/
theorem step_appN {ops : Array Oper} {o : Oper} {a : Act} {w : World} {K : Act → World → Prop} {Q : Exit → Act → World → Prop} {E : Prop}
    (hg : o.guard = none) (s x : Operand) (hop : o.op = .call { callee := .builtin .append, args := #[s, x], argTypes := #[29, 29] })
    (B : Nat) (v : Value) (l : List UInt8) (hs : a.eval s = v) (hown : Ow B w v l) (vx : Value) (m : List UInt8) (hx : a.eval x = vx) (hm : Rd w vx m)
    (hB : B ≤ w.heap.size) (hlen : l.length + m.length ≤ 140737488355328)
    (hK : ∀ v' w', Ow B w' v' (l ++ m) → w.grownBy w' v.ownBlock → K (a.put o.dst v') w') :
    if Region.wanted o (yielded ops a.tmps) = true then Oper.wp Try.prog o a w K Q else E := by
  have hw : Region.wanted o (yielded ops a.tmps) = true := by simp [Region.wanted, hg]
  rw [if_pos hw]
  rcases hm.two with ⟨rfl, rfl⟩ | ⟨ad, c, rfl, h1, h2, h3⟩
  · obtain ⟨i, hi, hz0, hz1, hz2⟩ := info_parts Try.info5
    have hrun := run_append_owned_none (P := Try.prog) (w := w) B 29 o.type 5 i 1 Try.underlying29 hi v l.length (cel l) hown
    unfold Oper.wp
    simp [execOp, hop, resolve, invoke, builtin, hs, hx, hrun, Result.andThen]
    exact hK v w (by simpa using hown) (World.grownBy.refl _ _)
  · obtain ⟨v', w', hr, q2, q3, q4⟩ := run_appN (P := Try.prog) w B 29 o.type 5 (.int .u8 0) 1 Try.underlying29 Try.info5 rfl v l.length (cel l) hown ad m.length c (cel m) (by simp [cel_length]) (by
      intro j u hu
      have hj : j < m.length := by have := (List.getElem?_eq_some_iff.1 hu).1; simpa [cel_length] using this
      rw [h3 j hj]; rw [cel_get m j hj] at hu; exact hu) (cel_one m) (by unfold maxLen; omega) (by omega) hB
    unfold Oper.wp execOp
    simp only [hop, resolve, invoke, builtin, Sem.run_bind, Sem.run_pure, Result.andThen_ok, List.map_toArray, List.map_cons, List.map_nil, hs, hx, hr]
    exact hK _ _ (by unfold Ow; rw [cel_append, List.length_append]; exact q2) q3

theorem rdI_nil (w : World) : RdI w (.slice none 0 0) [] := ⟨none, 0, rfl, by simp, by simp, fun i hi => by simp at hi⟩

def FILE : Nm := [102, 105, 108, 101]
def NEW : Nm := [110, 101, 119]
def st1 (f : List UInt8 × Nat) : St := setF none0 FILE (some f)
def st2 (f g : List UInt8 × Nat) : St := setF (st1 f) NEW (some g)
theorem st1_at (f : List UInt8 × Nat) : st1 f FILE = some f := setF_same _ _ _
theorem st1_set (f g : List UInt8 × Nat) : setF (st1 f) FILE (some g) = st1 g := setF_setF _ _ _ _
theorem st2_file (f g : List UInt8 × Nat) : st2 f g FILE = some f := by
  unfold st2; rw [setF_other _ _ (by decide)]; exact st1_at f
theorem st2_new (f g : List UInt8 × Nat) : st2 f g NEW = some g := setF_same _ _ _
theorem st2_setF (f g h : List UInt8 × Nat) : setF (st2 f g) FILE (some h) = st2 h g := by
  funext k
  by_cases h1 : k = FILE
  · subst h1; rw [setF_same, st2_file]
  · rw [setF_other _ _ h1]
    by_cases h2 : k = NEW
    · subst h2; rw [st2_new, st2_new]
    · unfold st2 st1; rw [setF_other _ _ h2, setF_other _ _ h2, setF_other _ _ h1, setF_other _ _ h1]
theorem st2_setN (f g h : List UInt8 × Nat) : setF (st2 f g) NEW (some h) = st2 f h := setF_setF _ _ _ _
theorem st2_names (f g : List UInt8 × Nat) : NamesOf (st2 f g) [FILE, NEW] := by
  refine ⟨fun nm => ?_, by decide, by simp only [List.pairwise_cons, List.mem_singleton, forall_eq, List.not_mem_nil, false_implies, implies_true, List.Pairwise.nil, and_true]; decide⟩
  by_cases h1 : nm = FILE
  · subst h1; simp [st2_file]
  · by_cases h2 : nm = NEW
    · subst h2; simp [st2_new]
    · simp [h1, h2, st2, st1, setF_other _ _ h1, setF_other _ _ h2, none0]
theorem st2_small (f g : List UInt8 × Nat) (hf : f.1.length ≤ 16777216) (hg : g.1.length ≤ 16777216) : ∀ nm x, st2 f g nm = some x → x.1.length ≤ 16777216 := by
  intro nm x e
  by_cases h1 : nm = FILE
  · subst h1; rw [st2_file] at e; obtain rfl := Option.some.inj e; exact hf
  · by_cases h2 : nm = NEW
    · subst h2; rw [st2_new] at e; obtain rfl := Option.some.inj e; exact hg
    · simp [st2, st1, setF_other _ _ h1, setF_other _ _ h2, none0] at e
theorem st2_sum (f g : List UInt8 × Nat) : sumB (st2 f g) [FILE, NEW] = f.1.length + g.1.length := by simp [sumB, st2_file, st2_new]

theorem keeps_crash (F S : List UInt8) (keep : Int) :
    crashF [FILE, NEW] [keep, 0] 0 (st2 (F ++ S, F.length) (S, 0)) (F.length + S.length + S.length) = (st2 (F ++ S.take (stays keep S.length), F.length + stays keep S.length) ([], 0), F.length + stays keep S.length) := by
  have hq : stays keep S.length ≤ S.length := by unfold stays; omega
  by_cases h : S = []
  · subst h
    simp [crashF, st2_file, st2_new, stays]
  · have hp : 0 < S.length := List.length_pos_iff.2 h
    have ht : (F ++ S).take (F.length + stays keep S.length) = F ++ S.take (stays keep S.length) := by
      rw [List.take_append, List.take_of_length_le (by omega), Nat.add_sub_cancel_left]
    have hne : ¬ F.length = (F ++ S).length := by rw [List.length_append]; omega
    have hl : (F ++ S).length - F.length = S.length := by rw [List.length_append]; omega
    have hne2 : ¬ 0 = S.length := by omega
    have hk0 : keepAt [keep, 0] 0 = keep := rfl
    have hk1 : keepAt [keep, 0] 1 = 0 := rfl
    have hs0 : stays 0 S.length = 0 := by unfold stays; simp
    rw [crashF, st2_file]
    simp only [if_neg hne, hl, hk0, st2_setF, ht]
    rw [crashF, st2_new]
    simp only [if_neg hne2, Nat.zero_add, hk1, Nat.sub_zero, hs0, List.take_zero, st2_setN, crashF]
    congr 1
    omega
theorem keeps_again (f : List UInt8) (sz : Nat) : crashF [FILE, NEW] [] 0 (st2 (f, f.length) ([], 0)) sz = (st2 (f, f.length) ([], 0), sz) := by
  simp [crashF, st2_file, st2_new]
theorem lcopy_any {v : Value} {l : List UInt8} {w : World} (hr : Rd w v l) (hl : l.length ≤ 140737488355328) :
    Calls Try.prog 15 #[v] w fun e w' => ∃ v', e = .returned v' ∧ Ow w.heap.size w' v' l ∧ Below w.heap.size w w' := by
  go_enter Try.func15, Try.ntmps15
  go_wp2_with (first | (at_builtin; refine wpList_app rfl _ _ rfl w.heap.size _ [] rfl (Ow.nil _ _) _ l rfl hr (Nat.le_refl _) (by simpa using hl) ?_; intro v' w' ho' hb' hg') | fail)
  go_ret
  exact ⟨_, rfl, ho', hb'⟩

set_option maxHeartbeats 600000 in
theorem keeps_walk {v : Value} {F : List UInt8} {w : World} (hF : Rd w v F) (hFl : F.length ≤ 140737488351232) {u : Value} {S : List UInt8} (hS : Rd w u S) (hSl : S.length ≤ 140737488351232) (keep : Int) (hkeep : -9223372036854775808 ≤ keep ∧ keep ≤ 9223372036854775807) :
    Calls Try.prog 4 #[v, u, .int .i64 keep] w fun e w' => e = .returned (.bool true) ∧ Below w.heap.size w w' := by
  obtain ⟨av, cv, ev, v1, v2, _, _⟩ := id hF
  obtain ⟨au, cu, eu, u1, u2, _, _⟩ := id hS
  subst ev
  subst eu
  unfold maxLen at v2 u2
  go_enter Try.func4, Try.ntmps4
  go_wp2_with fail
  refine (awake_any _).mono ?_
  rintro e w0 ⟨rfl, hb0⟩
  have hB0 : w.heap.size ≤ w0.heap.size := hb0.size
  have hF0 := hF.below hb0 (Nat.le_refl _)
  have hS0 := hS.below hb0 (Nat.le_refl _)
  by_cases hbig : 1048576 < F.length + S.length
  · go_wp2_with fail
    go_ret
    exact ⟨rfl, hb0⟩
  · go_wp2_with fail
    refine (new_any w0).mono ?_
    rintro e w1 ⟨d, own1, rfl, hd1, hb1⟩
    have hF1 := hF0.below hb1 (Nat.le_refl _)
    have hS1 := hS0.below hb1 (Nat.le_refl _)
    go_wp2_with fail
    refine (write_new hd1 ⟨#[102, 105, 108, 101]⟩ (by decide) (by decide) rfl hF1 (by omega) (by omega)).mono ?_
    rintro e w2 ⟨rfl, ⟨own2, hd2, _⟩, hc2⟩
    replace hd2 : Dk w0.heap.size d 1 own2 (st1 (F, 0)) (0 + F.length) (alive d) 0 w2 := hd2
    have hb12 : Below w0.heap.size w0 w2 := hb1.trans (hd1.chg hc2)
    have hS2 := hS0.below hb12 (Nat.le_refl _)
    have hF2 := hF0.below hb12 (Nat.le_refl _)
    clear hc2
    go_wp2_with fail
    refine (sync_alive hd2 ⟨#[102, 105, 108, 101]⟩ (by simp [ByteArray.size, maxLen]) (F, 0) (st1_at _)).mono ?_
    rintro e w3 ⟨rfl, ⟨own3, hd3, _⟩, hc3⟩
    replace hd3 : Dk w0.heap.size d 1 own3 (setF (st1 (F, 0)) FILE (some (F, F.length))) (0 + F.length) (alive d) 0 w3 := hd3
    rw [st1_set] at hd3
    have hb13 := hb12.trans (hd2.chg hc3)
    have hS3 := hS0.below hb13 (Nat.le_refl _)
    clear hc3
    go_wp2_with fail
    refine (write_there hd3 ⟨#[102, 105, 108, 101]⟩ (by decide) (by decide) (F, F.length) (st1_at _) hS3 (by omega) (by simp only []; omega)).mono ?_
    rintro e w4 ⟨rfl, ⟨own4, hd4, _⟩, hc4⟩
    replace hd4 : Dk w0.heap.size d 1 own4 (setF (st1 (F, F.length)) FILE (some (F ++ S, F.length))) (0 + F.length + S.length) (alive d) 0 w4 := hd4
    rw [st1_set] at hd4
    have hb14 := hb13.trans (hd3.chg hc4)
    have hS4 := hS0.below hb14 (Nat.le_refl _)
    clear hc4
    go_wp2_with fail
    refine (write_new hd4 ⟨#[110, 101, 119]⟩ (by decide) (by decide) (show st1 _ NEW = none by unfold st1; rw [setF_other _ _ (by decide)]; rfl) hS4 (by omega) (by omega)).mono ?_
    rintro e w5 ⟨rfl, ⟨own5, hd5, _⟩, hc5⟩
    replace hd5 : Dk w0.heap.size d 2 own5 (st2 (F ++ S, F.length) (S, 0)) (0 + F.length + S.length + S.length) (alive d) 0 w5 := hd5
    rw [Nat.zero_add] at hd5
    have hb15 := hb14.trans (hd4.chg hc5)
    clear hc5
    have hko : ∀ b, (Value.slice (some ⟨w5.heap.size, 0, none⟩) 2 2).ownBlock = some b → own5 b = none := fun b e => by
      by_cases q : own5 b = none
      · exact q
      · have := (hd5.lt b q).2
        have e2 : w5.heap.size = b := by simpa [Value.ownBlock] using e
        omega
    go_wp2_with fail
    refine (crash_any (hd5.below (Below.al w5 _)) (st2_names _ _) (by omega) (by rw [st2_sum]; simp) (st2_small _ _ (by simp; omega) (by simp only []; omega)) (by omega) (by simp) (rdI_lit2 w5 keep 0 _) hko (by simp; omega)).mono ?_
    rintro e w6 ⟨⟨v6, rfl⟩, ⟨own6, hd6, _⟩, hc6⟩
    rw [keeps_crash] at hd6
    have hb16 := (hb15.trans ((Below.al w5 (.cells #[.int .i64 keep, .int .i64 0] 3)).mono hd5.leB)).trans ((hd5.below (Below.al w5 _)).chg hc6)
    have hF6 := hF0.below hb16 (Nat.le_refl _)
    have hS6 := hS0.below hb16 (Nat.le_refl _)
    clear hc6 hd1 hd2 hd3 hd4 hd5 hF1 hF2 hS1 hS2 hS3 hS4 hko hb12 hb13 hb14 hb15
    obtain ⟨q, hq⟩ : ∃ q, stays keep S.length = q := ⟨_, rfl⟩
    have hmx : max 0 (min keep (S.length : Int)) = (q : Int) := by
      unfold stays at hq
      omega
    rw [hq] at hd6
    have hqs : q ≤ S.length := by unfold stays at hq; omega
    clear hq
    have hpre := hS6.pre q hqs
    have htk : (S.take q).length ≤ 1048576 := by rw [List.length_take]; omega
    have hlk : F.length ≤ 140737488355328 := by omega
    have hF6' : Rd w6.drew (.slice av F.length cv) F := hF6.drewN 1
    have hcp := lcopy_any hF6' hlk
    have HP : Hid _ := hpre
    clear hpre
    generalize hTK : S.take q = TK at *
    have hqc : q ≤ cu := by omega
    go_wp2_with fail
    go_region_law (first | (refine step_call rfl 15 (.tmp 54) #[29] rfl (.slice av F.length cv) (by simp [Act.eval, Act.put]) (enters_of Try.func15 (by kernel_rfl) rfl) _ hcp ?_; rintro v7 w7 ⟨ho7, hb7⟩) | (refine step_appN rfl (.tmp 55) (.tmp 58) rfl w6.drew.heap.size v7 F (by simp [Act.eval]) ho7 (.slice au q cu) TK (by simp [Act.eval]) (Rd.below HP.out (Below.tr (Below.dN w6 1) hb7) (Nat.le_refl _)) hb7.size (by omega) ?_; intro v8 w8 ho8 hg8) | fail)
    have hlo6 := hd6.lt
    have hfl : F.length + q = (F ++ TK).length := by rw [List.length_append, ← hTK, List.length_take]; omega
    rw [hfl] at hd6
    have hv7 : ∀ b, v7.ownBlock = some b → w6.heap.size ≤ b := fun b e => (World.ownsRow.lt ho7 b e).1
    have hv8 : ∀ b, v8.ownBlock = some b → own6 b = none := fun b e => by
      by_cases h : own6 b = none
      · exact h
      · have h1 : w6.heap.size ≤ b := (World.ownsRow.lt ho8 b e).1
        have := (hlo6 b h).2
        omega
    have hc8 : Chg (fun b => w6.heap.size ≤ b) w6 w8 := (Chg.of_below (Below.tr (Below.dN w6 1) hb7)).trans (Chg.of_grown hg8 (fun b e _ => Or.inl (hv7 b e)))
    have hd8 := hd6.next hc8 (fun b hb q => by have := (hlo6 b hb).2; omega)
    have hb18 : Below w0.heap.size w0 w8 := hb16.trans (hc8.below (fun b hb => Nat.le_trans hd6.leB hb) hd6.leB)
    have hwant : Ow w6.heap.size w8 v8 (F ++ TK) := ho8
    clear ho8 hg8 hc8 hd6 hcp hF6' hF6 hS6 HP hb7 ho7 hb16 hlo6
    have hfs : (F ++ TK).length ≤ 1048576 := by rw [← hfl]; omega
    generalize hW : F ++ TK = WN at *
    clear hfl hmx hW hTK
    go_wp2_with fail
    go_loopw [10, 11, 12, 13, 14] (fun i _ _ _ _ wr => ∃ (k : Nat) (own' : Nat → Option Role), k ≤ 2 ∧ i = .int .i64 k ∧ Dk w0.heap.size d 2 own' (st2 (WN, WN.length) ([], 0)) WN.length (alive d) 0 wr ∧ Ow w6.heap.size wr v8 WN ∧ (∀ b, v8.ownBlock = some b → own' b = none) ∧ Below w0.heap.size w0 wr) (fun i _ _ _ _ _ => 2 - (intOf i).toNat)
    case atStart => exact ⟨0, own6, by omega, rfl, hd8, hwant, hv8, hb18⟩
    case round =>
      obtain ⟨k, own', hk, rfl, hd, hw, hout, hb⟩ := hrel
      clear hd8 hwant hv8 hb18
      by_cases hlt : k < 2
      · have hB := hd.leB
        go_wp2_with fail
        refine (read_alive hd ⟨#[102, 105, 108, 101]⟩ (by simp [ByteArray.size, maxLen]) (WN, WN.length) (st2_file _ _) (by simp only []; omega)).mono ?_
        rintro e w9 ⟨v9, rfl, ho9, hb9⟩
        have hd9 := hd.below hb9
        have hw9 := hw.below hb9 (Nat.le_refl _)
        have hb19 := hb.trans (hb9.mono hB)
        go_wp2_with fail
        refine (read_alive hd9 ⟨#[110, 101, 119]⟩ (by simp [ByteArray.size, maxLen]) ([], 0) (st2_new _ _) (by simp)).mono ?_
        rintro e w10 ⟨v10, rfl, ho10, hb10⟩
        have hd10 := hd9.below hb10
        have hw10 := hw9.below hb10 (Nat.le_refl _)
        have hb110 := hb19.trans (hb10.mono hd9.leB)
        obtain ⟨a10, c10, e10, _⟩ := ho10.rd
        subst e10
        go_wp2_with fail
        refine (same_any (ho9.rd.below hb10 (Nat.le_refl _)) hw10.rd).mono ?_
        rintro e w11 ⟨rfl, k11, rfl⟩
        rw [decide_eq_true rfl]
        have hd11 := hd10.drN k11
        have hw11 := hw10.drewN k11
        have hb111 := hb110.trans ((Below.dN w10 k11).mono hd10.leB)
        have hS01 : 0 < S.length ∨ S.length < 1 := by omega
        rcases hS01 with hS1 | hS1
        all_goals
          go_wp2_with fail
          refine (dead_alive hd11).mono ?_
          rintro e w12 ⟨rfl, k12, rfl⟩
          have hd12 := hd10.drN (k11 + k12)
          have hw12 := hw10.drewN (k11 + k12)
          have hb112 := hb110.trans ((Below.dN w10 (k11 + k12)).mono hd10.leB)
          go_wp2_with fail
          refine (crash_any hd12 (st2_names _ _) (by omega) (by rw [st2_sum]; simp) (st2_small _ _ (by simp only []; omega) (by simp)) (by omega) (by simp) (rdI_nil _) (fun b e => by simp [Value.ownBlock] at e) (by simp)).mono ?_
          rintro e w13 ⟨⟨v13, rfl⟩, ⟨own13, hd13, hx13⟩, hc13⟩
          rw [keeps_again] at hd13
          have hw13 := hw12.keptC hc13 (fun b e q => q (hout b e))
          have hb113 := hb112.trans (hd12.chg hc13)
          have hout13 : ∀ b, v8.ownBlock = some b → own13 b = none := fun b e => by
            by_cases h : own13 b = none
            · exact h
            · rcases hx13 b h with q | q
              · exact absurd (hout b e) q
              · have := (World.ownsRow.lt hw12 b e).2; omega
          go_wp2_with fail
          exact ⟨⟨k + 1, own13, by omega, by go_num, hd13, hw13, hout13, hb113⟩, by simp [intOf]; omega⟩
      · go_wp2_with fail
        go_ret
        exact ⟨rfl, hb0.trans (hb.mono hB0)⟩

namespace diskKeeps
theorem own : ownKnob Try.prog.godebug = none := by kernel_rfl
theorem laidOut : laidOutB Try.prog = true := by kernel_rfl

theorem lifted (os : Os) (started : os.Started) (H : Type) (enc : TypeId × Value → H) :
    ReturnsInHanded {} Try.checked os 4 .any (Rows.diskKeepsSpec.pre6 enc Try.prog Try.f4 Rows.diskKeepsRow.domain false) (Rows.diskKeepsSpec.post enc Try.prog Try.f4 false true false false) := by
  refine returnsInHanded_of_change_sized (C := Try.checked) own started (by kernel_rfl) Try.func4
    (ChangeSpec.witness6 (enc := enc) (C := Try.checked) false ⟨#[], #[.slice none 0 0, .slice none 0 0, .int .i64 0], []⟩ 8 (by kernel_rfl) (by kernel_rfl) (by kernel_rfl) (by kernel_rfl)) ?_
  intro W base args ds gs before hval0 hW _ hsz0 _
  have hsz : (DataW.weightsEach Try.prog (Try.f4.params.toList ++ Rows.diskKeepsSpec.plain.varTypes Try.prog) (ds ++ gs)).all (· ≤ reachBytes) = true := hsz0
  have hval : ∀ (j : Nat) t v, Try.f4.params[j]? = some t → args[j]? = some v → Value.okWide Try.prog W .any base t v := hval0
  have hW' := hW
  obtain ⟨p, q, hA0, hV, rfl, hfz, hnd⟩ := hW
  have hA : DataW.TrodAll enc Try.prog W 0 (fun _ => true) true Try.f4.params.toList args.toList ds p := hA0
  rw [Try.params4] at hA hval hsz
  obtain ⟨v0, vs0, d0, ds0, p0, q0, hargs, rfl, rfl, h0, r0⟩ := trodAll_cons hA
  obtain ⟨v1, vs1, d1, ds1, p1, q1, rfl, rfl, rfl, h1, r1⟩ := trodAll_cons r0
  obtain ⟨v2, vs2, d2, ds2, p2, q2, rfl, rfl, rfl, h2, r2⟩ := trodAll_cons r1
  obtain ⟨rfl, rfl, rfl⟩ := trodAll_nil r2
  obtain rfl : args = #[v0, v1, v2] := by cases args; simp_all
  obtain ⟨rfl, rfl⟩ := trodVars_none hV
  obtain ⟨a0, len0, cap0, rfl⟩ := okWide_slice Try.underlying29 (hval 0 29 v0 rfl rfl)
  have k0 := h0
  have lt0 : ∀ x ∈ p0, x.block < W.heap.size := by obtain ⟨m, hm⟩ := k0; exact DataW.trod_lt m _ _ _ hm
  obtain ⟨l0, hr0, hlen0, zs0, hz0⟩ := open_bytes h0
  have hl0 : l0.length ≤ 140737488351232 := by
    rcases hz0 with ⟨_, h⟩ | ⟨hd, hzl, hle⟩
    · omega
    · subst hd
      have := sized_slice hsz (j := 0) (t := 29) (e := 5) rfl rfl Try.underlying29
      rw [Try.bytes5] at this
      simp only [lits, List.length_map, List.length_take, List.length_drop, reachBytes] at this
      omega
  obtain ⟨a1, len1, cap1, rfl⟩ := okWide_slice Try.underlying29 (hval 1 29 v1 rfl rfl)
  have k1 := h1
  have lt1 : ∀ x ∈ p1, x.block < W.heap.size := by obtain ⟨m, hm⟩ := k1; exact DataW.trod_lt m _ _ _ hm
  obtain ⟨l1, hr1, hlen1, zs1, hz1⟩ := open_bytes h1
  have hl1 : l1.length ≤ 140737488351232 := by
    rcases hz1 with ⟨_, h⟩ | ⟨hd, hzl, hle⟩
    · omega
    · subst hd
      have := sized_slice hsz (j := 1) (t := 29) (e := 5) rfl rfl Try.underlying29
      rw [Try.bytes5] at this
      simp only [lits, List.length_map, List.length_take, List.length_drop, reachBytes] at this
      omega
  obtain ⟨x2, rfl, rfl, rfl, w2⟩ := open_int Try.underlying3 (hval 2 3 v2 rfl rfl) h2
  have hx2 : -9223372036854775808 ≤ x2 ∧ x2 ≤ 9223372036854775807 := by simpa [Lit.wf, IntKind.min, IntKind.max, IntKind.signed, IntKind.bits] using w2
  clear hA0 hval0
  refine (keeps_walk hr0 hl0 hr1 hl1 x2 hx2).mono fun e W' ⟨he, bel⟩ => ?_
  subst he
  exact ⟨_, rfl, _, _, _, [], _, [], hW', trodAll_mk1 (shut_bool Try.underlying4 _), (trodAll_cons_mk (Below.trod laidOut (by kernel_rfl) (of_decide_eq_true (by kernel_rfl)) k0 bel lt0) (trodAll_cons_mk (Below.trod laidOut (by kernel_rfl) (of_decide_eq_true (by kernel_rfl)) k1 bel lt1) (trodAll_cons_mk (shut_int Try.underlying3 w2) trodAll_mk0))), rfl, bel.frame _, fun h => by cases h⟩
end diskKeeps

/-- The statement. -/
theorem diskKeeps_holds : Rows.DiskKeepsSaid :=
  OpenClaim.holds_of_wide 4 Try.f4 rfl rfl rfl rfl rfl rfl rfl ⟨rfl, rfl, rfl, rfl, rfl⟩ rfl rfl rfl rfl rfl (by kernel_rfl) Try.func4 (by kernel_rfl)
    (of_decide_eq_true (by kernel_rfl)) (by unfold Func.isWrapper; first | (rw [if_pos (by decide +kernel)]; kernel_rfl) | (rw [if_neg (by decide +kernel)]; exact ⟨rfl, rfl⟩))
    (fun os started H enc _ => diskKeeps.lifted os started H enc)
#print axioms diskKeeps_holds

end Go.Proofs.Ytbolnelbchffhac
