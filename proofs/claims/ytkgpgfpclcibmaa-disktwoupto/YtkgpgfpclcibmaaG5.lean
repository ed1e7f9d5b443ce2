/- Files appended to a list of files of the call's own. -/
import Derived.Test.YtkgpgfpclcibmaaG4
import Derived.Test.YtkgpgfpclcibmaaG1
import Derived.Deep.RegionHeld3
import Derived.Deep.RegionLaw
namespace Go.Proofs.Ytkgpgfpclcibmaa
open Go.RowKit
set_option linter.unusedVariables false
set_option maxRecDepth 100000

theorem Try.infoFile : (Try.prog.info? 130).map (fun i => (i.zero, i.size, i.bytes)) = some (some (.agg #[.string ⟨#[]⟩, .slice none 0 0, .int .i64 0]), 3, 48) := by kernel_rfl

theorem run_appS {P : Program} (w : World) (base : Nat) (t ty e : TypeId) (z : Value) (size bytes : Nat) (ht : P.underlying t = some (.slice e)) (hinf : (P.info? e).map (fun i => (i.zero, i.size, i.bytes)) = some (some z, size, bytes)) (hzs : z.cells.size = size) (hs0 : 0 < size)
    (v : Value) (n : Nat) (xs : List Value) (hown : w.ownsRow base e size v n xs) (a : Addr) (m c : Nat) (news : List Value) (hnl : news.length = m * size) (hnews : ∀ j u, news[j]? = some u → w.cell? (a.add j) = some u) (hone : ∀ u ∈ news, u.oneCell' = true)
    (h63 : n + m ≤ maxLen) (hb : (n + m) * bytes ≤ 140737488355328) (hbase : base ≤ w.heap.size) :
    ∃ v' w', (Builtin.append_ #[t, t] ty #[v, .slice (some a) m c]).run P w = .ok v' w' ∧ w'.ownsRow base e size v' (n + m) (xs ++ news) ∧ w.grownBy w' v.ownBlock ∧ (v'.ownBlock = v.ownBlock ∨ v'.ownBlock = some w.heap.size) := by
  obtain ⟨i, hi, hz0, hz1, hz2⟩ := info_parts hinf
  obtain ⟨v', w', hr, ho, hg, hnil⟩ := run_append_own (P := P) w base t ty e i z size bytes ht hi hz0 hz1 hz2 hzs hs0 v n xs hown a m c news hnl hnews hone h63 hb hbase
  refine ⟨v', w', hr, ho, hg, ?_⟩
  have hlen : news.length = m * i.size := by rw [hz1]; exact hnl
  have hm : n + m ≤ 9223372036854775807 := by unfold maxLen at h63; omega
  rcases hown.2 with ⟨rfl, rfl⟩ | ⟨g, cap, cur, rfl, hbg, hh, hnc, hcm, hcs, htake⟩
  · by_cases h0 : m = 0
    · left; rw [hnil.2 ⟨rfl, h0⟩]
    · have hr2 := run_append_nil (P := P) w t ty e i z ht hi hz0 a m c news hlen hnews (by omega) (by omega) (by rw [hz2]; simp only [Nat.zero_add] at hb; omega)
      rw [hr2] at hr
      simp only [Result.ok.injEq] at hr
      right; rw [← hr.1]; rfl
  · by_cases hroom : n + m ≤ cap
    · have hfit : n * i.size + news.length ≤ cur.size := by rw [hcs, hz1, hnl, ← Nat.add_mul]; exact Nat.mul_le_mul_right _ hroom
      have hr2 := run_append_room (P := P) w t ty e i ht hi g n cap cur hh a m c news hlen hnews hone hroom hfit
      rw [hr2] at hr
      simp only [Result.ok.injEq] at hr
      left; rw [← hr.1]; rfl
    · have holds : ∀ j x, xs[j]? = some x → w.cell? ((⟨g, 0, none⟩ : Addr).add j) = some x := hown.cells (g := g) rfl
      have hr2 := run_append_grow (P := P) w t ty e i z ht hi hz0 ⟨g, 0, none⟩ n cap xs (by rw [hz1]; exact hown.1) holds a m c news hlen hnews (by omega) (by omega) (by rw [hz2]; exact growslice_fits (by omega) hb)
      rw [hr2] at hr
      simp only [Result.ok.injEq] at hr
      right; rw [← hr.1]; rfl

/-- The slice value v reads as these files. -/
def RdF (w : World) (v : Value) (P : List (Fl × Value)) : Prop :=
  ∃ ao c, v = .slice ao P.length c ∧ (ao = none → c = 0 ∧ P = []) ∧ (∀ x ∈ P, ∃ b m k, x.2 = .slice b m k) ∧ ∀ j u, (flCs P)[j]? = some u → ∃ a, ao = some a ∧ w.cell? (a.add j) = some u

theorem flCs_one {P : List (Fl × Value)} (h : ∀ x ∈ P, ∃ b m k, x.2 = .slice b m k) : ∀ u ∈ flCs P, u.oneCell' = true := by
  intro u hu
  obtain ⟨x, hx, hu⟩ := List.mem_flatMap.1 hu
  obtain ⟨b, m, k, e⟩ := h x hx
  simp only [flC, List.mem_cons, List.not_mem_nil, or_false] at hu
  rcases hu with rfl | rfl | rfl
  · rfl
  · rw [e]; rfl
  · rfl

/-- 'append(out, x...)' of files, out the call's own. -/
theorem wpList_appF {w : World} {ops : Array Oper} {rest : List Oper} {o : Oper} {a : Act} {Q : Exit → Act → World → Prop} (hgd : o.guard = none) (s x : Operand)
    (ho : o.op = .call { callee := .builtin .append, args := #[s, x], argTypes := #[80, 80] })
    (B : Nat) (v : Value) (l : List (Fl × Value)) (hs : a.eval s = v) (hown : w.ownsRow B 130 3 v l.length (flCs l)) (vx : Value) (m : List (Fl × Value)) (hx : a.eval x = vx) (hm : RdF w vx m)
    (hB : B ≤ w.heap.size) (hlen : l.length + m.length ≤ 1099511627776)
    (h : ∀ v' w', w'.ownsRow B 130 3 v' (l ++ m).length (flCs (l ++ m)) → w.grownBy w' v.ownBlock → (v'.ownBlock = v.ownBlock ∨ v'.ownBlock = some w.heap.size) → wpList Try.prog ops Q rest (a.put o.dst v') w') : wpList Try.prog ops Q (o :: rest) a w := by
  obtain ⟨i, hi, hz0, hz1, hz2⟩ := info_parts Try.infoFile
  obtain ⟨ao, c, rfl, h0, h1, h3⟩ := hm
  cases ao with
  | none =>
    obtain ⟨rfl, rfl⟩ := h0 rfl
    refine wpList_append_own_none hgd s x 80 ho B 130 i 3 Try.underlying80 hi _ _ _ hs hown hx ?_
    exact h v w (by simpa using hown) (World.grownBy.refl _ _) (.inl rfl)
  | some ad =>
    refine wpList_plain hgd fun K hK => ?_
    obtain ⟨v', w', hr, q2, q3, q4⟩ := run_appS (P := Try.prog) w B 80 o.type 130 _ 3 48 Try.underlying80 Try.infoFile rfl (by decide) v l.length (flCs l) hown ad m.length c (flCs m) (flCs_length m) (by
      intro j u hu
      obtain ⟨a', e, hc⟩ := h3 j u hu
      obtain rfl := Option.some.inj e
      exact hc) (flCs_one h1) (by unfold maxLen; omega) (by omega) hB
    unfold Oper.wp execOp
    simp only [ho, resolve, invoke, builtin, Sem.run_bind, Sem.run_pure, Result.andThen_ok, List.map_toArray, List.map_cons, List.map_nil, hs, hx, hr]
    exact hK _ _ (h v' w' (by rw [flCs_app, List.length_append]; exact q2) q3 q4)
end Go.Proofs.Ytkgpgfpclcibmaa

/- A new list of files for the document's disk; gone. -/
namespace Go.Proofs.Ytkgpgfpclcibmaa
open Go.RowKit
set_option linter.unusedVariables false
set_option maxRecDepth 100000

theorem ownsRow_low {w : World} {B B' : Nat} {e : TypeId} {size n : Nat} {v : Value} {xs : List Value} (h : w.ownsRow B' e size v n xs) (hB : B ≤ B') : w.ownsRow B e size v n xs := by
  refine ⟨h.1, ?_⟩
  rcases h.2 with q | ⟨g, cap, cur, q, hb, rest⟩
  · exact .inl q
  · exact .inr ⟨g, cap, cur, q, Nat.le_trans hB hb, rest⟩

theorem ownsRow_shape {w : World} {B : Nat} {e : TypeId} {size n : Nat} {v : Value} {xs : List Value} (h : w.ownsRow B e size v n xs) : ∃ a m c, v = .slice a m c := by
  rcases h.2 with ⟨q, q0⟩ | ⟨g, cap, cur, q, _⟩
  · exact ⟨_, _, _, q⟩
  · exact ⟨_, _, _, q⟩

section
variable {B r : Nat} {fv : Value} {P : List (Fl × Value)} {S S' : Nat → Prop} {L : List Fl} {left left' : Int} {dd : Bool} {w : World}

theorem RfI.slices (h : RfI B r fv P S left dd w) : ∀ x ∈ P, ∃ b m k, x.2 = .slice b m k := fun x hx => by
  obtain ⟨ao, c, e, _⟩ := (h.data x hx).1
  exact ⟨_, _, _, e⟩
/-- The first k files. -/
theorem RfI.pre {a : Option Addr} {n c : Nat} (h : RfI B r (.slice a n c) P S left dd w) (k : Nat) (hk : k ≤ P.length) : RdF w (.slice a k c) (P.take k) := by
  rcases h.row.2 with ⟨q, q0⟩ | ⟨g, cap, cur, q, hB, hg, q1, q2, q3, q4⟩
  · simp only [Value.slice.injEq] at q
    obtain ⟨rfl, rfl, rfl⟩ := q
    have hP : P = [] := List.length_eq_zero_iff.1 q0
    subst hP
    obtain rfl : k = 0 := by simpa using hk
    exact ⟨none, 0, rfl, fun _ => ⟨rfl, rfl⟩, by simp, by simp [flCs]⟩
  · simp only [Value.slice.injEq] at q
    obtain ⟨rfl, rfl, rfl⟩ := q
    refine ⟨some ⟨g, 0, none⟩, c, by rw [List.length_take, Nat.min_eq_left hk], (fun e => by cases e), fun x hx => h.slices x (List.mem_of_mem_take hx), fun j u hu => ⟨_, rfl, ?_⟩⟩
    rw [← flCs_take, List.getElem?_take] at hu
    split at hu
    · exact h.row.cells (g := g) rfl j u hu
    · cases hu
/-- The files from k on. -/
theorem RfI.post {g n c : Nat} (h : RfI B r (.slice (some ⟨g, 0, none⟩) n c) P S left dd w) (k : Nat) (hk : k ≤ P.length) : RdF w (.slice (some ⟨g, k * 3, none⟩) (P.length - k) (c - k)) (P.drop k) := by
  refine ⟨some ⟨g, k * 3, none⟩, c - k, by rw [List.length_drop], (fun e => by cases e), fun x hx => h.slices x (List.mem_of_mem_drop hx), fun j u hu => ⟨_, rfl, ?_⟩⟩
  rw [← flCs_drop, List.getElem?_drop] at hu
  have := h.row.cells (g := g) rfl _ u hu
  rw [Addr.add_lit] at this ⊢
  simpa using this
theorem RdF.end0 (w : World) (a : Option Addr) (c : Nat) (h : a = none → c = 0) : RdF w (.slice a 0 c) [] := ⟨a, c, rfl, fun e => ⟨h e, rfl⟩, by simp, by simp [flCs]⟩
theorem RdF.keptC {T : Nat → Prop} {w w' : World} {v : Value} {P : List (Fl × Value)} (h : RdF w v P) (hg : Chg T w w') (hne : ∀ b, v.ownBlock = some b → ¬ T b) : RdF w' v P := by
  obtain ⟨ao, c, rfl, h1, h2, h3⟩ := h
  refine ⟨ao, c, rfl, h1, h2, fun j u hu => ?_⟩
  obtain ⟨a, rfl, hc⟩ := h3 j u hu
  have hlt := World.block_lt_of_cell? w _ hc
  rw [add_block] at hlt
  refine ⟨a, rfl, ?_⟩
  rw [World.cell?_of_block (w := w) (by rw [add_block]; exact hg.block a.block hlt (hne a.block rfl))]
  exact hc

/-- The disk with a new list. -/
theorem RfI.newRow (h : RfI B r fv P S left dd w) {w2 : World} (hc : Chg (fun b => w.heap.size ≤ b) w w2) {v2 : Value} {Q : List (Fl × Value)} (hrow : w2.ownsRow w.heap.size 130 3 v2 Q.length (flCs Q))
    (hQ : ∀ x ∈ Q, (Rd w x.2 x.1.2.1 ∧ x.1.2.2 ≤ x.1.2.1.length ∧ x.1.1.length ≤ 64) ∧ ∀ b, x.2.ownBlock = some b → S b ∧ b ≠ r) :
    RfI B r v2 Q (fun b => S b ∨ v2.ownBlock = some b) left dd (w2.setCell ⟨r, 0, none⟩ v2) ∧ Chg S w (w2.setCell ⟨r, 0, none⟩ v2) ∧ Chg (fun b => b = r) w (w2.setCell ⟨r, 0, none⟩ v2) := by
  have hlt := World.ownsRow.lt hrow
  have hrl := (h.lo r h.sr).2
  have hB : B ≤ w.heap.size := by have := h.lo r h.sr; omega
  have hc2 : Chg (fun b => b = r) w2 (w2.setCell ⟨r, 0, none⟩ v2) := (Chg.refl (fun b => b = r) w2).put r 0 v2 rfl
  have hc02 : Chg (fun b => b = r ∨ w.heap.size ≤ b) w (w2.setCell ⟨r, 0, none⟩ v2) := (hc.mono (fun b _ q => Or.inr q)).trans (hc2.mono (fun b _ q => .inl (.inl q)))
  have hcell : w2.heap[r]? = some (.cells #[fv, .int .i64 left, .bool dd] 82 (0, 0)) := by rw [hc.block r hrl (by omega)]; exact h.cell
  have hvr : v2.ownBlock ≠ some r := fun e => by have := hlt r e; omega
  refine ⟨⟨by rw [heap_setCell_same _ _ 0 _ _ _ hcell]; rfl, ownsRow_low (ownsRow_keptC hrow hc2 (fun b hb e => hvr (by rw [hb, e]))) hB, fun x hx => ⟨(hQ x hx).1.1.keptC hc02 (fun b hb q => ?_), (hQ x hx).1.2⟩, .inl h.sr, fun b hb => .inr hb, fun x hx b hb => ⟨.inl ((hQ x hx).2 b hb).1, ((hQ x hx).2 b hb).2, fun e => ?_⟩, hvr, fun b hb => ?_⟩, hc02.mono (fun b hb q => ?_), hc02.mono (fun b hb q => by rcases q with q | q; exact q; omega)⟩
  · rcases q with q | q
    · exact ((hQ x hx).2 b hb).2 q
    · have := (h.lo b ((hQ x hx).2 b hb).1).2; omega
  · have := (h.lo b ((hQ x hx).2 b hb).1).2
    have := (hlt b e).1
    omega
  · have hs2 := hc02.size
    rcases hb with q | q
    · exact ⟨(h.lo b q).1, Nat.lt_of_lt_of_le (h.lo b q).2 hs2⟩
    · have := hlt b q
      exact ⟨by omega, by simpa using this.2⟩
  · rcases q with q | q
    · rw [q]; exact h.sr
    · omega

theorem gone_mid {w w1 : World} {v1 : Value} {Q R : List (Fl × Value)} {r g : Nat} {o n c : Nat} (ho1 : w1.ownsRow w.heap.size 130 3 v1 Q.length (flCs Q)) (hg1 : w.grownBy w1 (Value.slice none 0 0).ownBlock) (hrl : r < w.heap.size) (hgl : g < w.heap.size) (hp : RdF w (.slice (some ⟨g, o, none⟩) n c) R) :
    Chg (fun b => w.heap.size ≤ b) w w1 ∧ (∀ b, v1.ownBlock = some b → w.heap.size ≤ b ∧ b < w1.heap.size) ∧ w.heap.size ≤ w1.heap.size ∧ some r ≠ v1.ownBlock ∧ RdF w1 (.slice (some ⟨g, o, none⟩) n c) R := by
  have hc1 : Chg (fun b => w.heap.size ≤ b) w w1 := Chg.of_grown hg1 (fun b e _ => by cases e)
  refine ⟨hc1, World.ownsRow.lt ho1, hg1.size, fun e => ?_, hp.keptC hc1 (fun b hb q => ?_)⟩
  · have := (World.ownsRow.lt ho1 r e.symm).1; omega
  · have e : g = b := Option.some.inj hb
    omega

set_option maxHeartbeats 1000000 in
theorem rgone_fine (h : Rf B r S L left dd w) (k : Nat) (hk : k < L.length) (hL : L.length ≤ 1099511627776) :
    Calls Try.prog 80 #[.pointer (some ⟨r, 0, none⟩), .int .i64 (k : Int)] w fun e w' => (∃ v, e = .returned v) ∧ (∃ S', Rf B r S' (dropL L k) left dd w' ∧ ∀ b, S' b → S b ∨ w.heap.size ≤ b) ∧ Chg (fun b => b = r) w w' := by
  obtain ⟨fv, P, rfl, h⟩ := h
  obtain ⟨c0, c1, c2, cz⟩ := h.cells
  have z0 := cz 0
  rw [List.length_map] at hk hL
  obtain ⟨a, c, rfl, h1, h2, h3, h4⟩ := h.shape
  obtain ⟨g, rfl, _⟩ := h4 k P[k] (List.getElem?_eq_getElem hk)
  unfold maxLen at h2
  clear h3 h4 cz
  have hgl : g < w.heap.size := (h.lo g (h.sf g rfl)).2
  have hrl : r < w.heap.size := (h.lo r h.sr).2
  have hpre := h.pre k (by omega)
  have hpost : ∀ a', ((c = k + 1) → a' = some ⟨g, 0, none⟩) → (¬ c = k + 1 → a' = some ⟨g, (k + 1) * 3, none⟩) → RdF w (.slice a' (P.length - (k + 1)) (c - (k + 1))) (P.drop (k + 1)) := by
    intro a' ha1 ha2
    by_cases q : c = k + 1
    · rw [ha1 q, List.drop_of_length_le (by omega), show P.length - (k + 1) = 0 by omega]
      exact RdF.end0 _ _ _ (fun e => by cases e)
    · rw [ha2 q]; exact h.post (k + 1) (by omega)
  have hfin := fun {w2 : World} (hc : Chg (fun b => w.heap.size ≤ b) w w2) {v2 : Value} (hrow : w2.ownsRow w.heap.size 130 3 v2 (P.take k ++ P.drop (k + 1)).length (flCs (P.take k ++ P.drop (k + 1)))) => h.newRow hc hrow (fun x hx => by
    have hm : x ∈ P := by
      rcases List.mem_append.1 hx with q | q
      · exact List.mem_of_mem_take q
      · exact List.mem_of_mem_drop q
    exact ⟨h.data x hm, fun b hb => ⟨(h.sd x hm b hb).1, (h.sd x hm b hb).2.1⟩⟩)
  have hmap : (P.take k ++ P.drop (k + 1)).map (·.1) = dropL (P.map (·.1)) k := by simp [dropL, List.map_take, List.map_drop]
  have H : Hid _ := hmap
  clear h hmap
  by_cases hck : c = k + 1
  · subst hck
    have hp : RdF w (.slice (some ⟨g, 0, none⟩) 0 0) (P.drop (k + 1)) := by rw [List.drop_of_length_le (by omega)]; exact RdF.end0 _ _ _ (fun e => by cases e)
    clear hpost
    go_enter Try.func80, Try.ntmps80
    go_wp2_with (first
      | (at_builtin; refine wpList_appF rfl _ _ rfl w.heap.size (.slice none 0 0) [] rfl (World.ownsRow_nil _ _ _ _) _ (P.take k) rfl hpre (Nat.le_refl _) (by simp; omega) ?_; intro v1 w1 ho1 hg1 hv1; have c01 := hg1.cell c0 (fun e => by cases e); obtain ⟨hc1, hlt1, hs1, hr1, hp1⟩ := gone_mid ho1 hg1 hrl hgl hp)
      | (at_builtin; (refine wpList_appF rfl _ _ rfl w.heap.size v1 (P.take k) rfl ho1 _ (P.drop (k + 1)) rfl hp1 hs1 (by simp; omega) ?_; intro v2 w2 ho2 hg2 hv2; obtain ⟨av2, nv2, cv2, rfl⟩ := ownsRow_shape ho2; have c02 := hg2.cell c01 hr1; have z02 : w2.frozen? ⟨r, 0, none⟩ = false := by rw [World.frozen?_of_block (hg2.block r (by omega) hr1), World.frozen?_of_block (hg1.block r (by omega) (fun e => by cases e))]; exact z0))
      | fail)
    go_end0
    have hc2 : Chg (fun b => w.heap.size ≤ b) w w2 := hc1.trans ((Chg.of_grown (S := fun b => w.heap.size ≤ b) hg2 (fun b e _ => (hlt1 b e).1)).mono (fun b _ q => .inl q))
    have hF := hfin hc2 ho2
    exact ⟨⟨_, rfl⟩, ⟨_, ⟨_, _, H.out, hF.1⟩, fun b q => by rcases q with q | q; exact .inl q; exact .inr (World.ownsRow.lt ho2 b q).1⟩, hF.2.2⟩
  · have hp := hpost (some ⟨g, (k + 1) * 3, none⟩) (fun q => absurd q hck) (fun _ => rfl)
    clear hpost
    go_enter Try.func80, Try.ntmps80
    go_wp2_with (first
      | (at_builtin; refine wpList_appF rfl _ _ rfl w.heap.size (.slice none 0 0) [] rfl (World.ownsRow_nil _ _ _ _) _ (P.take k) rfl hpre (Nat.le_refl _) (by simp; omega) ?_; intro v1 w1 ho1 hg1 hv1; have c01 := hg1.cell c0 (fun e => by cases e); obtain ⟨hc1, hlt1, hs1, hr1, hp1⟩ := gone_mid ho1 hg1 hrl hgl hp)
      | (at_builtin; (refine wpList_appF rfl _ _ rfl w.heap.size v1 (P.take k) rfl ho1 _ (P.drop (k + 1)) rfl hp1 hs1 (by simp; omega) ?_; intro v2 w2 ho2 hg2 hv2; obtain ⟨av2, nv2, cv2, rfl⟩ := ownsRow_shape ho2; have c02 := hg2.cell c01 hr1; have z02 : w2.frozen? ⟨r, 0, none⟩ = false := by rw [World.frozen?_of_block (hg2.block r (by omega) hr1), World.frozen?_of_block (hg1.block r (by omega) (fun e => by cases e))]; exact z0))
      | fail)
    go_end0
    have hc2 : Chg (fun b => w.heap.size ≤ b) w w2 := hc1.trans ((Chg.of_grown (S := fun b => w.heap.size ≤ b) hg2 (fun b e _ => (hlt1 b e).1)).mono (fun b _ q => .inl q))
    have hF := hfin hc2 ho2
    exact ⟨⟨_, rfl⟩, ⟨_, ⟨_, _, H.out, hF.1⟩, fun b q => by rcases q with q | q; exact .inl q; exact .inr (World.ownsRow.lt ho2 b q).1⟩, hF.2.2⟩
theorem rgone_any (h : Rf B r S L left dd w) (k : Nat) (hk : k < L.length) (hL : L.length ≤ 1099511627776) :
    Calls Try.prog 80 #[.pointer (some ⟨r, 0, none⟩), .int .i64 (k : Int)] w fun e w' => (∃ v, e = .returned v) ∧ (∃ S', Rf B r S' (dropL L k) left dd w' ∧ ∀ b, S' b → S b ∨ w.heap.size ≤ b) ∧ Chg S w w' := by
  have hr : S r := by obtain ⟨_, _, _, h⟩ := h; exact h.sr
  refine (rgone_fine h k hk hL).mono ?_
  rintro e w' ⟨h1, h2, h3⟩
  exact ⟨h1, h2, h3.mono (fun b _ q => by rw [q]; exact hr)⟩
end
end Go.Proofs.Ytkgpgfpclcibmaa

/- What Rename of the document's disk refuses. -/
namespace Go.Proofs.Ytkgpgfpclcibmaa
open Go.RowKit
set_option linter.unusedVariables false
set_option maxRecDepth 100000

section
variable {B r : Nat} {fv : Value} {P : List (Fl × Value)} {S S' : Nat → Prop} {L : List Fl} {left left' : Int} {dd : Bool} {w : World}

theorem rrename_dead (h : Rf B r S L left true w) (s t : ByteArray) :
    Calls Try.prog 44 #[.pointer (some ⟨r, 0, none⟩), .string s, .string t] w fun e w' => e = .returned (.int .i64 21) ∧ ∃ q, w' = w.drewN q := by
  obtain ⟨c1, c2, z1, z2⟩ := h.cells
  go_enter Try.func44, Try.ntmps44
  go_wp2_with fail
  refine (rfind_any h s).mono ?_
  rintro e w1 ⟨b, rfl, hb, q1, rfl⟩
  go_wp2_with fail
  go_ret
  exact ⟨rfl, _, rfl⟩
theorem rrename_no (hU : Up L) (h : Rf B r S L left false w) (s t : ByteArray) (hs : stOf L s.data.toList = none) :
    Calls Try.prog 44 #[.pointer (some ⟨r, 0, none⟩), .string s, .string t] w fun e w' => e = .returned (.int .i64 20) ∧ ∃ q, w' = w.drewN q := by
  obtain ⟨c1, c2, z1, z2⟩ := h.cells
  go_enter Try.func44, Try.ntmps44
  go_wp2_with fail
  refine (rfind_not hU h s hs rfl).mono ?_
  rintro e w1 ⟨rfl, q1, rfl⟩
  go_wp2_with fail
  go_ret
  exact ⟨rfl, _, rfl⟩
theorem rrename_arg (hU : Up L) (h : Rf B r S L left false w) (s t : ByteArray) {f : List UInt8 × Nat} (hs : stOf L s.data.toList = some f) (ht : ¬ (1 ≤ t.size ∧ t.size ≤ 64)) (hm : t.size ≤ 9223372036854775807) :
    Calls Try.prog 44 #[.pointer (some ⟨r, 0, none⟩), .string s, .string t] w fun e w' => e = .returned (.int .i64 1) ∧ ∃ q, w' = w.drewN q := by
  obtain ⟨c1, c2, z1, z2⟩ := h.cells
  by_cases h0 : t.size = 0
  · go_enter Try.func44, Try.ntmps44
    go_wp2_with fail
    refine (rfind_there hU h s hs rfl).mono ?_
    rintro e w1 ⟨rfl, q1, rfl⟩
    go_wp2_with fail
    go_ret
    exact ⟨rfl, _, rfl⟩
  · have h64 : 64 < t.size := by omega
    have e1 : ((t.size : Int) == 0) = false := by rw [beq_eq_false_iff_ne]; omega
    have e2 : decide ((64 : Int) < (t.size : Int)) = true := decide_eq_true (by omega)
    go_enter Try.func44, Try.ntmps44
    go_wp2_with fail
    refine (rfind_there hU h s hs rfl).mono ?_
    rintro e w1 ⟨rfl, q1, rfl⟩
    go_wp2_with fail
    go_ret
    exact ⟨rfl, _, rfl⟩
theorem rrename_dies (hU : Up L) (h : Rf B r S L 0 false w) (s t : ByteArray) {f : List UInt8 × Nat} (hs : stOf L s.data.toList = some f) (ht : 1 ≤ t.size ∧ t.size ≤ 64) :
    Calls Try.prog 44 #[.pointer (some ⟨r, 0, none⟩), .string s, .string t] w fun e w' => e = .returned (.int .i64 21) ∧ Rf B r S L 0 true w' ∧ Chg S w w' := by
  obtain ⟨c1, c2, z1, z2⟩ := h.cells
  have e1 : ((t.size : Int) == 0) = false := by rw [beq_eq_false_iff_ne]; omega
  have e2 : decide ((64 : Int) < (t.size : Int)) = false := decide_eq_false (by omega)
  go_enter Try.func44, Try.ntmps44
  go_wp2_with fail
  refine (rfind_there hU h s hs rfl).mono ?_
  rintro e w1 ⟨rfl, q1, rfl⟩
  go_wp2_with fail
  refine (rtake_dies (h.drN q1)).mono ?_
  rintro e w2 ⟨rfl, h2, hc2⟩
  go_wp2_with fail
  go_ret
  exact ⟨rfl, h2, (Chg.refl S w |>.dN q1).trans (hc2.mono (fun b _ q => .inl q))⟩
end
end Go.Proofs.Ytkgpgfpclcibmaa

/- Names of the document's disk. -/
namespace Go.Proofs.Ytkgpgfpclcibmaa
open Go.RowKit
set_option linter.unusedVariables false
set_option maxRecDepth 100000

theorem cell_newS (w : World) (v : Value) (t : TypeId) : (w.alloc (.cells #[v] t)).cell? ⟨w.heap.size, 0, none⟩ = some v := by
  rw [World.cell?_alloc_at _ _ _ _ rfl]; rfl

section
variable {B r : Nat} {fv : Value} {P : List (Fl × Value)} {S S' : Nat → Prop} {L : List Fl} {left left' : Int} {dd : Bool} {w : World}

theorem rnames_dead (h : Rf B r S L left true w) : Calls Try.prog 51 #[.pointer (some ⟨r, 0, none⟩)] w fun e w' => e = .returned (.slice none 0 0) ∧ w' = w := by
  obtain ⟨fv, P, rfl, h⟩ := h
  obtain ⟨c0, c1, c2, _⟩ := h.cells
  obtain ⟨a, c, rfl, h1, h2, h3, h4⟩ := h.shape
  unfold maxLen at h2
  go_enter Try.func51, Try.ntmps51
  go_wp2_with fail
  go_loopw [3, 4] (fun k i wr => k = .slice none 0 0 ∧ i = .int .i64 0 ∧ wr = w) (fun _ _ _ => 0)
  case atStart => exact ⟨rfl, rfl, rfl⟩
  case round =>
    obtain ⟨rfl, rfl, rfl⟩ := hrel
    by_cases hlt : 0 < P.length
    · go_wp2_with fail
      go_ret
      exact ⟨rfl, rfl⟩
    · go_wp2_with fail
      go_ret
      exact ⟨rfl, rfl⟩
theorem namesL_take (P : List (Fl × Value)) (k : Nat) (x : Fl × Value) (e : P[k]? = some x) : ((namesL (P.map (·.1))).take (k + 1)).map encStr = ((namesL (P.map (·.1))).take k).map encStr ++ [encStr x.1.1] := by
  rw [List.take_add_one]
  simp [namesL, e]
theorem rnames_any (h : Rf B r S L left false w) (hL : L.length ≤ 1099511627776) :
    Calls Try.prog 51 #[.pointer (some ⟨r, 0, none⟩)] w fun e w' => ∃ v, e = .returned v ∧ w'.ownsRow w.heap.size 9 1 v (namesL L).length ((namesL L).map encStr) ∧ Below w.heap.size w w' := by
  obtain ⟨fv, P, rfl, h⟩ := h
  rw [List.length_map] at hL
  have hrl : r < w.heap.size := (h.lo r h.sr).2
  obtain ⟨c0, c1, c2, _⟩ := h.cells
  have hsf := h.sf
  have hlo := h.lo
  obtain ⟨a, c, rfl, h1, h2, h3, h4⟩ := h.shape
  unfold maxLen at h2
  have hgl : ∀ g, a = some ⟨g, 0, none⟩ → g < w.heap.size := fun g e => (hlo g (hsf g (by rw [e]; rfl))).2
  clear h hsf hlo h3
  have hnl : ∀ k, k ≤ P.length → ((namesL (P.map (·.1))).take k).length = k := fun k hk => by simp [namesL]; omega
  go_enter Try.func51, Try.ntmps51
  go_wp2_with fail
  go_loopw [3, 4] (fun l i wr => ∃ k : Nat, k ≤ P.length ∧ i = .int .i64 k ∧ wr.ownsRow w.heap.size 9 1 l k (((namesL (P.map (·.1))).take k).map encStr) ∧ Below w.heap.size w wr) (fun _ i _ => P.length - (intOf i).toNat)
  case atStart => exact ⟨0, by omega, rfl, World.ownsRow_nil _ _ _ _, Below.refl _ _⟩
  case round =>
    obtain ⟨k, hk, rfl, ho, hb⟩ := hrel
    have hs := hb.size
    have c0r : wr.cell? ⟨r, 0, none⟩ = some (.slice a P.length c) := by rw [hb.cell (by exact hrl)]; exact c0
    have c2r : wr.cell? ⟨r, 2, none⟩ = some (.bool false) := by rw [hb.cell (by exact hrl)]; exact c2
    by_cases hlt : k < P.length
    · obtain ⟨g, rfl, g0, g1, g2, gz⟩ := h4 k P[k] (List.getElem?_eq_getElem hlt)
      have hst := namesL_take P k P[k] (List.getElem?_eq_getElem hlt)
      have g0r : wr.cell? ⟨g, k * 3, none⟩ = some (.string ⟨P[k].1.1.toArray⟩) := by rw [hb.cell (by exact hgl g rfl)]; exact g0
      have HS : Hid _ := hst
      clear h4 hst g0 g1 g2 gz hnl
      generalize ((namesL (P.map (·.1))).take k).map encStr = N at *
      generalize hx : P[k] = x at *
      go_wp2_with (first | (at_builtin; refine wpList_app1 rfl _ _ 96 rfl w.heap.size 9 (.string ⟨#[]⟩) 16 Try.underlying96 (by kernel_rfl) rfl _ k N rfl (World.ownsRow.alloc ho _) _ _ _ rfl (cell_newS _ _ _) rfl (by unfold maxLen; omega) (by omega) (by simp; omega) ?_; intro v2 w2 ho2 hg2 hw2) | fail)
      have hlt0 := World.ownsRow.lt ho
      refine ⟨⟨k + 1, by omega, by go_num, by rw [HS.out]; exact ho2, ?_⟩, by simp [intOf]; omega⟩
      have hb1 := hb.trans ((Below.al wr (.cells #[.string ⟨x.1.1.toArray⟩] 9)).mono hs)
      refine hb1.trans ?_
      exact (Chg.of_grown (S := fun b => w.heap.size ≤ b) hg2 (fun b e _ => (hlt0 b e).1)).below (fun b q => q) hb1.size
    · obtain rfl : k = P.length := by omega
      clear h4
      rw [show (namesL (P.map (·.1))).take P.length = namesL (P.map (·.1)) from List.take_of_length_le (by simp [namesL])] at ho
      go_wp2_with fail
      go_ret
      exact ⟨_, rfl, by simpa [namesL] using ho, hb⟩
end
end Go.Proofs.Ytkgpgfpclcibmaa

/- Remove of the document's disk. -/
namespace Go.Proofs.Ytkgpgfpclcibmaa
open Go.RowKit
set_option linter.unusedVariables false
set_option maxRecDepth 100000

section
variable {B r : Nat} {fv : Value} {P : List (Fl × Value)} {S S' : Nat → Prop} {L : List Fl} {left left' : Int} {dd : Bool} {w : World}

theorem rremove_dead (h : Rf B r S L left true w) (s : ByteArray) :
    Calls Try.prog 42 #[.pointer (some ⟨r, 0, none⟩), .string s] w fun e w' => e = .returned (.int .i64 21) ∧ ∃ q, w' = w.drewN q := by
  obtain ⟨c1, c2, z1, z2⟩ := h.cells
  go_enter Try.func42, Try.ntmps42
  go_wp2_with fail
  refine (rfind_any h s).mono ?_
  rintro e w1 ⟨b, rfl, hb, q1, rfl⟩
  go_wp2_with fail
  go_ret
  exact ⟨rfl, _, rfl⟩
theorem rremove_no (hU : Up L) (h : Rf B r S L left false w) (s : ByteArray) (hs : stOf L s.data.toList = none) :
    Calls Try.prog 42 #[.pointer (some ⟨r, 0, none⟩), .string s] w fun e w' => e = .returned (.int .i64 20) ∧ ∃ q, w' = w.drewN q := by
  obtain ⟨c1, c2, z1, z2⟩ := h.cells
  go_enter Try.func42, Try.ntmps42
  go_wp2_with fail
  refine (rfind_not hU h s hs rfl).mono ?_
  rintro e w1 ⟨rfl, q1, rfl⟩
  go_wp2_with fail
  go_ret
  exact ⟨rfl, _, rfl⟩
theorem rremove_dies (hU : Up L) (h : Rf B r S L 0 false w) (s : ByteArray) {f : List UInt8 × Nat} (hs : stOf L s.data.toList = some f) :
    Calls Try.prog 42 #[.pointer (some ⟨r, 0, none⟩), .string s] w fun e w' => e = .returned (.int .i64 21) ∧ Rf B r S L 0 true w' ∧ Chg S w w' := by
  obtain ⟨c1, c2, z1, z2⟩ := h.cells
  go_enter Try.func42, Try.ntmps42
  go_wp2_with fail
  refine (rfind_there hU h s hs rfl).mono ?_
  rintro e w1 ⟨rfl, q1, rfl⟩
  go_wp2_with fail
  refine (rtake_dies (h.drN q1)).mono ?_
  rintro e w2 ⟨rfl, h2, hc2⟩
  go_wp2_with fail
  go_ret
  exact ⟨rfl, h2, (Chg.refl S w |>.dN q1).trans (hc2.mono (fun b _ q => .inl q))⟩
theorem rremove_ok (hU : Up L) (h : Rf B r S L left false w) (hL : L.length ≤ 1099511627776) (hg : Goes left left') (s : ByteArray) {f : List UInt8 × Nat} (hs : stOf L s.data.toList = some f) :
    Calls Try.prog 42 #[.pointer (some ⟨r, 0, none⟩), .string s] w fun e w' => e = .returned (.int .i64 0) ∧ (∃ S', Rf B r S' (dropL L (place L s.data.toList)) left' false w' ∧ ∀ b, S' b → S b ∨ w.heap.size ≤ b) ∧ Chg S w w' := by
  obtain ⟨c1, c2, z1, z2⟩ := h.cells
  have hpl : place L s.data.toList < L.length := (List.getElem?_eq_some_iff.1 ((stOf_at hU _ f).1 hs)).1
  go_enter Try.func42, Try.ntmps42
  go_wp2_with fail
  refine (rfind_there hU h s hs rfl).mono ?_
  rintro e w1 ⟨rfl, q1, rfl⟩
  go_wp2_with fail
  refine (rtake_ok (h.drN q1) hg).mono ?_
  rintro e w2 ⟨rfl, h2, hc2⟩
  have hc02 : Chg S w w2 := (Chg.refl S w |>.dN q1).trans (hc2.mono (fun b _ q => .inl q))
  go_wp2_with fail
  refine (rgone_any h2 _ hpl hL).mono ?_
  rintro e w3 ⟨⟨v3, rfl⟩, ⟨S3, h3, hS3⟩, hc3⟩
  have hs2 := hc02.size
  go_wp2_with fail
  go_ret
  exact ⟨rfl, ⟨S3, h3, fun b hb => by rcases hS3 b hb with q | q; exact .inl q; exact .inr (by omega)⟩, hc02.trans (hc3.mono (fun b _ q => .inl q))⟩
end
end Go.Proofs.Ytkgpgfpclcibmaa

/- What Write of the document's disk refuses. -/
namespace Go.Proofs.Ytkgpgfpclcibmaa
open Go.RowKit
set_option linter.unusedVariables false
set_option maxRecDepth 100000

section
variable {B r : Nat} {fv : Value} {P : List (Fl × Value)} {S S' : Nat → Prop} {L : List Fl} {left left' : Int} {dd : Bool} {w : World}

theorem rwrite_dead (h : Rf B r S L left true w) (s : ByteArray) (vb : Value) :
    Calls Try.prog 37 #[.pointer (some ⟨r, 0, none⟩), .string s, vb] w fun e w' => e = .returned (.int .i64 21) ∧ w' = w := by
  obtain ⟨c1, c2, z1, z2⟩ := h.cells
  go_enter Try.func37, Try.ntmps37
  go_wp2_with fail
  go_ret
  exact ⟨rfl, rfl⟩
theorem rwrite_arg (h : Rf B r S L left false w) (s : ByteArray) (vb : Value) (hs : ¬ (1 ≤ s.size ∧ s.size ≤ 64)) (hm : s.size ≤ 9223372036854775807) :
    Calls Try.prog 37 #[.pointer (some ⟨r, 0, none⟩), .string s, vb] w fun e w' => e = .returned (.int .i64 1) ∧ w' = w := by
  obtain ⟨c1, c2, z1, z2⟩ := h.cells
  by_cases h0 : s.size = 0
  · go_enter Try.func37, Try.ntmps37
    go_wp2_with fail
    go_ret
    exact ⟨rfl, rfl⟩
  · have h64 : 64 < s.size := by omega
    have e1 : ((s.size : Int) == 0) = false := by rw [beq_eq_false_iff_ne]; omega
    have e2 : decide ((64 : Int) < (s.size : Int)) = true := decide_eq_true (by omega)
    go_enter Try.func37, Try.ntmps37
    go_wp2_with fail
    go_ret
    exact ⟨rfl, rfl⟩
theorem rwrite_full (h : Rf B r S L left false w) (s : ByteArray) (hs : 1 ≤ s.size ∧ s.size ≤ 64) {vb : Value} {l : List UInt8} (hr : Rd w vb l) (hl : l.length ≤ 1099511627776) (hm : sumL L ≤ 16777216) (hf : 16777216 < sumL L + l.length) :
    Calls Try.prog 37 #[.pointer (some ⟨r, 0, none⟩), .string s, vb] w fun e w' => e = .returned (.int .i64 2) ∧ w' = w := by
  obtain ⟨c1, c2, z1, z2⟩ := h.cells
  obtain ⟨av, cv, rfl, _, hcv, _, _⟩ := hr
  unfold maxLen at hcv
  have e1 : ((s.size : Int) == 0) = false := by rw [beq_eq_false_iff_ne]; omega
  have e2 : decide ((64 : Int) < (s.size : Int)) = false := decide_eq_false (by omega)
  have e3 : decide ((16777216 : Int) < (sumL L : Int) + (l.length : Int)) = true := decide_eq_true (by omega)
  go_enter Try.func37, Try.ntmps37
  go_wp2_with fail
  refine (rsize_any h (by omega)).mono ?_
  rintro e w1 ⟨rfl, rfl⟩
  go_wp2_with fail
  go_ret
  exact ⟨rfl, rfl⟩
theorem rwrite_dies (h : Rf B r S L 0 false w) (s : ByteArray) (hs : 1 ≤ s.size ∧ s.size ≤ 64) {vb : Value} {l : List UInt8} (hr : Rd w vb l) (hl : l.length ≤ 1099511627776) (hf : sumL L + l.length ≤ 16777216) :
    Calls Try.prog 37 #[.pointer (some ⟨r, 0, none⟩), .string s, vb] w fun e w' => e = .returned (.int .i64 21) ∧ Rf B r S L 0 true w' ∧ Chg S w w' := by
  obtain ⟨c1, c2, z1, z2⟩ := h.cells
  obtain ⟨av, cv, rfl, _, hcv, _, _⟩ := hr
  unfold maxLen at hcv
  have e1 : ((s.size : Int) == 0) = false := by rw [beq_eq_false_iff_ne]; omega
  have e2 : decide ((64 : Int) < (s.size : Int)) = false := decide_eq_false (by omega)
  have e3 : decide ((16777216 : Int) < (sumL L : Int) + (l.length : Int)) = false := decide_eq_false (by omega)
  go_enter Try.func37, Try.ntmps37
  go_wp2_with fail
  refine (rsize_any h (by omega)).mono ?_
  rintro e w1 ⟨rfl, rfl⟩
  go_wp2_with fail
  refine (rtake_dies h).mono ?_
  rintro e w2 ⟨rfl, h2, hc2⟩
  go_wp2_with fail
  go_ret
  exact ⟨rfl, h2, hc2⟩
end
end Go.Proofs.Ytkgpgfpclcibmaa

/- Bytes appended as one step of a region that draws its order; cells that are kept. For Write of the document's disk. -/
namespace Go.Proofs.Ytkgpgfpclcibmaa
open Go.RowKit
set_option linter.unusedVariables false
set_option maxRecDepth 100000

/-- 'append(out, x...)' of bytes, as one step of a region that draws. -/
theorem step_appN {ops : Array Oper} {o : Oper} {a : Act} {w : World} {K : Act → World → Prop} {Q : Exit → Act → World → Prop} {E : Prop} (hgd : o.guard = none) (s x : Operand)
    (ho : o.op = .call { callee := .builtin .append, args := #[s, x], argTypes := #[29, 29] })
    (B : Nat) (v : Value) (l : List UInt8) (hs : a.eval s = v) (hown : Ow B w v l) (vx : Value) (m : List UInt8) (hx : a.eval x = vx) (hm : Rd w vx m)
    (hB : B ≤ w.heap.size) (hlen : l.length + m.length ≤ 140737488355328)
    (hK : ∀ v' w', Ow B w' v' (l ++ m) → w.grownBy w' v.ownBlock → (v'.ownBlock = v.ownBlock ∨ v'.ownBlock = some w.heap.size) → K (a.put o.dst v') w') : if Region.wanted o (yielded ops a.tmps) = true then Oper.wp Try.prog o a w K Q else E := by
  have hw : Region.wanted o (yielded ops a.tmps) = true := by simp [Region.wanted, hgd]
  rw [if_pos hw]
  obtain ⟨i, hi, hz0, hz1, hz2⟩ := info_parts Try.info5
  rcases hm.two with ⟨rfl, rfl⟩ | ⟨ad, c, rfl, h1, h2, h3⟩
  · have hr := run_append_owned_none (P := Try.prog) (w := w) B 29 o.type 5 i 1 Try.underlying29 hi v l.length (cel l) hown
    unfold Oper.wp execOp
    simp only [ho, resolve, invoke, builtin, Sem.run_bind, Sem.run_pure, Result.andThen_ok, List.map_toArray, List.map_cons, List.map_nil, hs, hx, hr]
    exact hK v w (by simpa using hown) (World.grownBy.refl _ _) (.inl rfl)
  · obtain ⟨v', w', hr, q2, q3, q4⟩ := run_appN (P := Try.prog) w B 29 o.type 5 (.int .u8 0) 1 Try.underlying29 Try.info5 rfl v l.length (cel l) hown ad m.length c (cel m) (by simp [cel_length]) (by
      intro j u hu
      have hj : j < m.length := by have := (List.getElem?_eq_some_iff.1 hu).1; simpa [cel_length] using this
      rw [h3 j hj]; rw [cel_get m j hj] at hu; exact hu) (cel_one m) (by unfold maxLen; omega) (by omega) hB
    unfold Oper.wp execOp
    simp only [ho, resolve, invoke, builtin, Sem.run_bind, Sem.run_pure, Result.andThen_ok, List.map_toArray, List.map_cons, List.map_nil, hs, hx, hr]
    exact hK v' w' (by unfold Ow; rw [cel_append, List.length_append]; exact q2) q3 q4

theorem held_cells {w2 W : World} {r g k : Nat} {u dv : Value} (hbl : ∀ b, b < w2.heap.size → W.heap[b]? = w2.heap[b]?) (hrl : r < w2.heap.size) (hgl : g < w2.heap.size) (c0 : w2.cell? ⟨r, 0, none⟩ = some u) (g1 : w2.cell? ⟨g, k, none⟩ = some dv) (z1 : w2.frozen? ⟨g, k, none⟩ = false) :
    W.cell? ⟨r, 0, none⟩ = some u ∧ W.cell? ⟨g, k, none⟩ = some dv ∧ W.frozen? ⟨g, k, none⟩ = false :=
  ⟨by rw [World.cell?_of_block (hbl r hrl)]; exact c0, by rw [World.cell?_of_block (hbl g hgl)]; exact g1, by rw [World.frozen?_of_block (hbl g hgl)]; exact z1⟩

end Go.Proofs.Ytkgpgfpclcibmaa

/- Write of the document's disk to a file that is there. -/
namespace Go.Proofs.Ytkgpgfpclcibmaa
open Go.RowKit
set_option linter.unusedVariables false
set_option maxRecDepth 100000

section
variable {B r : Nat} {fv : Value} {P : List (Fl × Value)} {S S' : Nat → Prop} {L : List Fl} {left left' : Int} {dd : Bool} {w : World}

theorem write_chg {w2 w4 w5 : World} {q : Nat} {v4 : Value} {l : List UInt8} (hb4 : Below (w2.drewN q).heap.size (w2.drewN q) w4) (ho4 : Ow (w2.drewN q).heap.size w4 v4 l) (hg5 : w4.grownBy w5 v4.ownBlock) : Chg (fun b => w2.heap.size ≤ b) w2 w5 := by
  have h1 : Chg (fun b => w2.heap.size ≤ b) w2 w4 := (Chg.refl _ w2 |>.dN q).trans ((Chg.of_below hb4).mono (fun b _ q => .inl q))
  exact h1.trans ((Chg.of_grown (S := fun b => w2.heap.size ≤ b) hg5 (fun b e _ => (World.ownsRow.lt ho4 b e).1)).mono (fun b _ q => .inl q))
theorem rwrite_end {g n c k : Nat} {w2 w5 : World} {nm : Nm} {f : List UInt8 × Nat} {dv v5 : Value} {l : List UInt8} (h : RfI B r (.slice (some ⟨g, 0, none⟩) n c) P S left dd w2) (hP : P[k]? = some ((nm, f), dv)) (hc : Chg (fun b => w2.heap.size ≤ b) w2 w5) (ho5 : Ow w2.heap.size w5 v5 (f.1 ++ l)) :
    RfI B r (.slice (some ⟨g, 0, none⟩) n c) (P.set k ((nm, (f.1 ++ l, f.2)), v5)) (fun b => S b ∨ v5.ownBlock = some b) left dd (w5.setCell ⟨g, k * 3 + 1, none⟩ v5) ∧ Chg S w2 (w5.setCell ⟨g, k * 3 + 1, none⟩ v5) := by
  obtain ⟨d, m⟩ := f
  have hd := h.data _ (List.mem_of_getElem? hP)
  have hgS : S g := h.sf g rfl
  have hgl := (h.lo g hgS).2
  have hrl := h.lo r h.sr
  have hlt := World.ownsRow.lt ho5
  have h5 := h.next hc (fun b hs q => by have := (h.lo b hs).2; omega)
  simp only [] at hd
  refine ⟨h5.setAt (S' := fun b => S b ∨ v5.ownBlock = some b) (k := k) rfl (k * 3 + 1) v5 ((nm, (d ++ l, m)), v5) (flCs_setD P k nm d (d ++ l) m dv v5 hP) (fun b q => .inl q) ho5.rd (by simp only [List.length_append]; omega) hd.2.2 (fun b hb => ⟨.inr hb, fun e => by have := hlt b hb; omega, fun e => by have := hlt b hb; have e : g = b := Option.some.inj e; omega⟩) (fun b q => ?_), (hc.mono (fun b hb q => absurd hb (Nat.not_lt.2 q))).put g _ _ hgS⟩
  rcases q with q | q
  · exact h5.lo b q
  · have := hlt b q
    exact ⟨by omega, this.2⟩

set_option maxHeartbeats 1000000 in
theorem rwrite_there (hU : Up L) (h : Rf B r S L left false w) (hg : Goes left left') (s : ByteArray) (hs64 : 1 ≤ s.size ∧ s.size ≤ 64) {f : List UInt8 × Nat} (hs : stOf L s.data.toList = some f) {vb : Value} {l : List UInt8} (hr : ∀ W, Below B w W → Rd W vb l) (hl : l.length ≤ 1099511627776) (hf : sumL L + l.length ≤ 16777216) (hfl : f.1.length ≤ 16777216) :
    Calls Try.prog 37 #[.pointer (some ⟨r, 0, none⟩), .string s, vb] w fun e w' => e = .returned (.int .i64 0) ∧ (∃ S', Rf B r S' (L.set (place L s.data.toList) (s.data.toList, (f.1 ++ l, f.2))) left' false w' ∧ ∀ b, S' b → S b ∨ w.heap.size ≤ b) ∧ Chg S w w' := by
  obtain ⟨c1, c2, z1, z2⟩ := h.cells
  obtain ⟨av, cv, rfl, _, hcv, _, _⟩ := hr w (Below.refl _ _)
  unfold maxLen at hcv
  have e1 : ((s.size : Int) == 0) = false := by rw [beq_eq_false_iff_ne]; omega
  have e2 : decide ((64 : Int) < (s.size : Int)) = false := decide_eq_false (by omega)
  have e3 : decide ((16777216 : Int) < (sumL L : Int) + (l.length : Int)) = false := decide_eq_false (by omega)
  go_enter Try.func37, Try.ntmps37
  go_wp2_with fail
  refine (rsize_any h (by omega)).mono ?_
  rintro e w1 ⟨rfl, rfl⟩
  go_wp2_with fail
  refine (rtake_ok h hg).mono ?_
  rintro e w2 ⟨rfl, h2, hc2⟩
  have hb2 := h.chg hc2
  have hs2 := hc2.size
  go_wp2_with fail
  refine (rfind_there hU h2 s hs rfl).mono ?_
  rintro e w3 ⟨rfl, q3, rfl⟩
  clear h c1 c2 z1 z2
  obtain ⟨fv, P, rfl, h⟩ := h2
  obtain ⟨g, c, dv, rfl, hkl, h1, h2, hP, c0, g0, g1, g2, gz, hd⟩ := h.there hU hs rfl
  have hgl : g < w2.heap.size := (h.lo g (h.sf g rfl)).2
  have hrl : r < w2.heap.size := (h.lo r h.sr).2
  have hBl : B ≤ w2.heap.size := by have := (h.lo r h.sr).1; omega
  generalize hkk : place (P.map (·.1)) s.data.toList = k at *
  unfold maxLen at h2
  go_wp2_with fail
  have gz1 := gz (k * 3 + 1)
  have hrg : r ≠ g := fun e => h.rf (by rw [e]; rfl)
  go_region_law
    ((first
    | (rw [if_pos (by rfl)]; go_simp; go_at_call 78; refine (rcopy_any (hd.drewN _) (by omega)).mono ?_; rintro e w4 ⟨v4, rfl, ho4, hb4⟩; obtain ⟨c4r, g4, z4⟩ := held_cells (W := w4) (fun b hb => hb4.block b hb) hrl hgl c0 g1 gz1)
    | (refine step_appN rfl _ _ rfl w2.heap.size v4 f.1 rfl ho4 _ l rfl (hr _ (hb2.trans (Below.tr (Below.dN w2 _) hb4 |>.mono hBl))) hb4.size (by omega) ?_; intro v5 w5 ho5 hg5 hv5; obtain ⟨a5, n5, c5, rfl⟩ := ownsRow_shape ho5; obtain ⟨c5r, g5, z5⟩ := held_cells (W := w5) (fun b hb => (hg5.block b (Nat.lt_of_lt_of_le hb hb4.size) (fun e => by have := (World.ownsRow.lt ho4 b e.symm).1; exact absurd hb (Nat.not_lt.2 this))).trans (hb4.block b hb)) hrl hgl c0 g1 gz1)
    | fail))
  all_goals go_wp2_with fail
  all_goals go_ret
  all_goals
    have hE := rwrite_end h hP (write_chg hb4 ho4 hg5) ho5
    rw [hkk]
    exact ⟨rfl, ⟨_, ⟨_, _, map_set1 _ _ _, hE.1⟩, fun b q => by rcases q with q | q; exact .inl q; exact .inr (Nat.le_trans hs2 (World.ownsRow.lt ho5 b q).1)⟩, hc2.trans (hE.2.mono (fun b _ q => .inl q))⟩
end
end Go.Proofs.Ytkgpgfpclcibmaa

/- Write of the document's disk to a file that is not there. -/
namespace Go.Proofs.Ytkgpgfpclcibmaa
open Go.RowKit
set_option linter.unusedVariables false
set_option maxRecDepth 100000

section
variable {B r : Nat} {fv : Value} {P : List (Fl × Value)} {S S' : Nat → Prop} {L : List Fl} {left left' : Int} {dd : Bool} {w : World}

/-- A file in memory, by its place. -/
theorem RfI.atK (h : RfI B r fv P S left dd w) {nm : Nm} {f : List UInt8 × Nat} {dv : Value} {k : Nat} (hy : P[k]? = some ((nm, f), dv)) :
    ∃ g c, fv = .slice (some ⟨g, 0, none⟩) P.length c ∧ k < P.length ∧ P.length ≤ c ∧ c ≤ maxLen ∧ w.cell? ⟨r, 0, none⟩ = some (.slice (some ⟨g, 0, none⟩) P.length c) ∧ w.cell? ⟨g, k * 3, none⟩ = some (.string ⟨nm.toArray⟩) ∧ w.cell? ⟨g, k * 3 + 1, none⟩ = some dv ∧ w.cell? ⟨g, k * 3 + 2, none⟩ = some (.int .i64 (f.2 : Int)) ∧ (∀ j, w.frozen? ⟨g, j, none⟩ = false) ∧ Rd w dv f.1 := by
  obtain ⟨c0, _, _, _⟩ := h.cells
  obtain ⟨a, c, rfl, h1, h2, h3, h4⟩ := h.shape
  obtain ⟨g, rfl, g0, g1, g2, gz⟩ := h4 k _ hy
  exact ⟨g, c, rfl, (List.getElem?_eq_some_iff.1 hy).1, h1, h2, c0, g0, g1, g2, gz, (h.data _ (List.mem_of_getElem? hy)).1⟩

/-- The new list: one more file at its place. -/
def insP (P : List (Fl × Value)) (k : Nat) (x : Fl × Value) : List (Fl × Value) := P.take k ++ [x] ++ P.drop k
theorem insP_at (P : List (Fl × Value)) (k : Nat) (hk : k ≤ P.length) (x : Fl × Value) : (insP P k x)[k]? = some x := by
  unfold insP
  rw [List.append_assoc, List.getElem?_append_right (by rw [List.length_take]; omega), List.length_take, Nat.min_eq_left hk]
  simp
theorem insP_map (P : List (Fl × Value)) (nm : Nm) (f : List UInt8 × Nat) (dv : Value) {k : Nat} (hk : place (P.map (·.1)) nm = k) : (insP P k ((nm, f), dv)).map (·.1) = putL (P.map (·.1)) nm f := by
  unfold insP putL
  rw [hk]
  simp [List.map_take, List.map_drop]
theorem putL_set (L : List Fl) (nm : Nm) (f g : List UInt8 × Nat) : (putL L nm f).set (place L nm) (nm, g) = putL L nm g := by
  unfold putL
  have hl : (L.take (place L nm)).length = place L nm := by rw [List.length_take, Nat.min_eq_left (place_le _ _)]
  rw [List.set_append_right _ _ (by omega), hl, Nat.sub_self]
  rfl
theorem rdF_one (w : World) (x : Fl × Value) (hx : ∃ b m k, x.2 = .slice b m k) {cs : Array Value} (hcs : cs = (flC x).toArray) (t : TypeId) : RdF (w.alloc (.cells cs t)) (.slice (some ⟨w.heap.size, 0, none⟩) 1 1) [x] := by
  subst hcs
  refine ⟨some ⟨w.heap.size, 0, none⟩, 1, rfl, (fun e => by cases e), fun y hy => by rw [List.mem_singleton.1 hy]; exact hx, fun j u hu => ⟨_, rfl, ?_⟩⟩
  rw [Addr.add_lit, Nat.zero_add, World.cell?_alloc_at _ _ _ _ rfl]
  simp only [flCs, List.flatMap_cons, List.flatMap_nil, List.append_nil] at hu
  simpa using hu

theorem step_chg {w wi wj : World} {e : TypeId} {sz n : Nat} {v : Value} {xs : List Value} (hc : Chg (fun b => w.heap.size ≤ b) w wi) (ho : wi.ownsRow w.heap.size e sz v n xs) (hg : wi.grownBy wj v.ownBlock) : Chg (fun b => w.heap.size ≤ b) w wj :=
  hc.trans ((Chg.of_grown (S := fun b => w.heap.size ≤ b) hg (fun b e _ => (World.ownsRow.lt ho b e).1)).mono (fun b _ q => .inl q))
theorem chg_cell {w wi : World} (hc : Chg (fun b => w.heap.size ≤ b) w wi) {r j : Nat} {u : Value} (hr : r < w.heap.size) (c0 : w.cell? ⟨r, j, none⟩ = some u) (z0 : w.frozen? ⟨r, j, none⟩ = false) : wi.cell? ⟨r, j, none⟩ = some u ∧ wi.frozen? ⟨r, j, none⟩ = false :=
  ⟨by rw [World.cell?_of_block (hc.block r hr (by omega))]; exact c0, by rw [World.frozen?_of_block (hc.block r hr (by omega))]; exact z0⟩
theorem chg_rdF {w wi : World} (hc : Chg (fun b => w.heap.size ≤ b) w wi) {a : Option Addr} {n c : Nat} {R : List (Fl × Value)} (hp : RdF w (.slice a n c) R) (ha : ∀ ad, a = some ad → ad.block < w.heap.size) : RdF wi (.slice a n c) R :=
  hp.keptC hc (fun b hb q => by
    cases a with
    | none => cases hb
    | some ad => have := ha ad rfl; have e : ad.block = b := Option.some.inj hb; omega)
theorem ins_new (h : RfI B r fv P S left dd w) {k : Nat} {nm : Nm} (hn : nm.length ≤ 64) {w4 : World} (hc : Chg (fun b => w.heap.size ≤ b) w w4) {v : Value} (ho : w4.ownsRow w.heap.size 130 3 v (P.take k ++ [((nm, ([], 0)), Value.slice none 0 0)] ++ P.drop k).length (flCs (P.take k ++ [((nm, ([], 0)), Value.slice none 0 0)] ++ P.drop k))) :
    RfI B r v (insP P k ((nm, ([], 0)), .slice none 0 0)) (fun b => S b ∨ v.ownBlock = some b) left dd (w4.setCell ⟨r, 0, none⟩ v) ∧ Chg S w (w4.setCell ⟨r, 0, none⟩ v) := by
  refine (fun q => ⟨q.1, q.2.1⟩) (h.newRow hc ho (fun x hx => ?_))
  have hm : x ∈ P ∨ x = ((nm, ([], 0)), .slice none 0 0) := by
    rcases List.mem_append.1 hx with q | q
    · rcases List.mem_append.1 q with q | q
      · exact .inl (List.mem_of_mem_take q)
      · exact .inr (List.mem_singleton.1 q)
    · exact .inl (List.mem_of_mem_drop q)
  rcases hm with hm | rfl
  · exact ⟨h.data x hm, fun b hb => ⟨(h.sd x hm b hb).1, (h.sd x hm b hb).2.1⟩⟩
  · exact ⟨⟨Rd.nil _, Nat.le_refl _, hn⟩, fun b hb => by cases hb⟩

set_option maxHeartbeats 1000000 in
theorem rwrite_new (hU : Up L) (h : Rf B r S L left false w) (hg : Goes left left') (s : ByteArray) (hs64 : 1 ≤ s.size ∧ s.size ≤ 64) (hs : stOf L s.data.toList = none) (hL : L.length ≤ 1099511627000) {vb : Value} {l : List UInt8} (hr : ∀ W, Below B w W → Rd W vb l) (hl : l.length ≤ 1099511627776) (hf : sumL L + l.length ≤ 16777216) :
    Calls Try.prog 37 #[.pointer (some ⟨r, 0, none⟩), .string s, vb] w fun e w' => e = .returned (.int .i64 0) ∧ (∃ S', Rf B r S' (putL L s.data.toList (l, 0)) left' false w' ∧ ∀ b, S' b → S b ∨ w.heap.size ≤ b) ∧ Chg S w w' := by
  obtain ⟨c1, c2, z1, z2⟩ := h.cells
  obtain ⟨av, cv, rfl, _, hcv, _, _⟩ := hr w (Below.refl _ _)
  unfold maxLen at hcv
  have e1 : ((s.size : Int) == 0) = false := by rw [beq_eq_false_iff_ne]; omega
  have e2 : decide ((64 : Int) < (s.size : Int)) = false := decide_eq_false (by omega)
  have e3 : decide ((16777216 : Int) < (sumL L : Int) + (l.length : Int)) = false := decide_eq_false (by omega)
  go_enter Try.func37, Try.ntmps37
  go_wp2_with fail
  refine (rsize_any h (by omega)).mono ?_
  rintro e w1 ⟨rfl, rfl⟩
  go_wp2_with fail
  refine (rtake_ok h hg).mono ?_
  rintro e w2 ⟨rfl, h2, hc2⟩
  have hb2 := h.chg hc2
  have hs2 := hc2.size
  go_wp2_with fail
  refine (rfind_not hU h2 s hs rfl).mono ?_
  rintro e w3 ⟨rfl, q3, rfl⟩
  clear h c1 c2 z1 z2
  replace h2 := h2.drN q3
  replace hc2 := hc2.dN q3
  replace hb2 := Below.drN hb2 q3
  replace hs2 : _ ≤ (w2.drewN q3).heap.size := hs2
  generalize w2.drewN q3 = w2 at *
  obtain ⟨fv, P, rfl, h⟩ := h2
  obtain ⟨c0, c1, c2, cz⟩ := h.cells
  have z0 := cz 0
  rw [List.length_map] at hL
  obtain ⟨a, c, rfl, h1, h2, h3, h4⟩ := h.shape
  unfold maxLen at h2
  clear h4 cz
  have hkl : place (P.map (·.1)) s.data.toList ≤ P.length := by have := place_le (P.map (·.1)) s.data.toList; rwa [List.length_map] at this
  generalize hkk : place (P.map (·.1)) s.data.toList = k at *
  have hrl : r < w2.heap.size := (h.lo r h.sr).2
  have hBl : B ≤ w2.heap.size := by have := (h.lo r h.sr).1; omega
  have hpre := h.pre k hkl
  have hgl : ∀ ad, a = some ad → ad.block < w2.heap.size := fun ad e => (h.lo ad.block (h.sf ad.block (by rw [e]; rfl))).2
  have hpost : ∃ a', (c = k → a' = a) ∧ (¬ c = k → ∃ g, a = some ⟨g, 0, none⟩ ∧ a' = some ⟨g, k * 3, none⟩) ∧ RdF w2 (.slice a' (P.length - k) (c - k)) (P.drop k) ∧ ∀ ad, a' = some ad → ad.block < w2.heap.size := by
    by_cases q : c = k
    · refine ⟨a, fun _ => rfl, fun h => absurd q h, ?_, hgl⟩
      rw [List.drop_of_length_le (by omega), show P.length - k = 0 by omega]
      exact RdF.end0 _ _ _ (fun e => by have := h3 e; omega)
    · cases a with
      | none => have := h3 rfl; omega
      | some ad =>
        obtain ⟨g, rfl⟩ : ∃ g, ad = ⟨g, 0, none⟩ := by
          rcases h.row.2 with ⟨q, q0⟩ | ⟨g, cap, cur, q, _⟩
          · cases q
          · simp only [Value.slice.injEq, Option.some.injEq] at q; exact ⟨g, q.1⟩
        exact ⟨some ⟨g, k * 3, none⟩, fun h => absurd h q, fun _ => ⟨g, rfl, rfl⟩, h.post k hkl, fun ad e => by obtain rfl := Option.some.inj e; exact hgl ⟨g, 0, none⟩ rfl⟩
  have hnm : s.data.toList.length ≤ 64 := by have : s.data.toList.length = s.size := by rw [Array.length_toList]; rfl
                                             omega
  have hxn : ∀ W : World, RdF (W.alloc (.cells #[.string s, .slice none 0 0, .int .i64 0] 130)) (.slice (some ⟨W.heap.size, 0, none⟩) 1 1) [((s.data.toList, ([], 0)), .slice none 0 0)] := fun W => rdF_one W ((s.data.toList, ([], 0)), .slice none 0 0) ⟨_, _, _, rfl⟩ (by show _ = #[Value.string ⟨s.data.toList.toArray⟩, _, _]; rw [Array.toArray_toList]; rfl) _
  have HI : Hid _ := @ins_new B r (.slice a P.length c) P S left' false w2 h k s.data.toList hnm
  have HP : Hid _ := hkk
  have hl1 : ([] : List (Fl × Value)).length + (P.take k).length ≤ 1099511627776 := by rw [List.length_take]; simp; omega
  have hl2 : (P.take k).length + [((s.data.toList, (([] : List UInt8), 0)), Value.slice none 0 0)].length ≤ 1099511627776 := by rw [List.length_take]; simp; omega
  have hl3 : (P.take k ++ [((s.data.toList, (([] : List UInt8), 0)), Value.slice none 0 0)]).length + (P.drop k).length ≤ 1099511627776 := by rw [List.length_append, List.length_take, List.length_drop]; simp; omega
  have hal : ∀ (W : World) (o : Obj), w2.heap.size ≤ W.heap.size → w2.heap.size ≤ (W.alloc o).heap.size := fun W o q => by simp; omega
  have h0 : Hid _ := h
  clear hkk h
  obtain ⟨a', ha1, ha2, hp, hgp⟩ := hpost
  generalize hn : P.length = n at *
  have HN : Hid _ := hn
  clear hn
  by_cases hck : c = k
  · subst hck
    obtain rfl : n = c := by omega
    obtain rfl := ha1 rfl
    clear ha1 ha2 h3
    rw [Nat.sub_self] at hp
    go_wp2_with (first
      | (at_builtin; refine wpList_appF rfl _ _ rfl w2.heap.size (.slice none 0 0) [] rfl (World.ownsRow_nil _ _ _ _) _ (P.take n) rfl hpre (Nat.le_refl _) hl1 ?_; intro v1 w1 ho1 hg1 hv1; have hc1 := step_chg (e := 130) (sz := 3) (n := 0) (xs := []) (Chg.refl _ w2) (World.ownsRow_nil _ _ _ _) hg1; have hs1 := hc1.size)
      | (at_builtin; refine wpList_appF rfl _ _ rfl w2.heap.size v1 (P.take n) rfl (World.ownsRow.alloc ho1 _) _ [((s.data.toList, ([], 0)), .slice none 0 0)] rfl (hxn _) (hal _ _ hs1) hl2 ?_; intro v2 w3 ho2 hg2 hv2; have hc3 := step_chg (hc1.alloc _) (World.ownsRow.alloc ho1 _) hg2; obtain ⟨c03, z03⟩ := chg_cell hc3 hrl c0 z0; have hs3 := hc3.size)
      | (at_builtin; refine wpList_appF rfl _ _ rfl w2.heap.size v2 (P.take n ++ [((s.data.toList, ([], 0)), .slice none 0 0)]) rfl ho2 _ (P.drop n) rfl (chg_rdF hc3 hp hgp) hs3 hl3 ?_; intro v3 w4 ho3 hg3 hv3; have hc4 := step_chg hc3 ho2 hg3; obtain ⟨a3, n3, c3, rfl⟩ := ownsRow_shape ho3; obtain ⟨c04, z04⟩ := chg_cell hc4 hrl c0 z0)
      | fail)
    obtain ⟨hI, hcI⟩ := HI.out hc4 ho3
    have hbI := hb2.trans (hcI.below (fun b hb => (h0.out.lo b hb).1) hBl)
    have HB : Hid (∀ b, (Value.slice a3 n3 c3).ownBlock = some b → w2.heap.size ≤ b) := fun b q => (World.ownsRow.lt ho3 b q).1
    have hsI := hcI.size
    clear hc1 hs1 hc3 c03 z03 hs3 hc4 c04 z04 ho1 ho2 ho3 hg1 hg2 hg3 hv1 hv2 hv3 hpre hp c0 z0 c1 c2 hrl hBl hxn hal hl1 hl2 hl3 HI h0
    generalize w4.setCell ⟨r, 0, none⟩ (.slice a3 n3 c3) = w5 at *
    obtain ⟨g, c5, efv, hkl5, h15, h25, c05, g0, g1, g2, gz, hd⟩ := hI.atK (insP_at P n (by rw [HN.out]; omega) _)
    simp only [Value.slice.injEq] at efv
    obtain ⟨rfl, rfl, rfl⟩ := efv
    have hgl5 : g < w5.heap.size := (hI.lo g (hI.sf g rfl)).2
    have hrl5 : r < w5.heap.size := (hI.lo r hI.sr).2
    have hBl5 : B ≤ w5.heap.size := by have := (hI.lo r hI.sr).1; omega
    have hrg : r ≠ g := fun e => hI.rf (by rw [e]; rfl)
    have gz1 := gz (n * 3 + 1)
    have HK : Hid _ := And.intro hI (insP_at P n (by rw [HN.out]; omega) ((s.data.toList, (([] : List UInt8), 0)), Value.slice none 0 0))
    clear hI gz g0 g2
    unfold maxLen at h25
    generalize hm5 : (insP P n ((s.data.toList, (([] : List UInt8), 0)), Value.slice none 0 0)).length = m5 at *
    clear hm5
    go_region_law
      ((first
      | (rw [if_pos (by rfl)]; go_simp; go_at_call 78; refine (rcopy_any (hd.drewN _) (by simp)).mono ?_; rintro e w6 ⟨v6, rfl, ho6, hb6⟩; obtain ⟨c6r, g6, z6⟩ := held_cells (W := w6) (fun b hb => hb6.block b hb) hrl5 hgl5 c05 g1 gz1)
      | (refine step_appN rfl _ _ rfl w5.heap.size v6 [] rfl ho6 _ l rfl (hr _ (hbI.trans (Below.tr (Below.dN w5 _) hb6 |>.mono hBl5))) hb6.size (by simp; omega) ?_; intro v7 w7 ho7 hg7 hv7; obtain ⟨a7, n7, c7, rfl⟩ := ownsRow_shape ho7; obtain ⟨c7r, g7, z7⟩ := held_cells (W := w7) (fun b hb => (hg7.block b (Nat.lt_of_lt_of_le hb hb6.size) (fun e => by have := (World.ownsRow.lt ho6 b e.symm).1; exact absurd hb (Nat.not_lt.2 this))).trans (hb6.block b hb)) hrl5 hgl5 c05 g1 gz1)
      | fail))
    all_goals go_wp2_with fail
    all_goals go_ret
    all_goals
      have hE := rwrite_end HK.out.1 HK.out.2 (write_chg hb6 ho6 hg7) ho7
      refine ⟨rfl, ⟨_, ⟨_, _, ?_, hE.1⟩, fun b q => ?_⟩, hc2.trans ((hcI.trans (hE.2.mono (fun b _ q => ?_))).mono (fun b _ q => .inl q))⟩
      · rw [map_set1, insP_map _ _ _ _ HP.out, ← HP.out, putL_set]; rfl
      · rcases q with (q | q) | q
        · exact .inl q
        · exact .inr (Nat.le_trans hs2 (HB.out b q))
        · exact .inr (Nat.le_trans hs2 (Nat.le_trans hsI (World.ownsRow.lt ho7 b q).1))
      · rcases q with q | q
        · exact .inl q
        · exact .inr (HB.out b q)
  · obtain ⟨g0, rfl, rfl⟩ := ha2 hck
    clear ha1 ha2 h3
    go_wp2_with (first
      | (at_builtin; refine wpList_appF rfl _ _ rfl w2.heap.size (.slice none 0 0) [] rfl (World.ownsRow_nil _ _ _ _) _ (P.take k) rfl hpre (Nat.le_refl _) hl1 ?_; intro v1 w1 ho1 hg1 hv1; have hc1 := step_chg (e := 130) (sz := 3) (n := 0) (xs := []) (Chg.refl _ w2) (World.ownsRow_nil _ _ _ _) hg1; have hs1 := hc1.size)
      | (at_builtin; refine wpList_appF rfl _ _ rfl w2.heap.size v1 (P.take k) rfl (World.ownsRow.alloc ho1 _) _ [((s.data.toList, ([], 0)), .slice none 0 0)] rfl (hxn _) (hal _ _ hs1) hl2 ?_; intro v2 w3 ho2 hg2 hv2; have hc3 := step_chg (hc1.alloc _) (World.ownsRow.alloc ho1 _) hg2; obtain ⟨c03, z03⟩ := chg_cell hc3 hrl c0 z0; have hs3 := hc3.size)
      | (at_builtin; refine wpList_appF rfl _ _ rfl w2.heap.size v2 (P.take k ++ [((s.data.toList, ([], 0)), .slice none 0 0)]) rfl ho2 _ (P.drop k) rfl (chg_rdF hc3 hp hgp) hs3 hl3 ?_; intro v3 w4 ho3 hg3 hv3; have hc4 := step_chg hc3 ho2 hg3; obtain ⟨a3, n3, c3, rfl⟩ := ownsRow_shape ho3; obtain ⟨c04, z04⟩ := chg_cell hc4 hrl c0 z0)
      | fail)
    obtain ⟨hI, hcI⟩ := HI.out hc4 ho3
    have hbI := hb2.trans (hcI.below (fun b hb => (h0.out.lo b hb).1) hBl)
    have HB : Hid (∀ b, (Value.slice a3 n3 c3).ownBlock = some b → w2.heap.size ≤ b) := fun b q => (World.ownsRow.lt ho3 b q).1
    have hsI := hcI.size
    clear hc1 hs1 hc3 c03 z03 hs3 hc4 c04 z04 ho1 ho2 ho3 hg1 hg2 hg3 hv1 hv2 hv3 hpre hp c0 z0 c1 c2 hrl hBl hxn hal hl1 hl2 hl3 HI h0
    generalize w4.setCell ⟨r, 0, none⟩ (.slice a3 n3 c3) = w5 at *
    obtain ⟨g, c5, efv, hkl5, h15, h25, c05, g0, g1, g2, gz, hd⟩ := hI.atK (insP_at P k (by rw [HN.out]; omega) _)
    simp only [Value.slice.injEq] at efv
    obtain ⟨rfl, rfl, rfl⟩ := efv
    have hgl5 : g < w5.heap.size := (hI.lo g (hI.sf g rfl)).2
    have hrl5 : r < w5.heap.size := (hI.lo r hI.sr).2
    have hBl5 : B ≤ w5.heap.size := by have := (hI.lo r hI.sr).1; omega
    have hrg : r ≠ g := fun e => hI.rf (by rw [e]; rfl)
    have gz1 := gz (k * 3 + 1)
    have HK : Hid _ := And.intro hI (insP_at P k (by rw [HN.out]; omega) ((s.data.toList, (([] : List UInt8), 0)), Value.slice none 0 0))
    clear hI gz g0 g2
    unfold maxLen at h25
    generalize hm5 : (insP P k ((s.data.toList, (([] : List UInt8), 0)), Value.slice none 0 0)).length = m5 at *
    clear hm5
    go_region_law
      ((first
      | (rw [if_pos (by rfl)]; go_simp; go_at_call 78; refine (rcopy_any (hd.drewN _) (by simp)).mono ?_; rintro e w6 ⟨v6, rfl, ho6, hb6⟩; obtain ⟨c6r, g6, z6⟩ := held_cells (W := w6) (fun b hb => hb6.block b hb) hrl5 hgl5 c05 g1 gz1)
      | (refine step_appN rfl _ _ rfl w5.heap.size v6 [] rfl ho6 _ l rfl (hr _ (hbI.trans (Below.tr (Below.dN w5 _) hb6 |>.mono hBl5))) hb6.size (by simp; omega) ?_; intro v7 w7 ho7 hg7 hv7; obtain ⟨a7, n7, c7, rfl⟩ := ownsRow_shape ho7; obtain ⟨c7r, g7, z7⟩ := held_cells (W := w7) (fun b hb => (hg7.block b (Nat.lt_of_lt_of_le hb hb6.size) (fun e => by have := (World.ownsRow.lt ho6 b e.symm).1; exact absurd hb (Nat.not_lt.2 this))).trans (hb6.block b hb)) hrl5 hgl5 c05 g1 gz1)
      | fail))
    all_goals go_wp2_with fail
    all_goals go_ret
    all_goals
      have hE := rwrite_end HK.out.1 HK.out.2 (write_chg hb6 ho6 hg7) ho7
      refine ⟨rfl, ⟨_, ⟨_, _, ?_, hE.1⟩, fun b q => ?_⟩, hc2.trans ((hcI.trans (hE.2.mono (fun b _ q => ?_))).mono (fun b _ q => .inl q))⟩
      · rw [map_set1, insP_map _ _ _ _ HP.out, ← HP.out, putL_set]; rfl
      · rcases q with (q | q) | q
        · exact .inl q
        · exact .inr (Nat.le_trans hs2 (HB.out b q))
        · exact .inr (Nat.le_trans hs2 (Nat.le_trans hsI (World.ownsRow.lt ho7 b q).1))
      · rcases q with q | q
        · exact .inl q
        · exact .inr (HB.out b q)
end
end Go.Proofs.Ytkgpgfpclcibmaa

/- Rename of the document's disk, done. -/
namespace Go.Proofs.Ytkgpgfpclcibmaa
open Go.RowKit
set_option linter.unusedVariables false
set_option maxRecDepth 100000

/-- The files without the first name, and without what had the second one. -/
def cutL (L : List Fl) (t : Nm) : List Fl := if stOf L t = none then L else dropL L (place L t)
def renL (L : List Fl) (s t : Nm) (f : List UInt8 × Nat) : List Fl := putL (cutL (dropL L (place L s)) t) t f

theorem alloc_block (w : World) (o : Obj) : (w.alloc o).heap[w.heap.size]? = some o := by
  show (w.heap.push _)[_]? = _
  simp

section
variable {B r : Nat} {fv : Value} {P : List (Fl × Value)} {S S' : Nat → Prop} {L : List Fl} {left left' : Int} {dd : Bool} {w : World}

theorem RfI.wider {T : Nat → Prop} (h : RfI B r fv P S left dd w) (hT : ∀ b, S b → T b) (hlo : ∀ b, T b → B ≤ b ∧ b < w.heap.size) : RfI B r fv P T left dd w :=
  ⟨h.cell, h.row, h.data, hT _ h.sr, fun b hb => hT b (h.sf b hb), fun x hx b hb => ⟨hT b (h.sd x hx b hb).1, (h.sd x hx b hb).2⟩, h.rf, hlo⟩
theorem dropL_len (L : List Fl) (k : Nat) (hk : k < L.length) : (dropL L k).length + 1 = L.length := by unfold dropL; rw [List.length_append, List.length_take, List.length_drop]; omega

/-- The new list with the file that was taken out. -/
theorem ren_new (h : RfI B r fv P S left dd w) {k : Nat} {nm : Nm} (hn : nm.length ≤ 64) {f : List UInt8 × Nat} {dv : Value} (hd : Rd w dv f.1) (hf : f.2 ≤ f.1.length) (hv : ∀ b, dv.ownBlock = some b → B ≤ b ∧ b < w.heap.size ∧ b ≠ r) {w4 : World} (hc : Chg (fun b => w.heap.size ≤ b) w w4) {v : Value} (ho : w4.ownsRow w.heap.size 130 3 v (P.take k ++ [((nm, f), dv)] ++ P.drop k).length (flCs (P.take k ++ [((nm, f), dv)] ++ P.drop k))) :
    RfI B r v (insP P k ((nm, f), dv)) (fun b => (S b ∨ dv.ownBlock = some b) ∨ v.ownBlock = some b) left dd (w4.setCell ⟨r, 0, none⟩ v) ∧ Chg (fun b => b = r) w (w4.setCell ⟨r, 0, none⟩ v) := by
  have hw : RfI B r fv P (fun b => S b ∨ dv.ownBlock = some b) left dd w := h.wider (fun b q => .inl q) (fun b q => by
    rcases q with q | q
    · exact h.lo b q
    · exact ⟨(hv b q).1, (hv b q).2.1⟩)
  refine (fun q => ⟨q.1, q.2.2⟩) (hw.newRow hc ho (fun x hx => ?_))
  have hm : x ∈ P ∨ x = ((nm, f), dv) := by
    rcases List.mem_append.1 hx with q | q
    · rcases List.mem_append.1 q with q | q
      · exact .inl (List.mem_of_mem_take q)
      · exact .inr (List.mem_singleton.1 q)
    · exact .inl (List.mem_of_mem_drop q)
  rcases hm with hm | rfl
  · exact ⟨h.data x hm, fun b hb => ⟨.inl (h.sd x hm b hb).1, (h.sd x hm b hb).2.1⟩⟩
  · exact ⟨⟨hd, hf, hn⟩, fun b hb => ⟨.inr hb, (hv b hb).2.2⟩⟩

set_option maxHeartbeats 2000000 in
theorem rrename_new (hU : Up L) (h : Rf B r S L left false w) (hL : L.length ≤ 1099511627000) (hg : Goes left left') (s t : ByteArray) {f : List UInt8 × Nat} (hs : stOf L s.data.toList = some f) (ht : 1 ≤ t.size ∧ t.size ≤ 64) (htn : stOf (dropL L (place L s.data.toList)) t.data.toList = none) :
    Calls Try.prog 44 #[.pointer (some ⟨r, 0, none⟩), .string s, .string t] w fun e w' => e = .returned (.int .i64 0) ∧ (∃ S', Rf B r S' (renL L s.data.toList t.data.toList f) left' false w' ∧ ∀ b, S' b → S b ∨ w.heap.size ≤ b) ∧ Chg S w w' := by
  obtain ⟨c1, c2, z1, z2⟩ := h.cells
  have hpl : place L s.data.toList < L.length := (List.getElem?_eq_some_iff.1 ((stOf_at hU _ f).1 hs)).1
  have hU1 : Up (dropL L (place L s.data.toList)) := (dropL_st _ _ _ hU ((stOf_at hU _ f).1 hs)).2
  have hL1 := dropL_len L _ hpl
  have e1 : ((t.size : Int) == 0) = false := by rw [beq_eq_false_iff_ne]; omega
  have e2 : decide ((64 : Int) < (t.size : Int)) = false := decide_eq_false (by omega)
  have hcut : cutL (dropL L (place L s.data.toList)) t.data.toList = dropL L (place L s.data.toList) := by unfold cutL; rw [if_pos htn]
  unfold renL
  rw [hcut]
  clear hcut
  go_enter Try.func44, Try.ntmps44
  go_wp2_with fail
  refine (rfind_there hU h s hs rfl).mono ?_
  rintro e w1 ⟨rfl, q1, rfl⟩
  go_wp2_with fail
  refine (rtake_ok (h.drN q1) hg).mono ?_
  rintro e w2 ⟨rfl, h2, hc2⟩
  have hc02 : Chg S w w2 := (Chg.refl S w |>.dN q1).trans (hc2.mono (fun b _ q => .inl q))
  have hs2 := hc02.size
  clear hc2 c1 c2 z1 z2
  obtain ⟨fv, P, hmap0, hI⟩ := id h2
  obtain ⟨g, c, dv, rfl, hkl, h1, h3, hP, c0, g0, g1, g2, gz, hd⟩ := hI.there (by rw [hmap0]; exact hU) (by rw [hmap0]; exact hs) (by rw [hmap0])
  obtain ⟨fd, fk⟩ := f
  have hdat := (hI.data _ (List.mem_of_getElem? hP)).2
  have hsd := hI.sd _ (List.mem_of_getElem? hP)
  have hlo := hI.lo
  have hsr := hI.sr
  simp only [] at *
  unfold maxLen at h3
  obtain ⟨ad, cd, rfl, d1, d2, d3⟩ := id hd
  unfold maxLen at d2
  clear d3 hI hP hmap0
  generalize hkk0 : place L s.data.toList = k0 at *
  go_wp2_with fail
  clear c0 g0 g1 g2 gz h1 h3 hkl
  refine (rgone_fine (h2.below (Below.al w2 _)) k0 hpl (by omega)).mono ?_
  rintro e w3 ⟨⟨v3, rfl⟩, ⟨S6, h6, hS6⟩, hc3⟩
  have hrF : r ≠ w2.heap.size := by have := (hlo r hsr).2; omega
  have hsz3 := hc3.size
  have hFl3 : w2.heap.size < w3.heap.size := by simp at hsz3; omega
  have hF6 : w3.heap[w2.heap.size]? = some (.cells #[.string ⟨s.data⟩, .slice ad fd.length cd, .int .i64 (fk : Int)] 130 (0, 0)) := by
    rw [hc3.block _ (by simp) (fun e => hrF e.symm)]; exact alloc_block _ _
  have hd6 : Rd w3 (.slice ad fd.length cd) fd := (hd.alloc _).keptC hc3 (fun b hb e => (hsd b hb).2.1 e)
  have hvb : ∀ b, (Value.slice ad fd.length cd).ownBlock = some b → B ≤ b ∧ b < w3.heap.size ∧ b ≠ r ∧ b ≠ w2.heap.size := fun b hb => ⟨(hlo b (hsd b hb).1).1, by have := (hlo b (hsd b hb).1).2; omega, (hsd b hb).2.1, by have := (hlo b (hsd b hb).1).2; omega⟩
  have hSF : ¬ S6 w2.heap.size := fun q => by
    rcases hS6 _ q with q | q
    · have := (hlo _ q).2; omega
    · simp at q; omega
  have HS : Hid (∀ b, S6 b → S b ∨ w.heap.size ≤ b) := fun b q => by
    rcases hS6 b q with q | q
    · exact .inl q
    · simp at q; exact .inr (by omega)
  have HV : Hid (∀ b, (Value.slice ad fd.length cd).ownBlock = some b → S b) := fun b hb => (hsd b hb).1
  have hc6 : Chg S w w3 := (hc02.alloc _).trans (hc3.mono (fun b _ q => .inl (by rw [q]; exact hsr)))
  have hwF : w.heap.size ≤ w2.heap.size := hs2
  clear hc3 hc02 hs2 hd h2 hsz3 hS6 hlo hsd
  generalize w2.heap.size = F at *
  go_wp2_with fail
  refine (rfind_not hU1 h6 t htn rfl).mono ?_
  rintro e w4 ⟨rfl, q4, rfl⟩
  go_wp2_with fail
  refine (rfind_not hU1 (h6.drN q4) t htn rfl).mono ?_
  rintro e w6 ⟨rfl, q5, rfl⟩
  replace h6 := (h6.drN q4).drN q5
  replace hF6 : ((w3.drewN q4).drewN q5).heap[F]? = some (.cells #[.string ⟨s.data⟩, .slice ad fd.length cd, .int .i64 (fk : Int)] 130 (0, 0)) := hF6
  replace hd6 := (hd6.drewN q4).drewN q5
  replace hc6 := (hc6.dN q4).dN q5
  replace hvb : ∀ b, (Value.slice ad fd.length cd).ownBlock = some b → B ≤ b ∧ b < ((w3.drewN q4).drewN q5).heap.size ∧ b ≠ r ∧ b ≠ F := hvb
  clear hFl3 htn hU1
  generalize (w3.drewN q4).drewN q5 = w6 at *
  obtain ⟨fv6, P6, hmap, hI6⟩ := h6
  have HM : Hid _ := hmap
  have hP6 : P6.length ≤ 1099511627000 := by rw [← List.length_map (f := (·.1)), hmap]; omega
  have hIb : RfI B r fv6 P6 S6 left' false (w6.setCell ⟨F, 0, none⟩ (.string t)) := hI6.next ((Chg.refl (fun b => b = F) w6).put F 0 _ rfl) (fun b hb e => hSF (by rw [← e]; exact hb))
  have hcb : Chg (fun b => b = F) w6 (w6.setCell ⟨F, 0, none⟩ (.string t)) := (Chg.refl (fun b => b = F) w6).put F 0 _ rfl
  have hFb : (w6.setCell ⟨F, 0, none⟩ (.string t)).heap[F]? = some (.cells #[.string t, .slice ad fd.length cd, .int .i64 (fk : Int)] 130 (0, 0)) := by rw [heap_setCell_same _ _ 0 _ _ _ hF6]; rfl
  have hdb : Rd (w6.setCell ⟨F, 0, none⟩ (.string t)) (.slice ad fd.length cd) fd := hd6.keptC hcb (fun b hb e => (hvb b hb).2.2.2 e)
  have HC : Hid (Chg S w (w6.setCell ⟨F, 0, none⟩ (.string t))) := hc6.trans (hcb.mono (fun b _ q => .inr (by omega)))
  have hvw : ∀ b, (Value.slice ad fd.length cd).ownBlock = some b → B ≤ b ∧ b < (w6.setCell ⟨F, 0, none⟩ (.string t)).heap.size ∧ b ≠ r := fun b hb => ⟨(hvb b hb).1, by have := (hvb b hb).2.1; simpa using this, (hvb b hb).2.2.1⟩
  have q0 : w6.cell? ⟨F, 0, none⟩ = some (.string ⟨s.data⟩) := by rw [cell_of_row _ _ _ _ _ _ hF6]; rfl
  have q1 : w6.frozen? ⟨F, 0, none⟩ = false := frozen_of_row _ _ _ _ _ hF6
  generalize hwb : w6.setCell ⟨F, 0, none⟩ (.string t) = wb at *
  have f0 : wb.cell? ⟨F, 0, none⟩ = some (.string t) := by rw [cell_of_row _ _ _ _ _ _ hFb]; rfl
  have f1 : wb.cell? ⟨F, 1, none⟩ = some (.slice ad fd.length cd) := by rw [cell_of_row _ _ _ _ _ _ hFb]; rfl
  have f2 : wb.cell? ⟨F, 2, none⟩ = some (.int .i64 (fk : Int)) := by rw [cell_of_row _ _ _ _ _ _ hFb]; rfl
  have fz0 : wb.frozen? ⟨F, 0, none⟩ = false := frozen_of_row _ _ _ _ _ hFb
  have fz1 : wb.frozen? ⟨F, 1, none⟩ = false := frozen_of_row _ _ _ _ _ hFb
  have fz2 : wb.frozen? ⟨F, 2, none⟩ = false := frozen_of_row _ _ _ _ _ hFb
  have hFl : F < wb.heap.size := (Array.getElem?_eq_some_iff.1 hFb).1
  obtain ⟨c0, c1, c2, cz⟩ := hIb.cells
  have z0 := cz 0
  obtain ⟨a, c, rfl, h1, h2, h3, h4⟩ := hIb.shape
  unfold maxLen at h2
  clear h4 cz c1 c2
  have hkl : place (P6.map (·.1)) t.data.toList ≤ P6.length := by have := place_le (P6.map (·.1)) t.data.toList; rwa [List.length_map] at this
  rw [← hmap]
  generalize hkk : place (P6.map (·.1)) t.data.toList = k at *
  have hrl : r < wb.heap.size := (hIb.lo r hIb.sr).2
  have hpre := hIb.pre k hkl
  have hgl : ∀ ad, a = some ad → ad.block < wb.heap.size := fun ad e => (hIb.lo ad.block (hIb.sf ad.block (by rw [e]; rfl))).2
  have hpost : ∃ a', (c = k → a' = a) ∧ (¬ c = k → ∃ g, a = some ⟨g, 0, none⟩ ∧ a' = some ⟨g, k * 3, none⟩) ∧ RdF wb (.slice a' (P6.length - k) (c - k)) (P6.drop k) ∧ ∀ ad, a' = some ad → ad.block < wb.heap.size := by
    by_cases q : c = k
    · refine ⟨a, fun _ => rfl, fun h => absurd q h, ?_, hgl⟩
      rw [List.drop_of_length_le (by omega), show P6.length - k = 0 by omega]
      exact RdF.end0 _ _ _ (fun e => by have := h3 e; omega)
    · cases a with
      | none => have := h3 rfl; omega
      | some ad =>
        obtain ⟨g, rfl⟩ : ∃ g, ad = ⟨g, 0, none⟩ := by
          rcases hIb.row.2 with ⟨q, q0⟩ | ⟨g, cap, cur, q, _⟩
          · cases q
          · simp only [Value.slice.injEq, Option.some.injEq] at q; exact ⟨g, q.1⟩
        exact ⟨some ⟨g, k * 3, none⟩, fun h => absurd h q, fun _ => ⟨g, rfl, rfl⟩, hIb.post k hkl, fun ad e => by obtain rfl := Option.some.inj e; exact hgl ⟨g, 0, none⟩ rfl⟩
  have hnm : t.data.toList.length ≤ 64 := by have : t.data.toList.length = t.size := by rw [Array.length_toList]; rfl
                                             omega
  have hxn : ∀ W : World, RdF (W.alloc (.cells #[.string t, .slice ad fd.length cd, .int .i64 (fk : Int)] 130)) (.slice (some ⟨W.heap.size, 0, none⟩) 1 1) [((t.data.toList, (fd, fk)), .slice ad fd.length cd)] := fun W => rdF_one W ((t.data.toList, (fd, fk)), .slice ad fd.length cd) ⟨_, _, _, rfl⟩ (by show _ = #[Value.string ⟨t.data.toList.toArray⟩, _, _]; rw [Array.toArray_toList]) _
  have HI : Hid _ := @ren_new B r (.slice a P6.length c) P6 S6 left' false wb hIb k t.data.toList hnm (fd, fk) (.slice ad fd.length cd) hdb hdat.1 hvw
  have HP : Hid _ := hkk
  have HSr : Hid (S r) := hsr
  have hl1 : ([] : List (Fl × Value)).length + (P6.take k).length ≤ 1099511627776 := by rw [List.length_take]; simp; omega
  have hl2 : (P6.take k).length + [((t.data.toList, (fd, fk)), Value.slice ad fd.length cd)].length ≤ 1099511627776 := by rw [List.length_take]; simp; omega
  have hl3 : (P6.take k ++ [((t.data.toList, (fd, fk)), Value.slice ad fd.length cd)]).length + (P6.drop k).length ≤ 1099511627776 := by rw [List.length_append, List.length_take, List.length_drop]; simp; omega
  have hal : ∀ (W : World) (o : Obj), wb.heap.size ≤ W.heap.size → wb.heap.size ≤ (W.alloc o).heap.size := fun W o q => by simp; omega
  clear hkk hIb hI6 hmap hcb hc6 hdb hvw hvb hd6
  obtain ⟨a', ha1, ha2, hp, hgp⟩ := hpost
  generalize hn : P6.length = n at *
  clear hn
  by_cases hck : c = k
  · subst hck
    obtain rfl : n = c := by omega
    obtain rfl := ha1 rfl
    clear ha1 ha2 h3
    rw [Nat.sub_self] at hp
    go_wp2_with (first
      | (at_builtin; refine wpList_appF rfl _ _ rfl wb.heap.size (.slice none 0 0) [] rfl (World.ownsRow_nil _ _ _ _) _ (P6.take n) rfl hpre (Nat.le_refl _) hl1 ?_; intro v7 w7 ho7 hg7 hv7; have hc7 := step_chg (e := 130) (sz := 3) (n := 0) (xs := []) (Chg.refl _ wb) (World.ownsRow_nil _ _ _ _) hg7; have hs7 := hc7.size; obtain ⟨f07, _⟩ := chg_cell hc7 hFl f0 fz0; obtain ⟨f17, _⟩ := chg_cell hc7 hFl f1 fz1; obtain ⟨f27, _⟩ := chg_cell hc7 hFl f2 fz2)
      | (at_builtin; refine wpList_appF rfl _ _ rfl wb.heap.size v7 (P6.take n) rfl (World.ownsRow.alloc ho7 _) _ [((t.data.toList, (fd, fk)), .slice ad fd.length cd)] rfl (hxn _) (hal _ _ hs7) hl2 ?_; intro v8 w8 ho8 hg8 hv8; have hc8 := step_chg (hc7.alloc _) (World.ownsRow.alloc ho7 _) hg8; obtain ⟨c08, z08⟩ := chg_cell hc8 hrl c0 z0; have hs8 := hc8.size)
      | (at_builtin; refine wpList_appF rfl _ _ rfl wb.heap.size v8 (P6.take n ++ [((t.data.toList, (fd, fk)), .slice ad fd.length cd)]) rfl ho8 _ (P6.drop n) rfl (chg_rdF hc8 hp hgp) hs8 hl3 ?_; intro v9 w9 ho9 hg9 hv9; have hc9 := step_chg hc8 ho8 hg9; obtain ⟨a9, n9, c9, rfl⟩ := ownsRow_shape ho9; obtain ⟨c09, z09⟩ := chg_cell hc9 hrl c0 z0)
      | fail)
    go_ret
    obtain ⟨hI, hcI⟩ := HI.out hc9 ho9
    refine ⟨rfl, ⟨_, ⟨_, _, ?_, hI⟩, fun b q => ?_⟩, HC.out.trans (hcI.mono (fun b _ q => .inl (by rw [q]; exact HSr.out)))⟩
    · rw [insP_map _ _ _ _ HP.out, HM.out, hkk0]
    · rcases q with (q | q) | q
      · exact HS.out b q
      · exact .inl (HV.out b q)
      · exact .inr (Nat.le_trans HC.out.size (World.ownsRow.lt ho9 b q).1)
  · obtain ⟨g0, rfl, rfl⟩ := ha2 hck
    clear ha1 ha2 h3
    go_wp2_with (first
      | (at_builtin; refine wpList_appF rfl _ _ rfl wb.heap.size (.slice none 0 0) [] rfl (World.ownsRow_nil _ _ _ _) _ (P6.take k) rfl hpre (Nat.le_refl _) hl1 ?_; intro v7 w7 ho7 hg7 hv7; have hc7 := step_chg (e := 130) (sz := 3) (n := 0) (xs := []) (Chg.refl _ wb) (World.ownsRow_nil _ _ _ _) hg7; have hs7 := hc7.size; obtain ⟨f07, _⟩ := chg_cell hc7 hFl f0 fz0; obtain ⟨f17, _⟩ := chg_cell hc7 hFl f1 fz1; obtain ⟨f27, _⟩ := chg_cell hc7 hFl f2 fz2)
      | (at_builtin; refine wpList_appF rfl _ _ rfl wb.heap.size v7 (P6.take k) rfl (World.ownsRow.alloc ho7 _) _ [((t.data.toList, (fd, fk)), .slice ad fd.length cd)] rfl (hxn _) (hal _ _ hs7) hl2 ?_; intro v8 w8 ho8 hg8 hv8; have hc8 := step_chg (hc7.alloc _) (World.ownsRow.alloc ho7 _) hg8; obtain ⟨c08, z08⟩ := chg_cell hc8 hrl c0 z0; have hs8 := hc8.size)
      | (at_builtin; refine wpList_appF rfl _ _ rfl wb.heap.size v8 (P6.take k ++ [((t.data.toList, (fd, fk)), .slice ad fd.length cd)]) rfl ho8 _ (P6.drop k) rfl (chg_rdF hc8 hp hgp) hs8 hl3 ?_; intro v9 w9 ho9 hg9 hv9; have hc9 := step_chg hc8 ho8 hg9; obtain ⟨a9, n9, c9, rfl⟩ := ownsRow_shape ho9; obtain ⟨c09, z09⟩ := chg_cell hc9 hrl c0 z0)
      | fail)
    go_ret
    obtain ⟨hI, hcI⟩ := HI.out hc9 ho9
    refine ⟨rfl, ⟨_, ⟨_, _, ?_, hI⟩, fun b q => ?_⟩, HC.out.trans (hcI.mono (fun b _ q => .inl (by rw [q]; exact HSr.out)))⟩
    · rw [insP_map _ _ _ _ HP.out, HM.out, hkk0]
    · rcases q with (q | q) | q
      · exact HS.out b q
      · exact .inl (HV.out b q)
      · exact .inr (Nat.le_trans HC.out.size (World.ownsRow.lt ho9 b q).1)
set_option maxHeartbeats 2000000 in
theorem rrename_over (hU : Up L) (h : Rf B r S L left false w) (hL : L.length ≤ 1099511627000) (hg : Goes left left') (s t : ByteArray) {f : List UInt8 × Nat} (hs : stOf L s.data.toList = some f) (ht : 1 ≤ t.size ∧ t.size ≤ 64) {f2 : List UInt8 × Nat} (htn : stOf (dropL L (place L s.data.toList)) t.data.toList = some f2) :
    Calls Try.prog 44 #[.pointer (some ⟨r, 0, none⟩), .string s, .string t] w fun e w' => e = .returned (.int .i64 0) ∧ (∃ S', Rf B r S' (renL L s.data.toList t.data.toList f) left' false w' ∧ ∀ b, S' b → S b ∨ w.heap.size ≤ b) ∧ Chg S w w' := by
  obtain ⟨c1, c2, z1, z2⟩ := h.cells
  have hpl : place L s.data.toList < L.length := (List.getElem?_eq_some_iff.1 ((stOf_at hU _ f).1 hs)).1
  have hU1 : Up (dropL L (place L s.data.toList)) := (dropL_st _ _ _ hU ((stOf_at hU _ f).1 hs)).2
  have hL1 := dropL_len L _ hpl
  have e1 : ((t.size : Int) == 0) = false := by rw [beq_eq_false_iff_ne]; omega
  have e2 : decide ((64 : Int) < (t.size : Int)) = false := decide_eq_false (by omega)
  have htat := (stOf_at hU1 _ f2).1 htn
  have hpl2 := (List.getElem?_eq_some_iff.1 htat).1
  have hU2 := (dropL_st _ _ _ hU1 htat).2
  have htn2 : stOf (dropL (dropL L (place L s.data.toList)) (place (dropL L (place L s.data.toList)) t.data.toList)) t.data.toList = none := by rw [(dropL_st _ _ _ hU1 htat).1, setF_same]
  have hcut : cutL (dropL L (place L s.data.toList)) t.data.toList = dropL (dropL L (place L s.data.toList)) (place (dropL L (place L s.data.toList)) t.data.toList) := by unfold cutL; rw [if_neg (by rw [htn]; simp)]
  have hL2 := dropL_len _ _ hpl2
  unfold renL
  rw [hcut]
  clear hcut
  go_enter Try.func44, Try.ntmps44
  go_wp2_with fail
  refine (rfind_there hU h s hs rfl).mono ?_
  rintro e w1 ⟨rfl, q1, rfl⟩
  go_wp2_with fail
  refine (rtake_ok (h.drN q1) hg).mono ?_
  rintro e w2 ⟨rfl, h2, hc2⟩
  have hc02 : Chg S w w2 := (Chg.refl S w |>.dN q1).trans (hc2.mono (fun b _ q => .inl q))
  have hs2 := hc02.size
  clear hc2 c1 c2 z1 z2
  obtain ⟨fv, P, hmap0, hI⟩ := id h2
  obtain ⟨g, c, dv, rfl, hkl, h1, h3, hP, c0, g0, g1, g2, gz, hd⟩ := hI.there (by rw [hmap0]; exact hU) (by rw [hmap0]; exact hs) (by rw [hmap0])
  obtain ⟨fd, fk⟩ := f
  have hdat := (hI.data _ (List.mem_of_getElem? hP)).2
  have hsd := hI.sd _ (List.mem_of_getElem? hP)
  have hlo := hI.lo
  have hsr := hI.sr
  simp only [] at *
  unfold maxLen at h3
  obtain ⟨ad, cd, rfl, d1, d2, d3⟩ := id hd
  unfold maxLen at d2
  clear d3 hI hP hmap0
  generalize hkk0 : place L s.data.toList = k0 at *
  go_wp2_with fail
  clear c0 g0 g1 g2 gz h1 h3 hkl
  refine (rgone_fine (h2.below (Below.al w2 _)) k0 hpl (by omega)).mono ?_
  rintro e w3 ⟨⟨v3, rfl⟩, ⟨S6, h6, hS6⟩, hc3⟩
  have hrF : r ≠ w2.heap.size := by have := (hlo r hsr).2; omega
  have hsz3 := hc3.size
  have hFl3 : w2.heap.size < w3.heap.size := by simp at hsz3; omega
  have hF6 : w3.heap[w2.heap.size]? = some (.cells #[.string ⟨s.data⟩, .slice ad fd.length cd, .int .i64 (fk : Int)] 130 (0, 0)) := by
    rw [hc3.block _ (by simp) (fun e => hrF e.symm)]; exact alloc_block _ _
  have hd6 : Rd w3 (.slice ad fd.length cd) fd := (hd.alloc _).keptC hc3 (fun b hb e => (hsd b hb).2.1 e)
  have hvb : ∀ b, (Value.slice ad fd.length cd).ownBlock = some b → B ≤ b ∧ b < w3.heap.size ∧ b ≠ r ∧ b ≠ w2.heap.size := fun b hb => ⟨(hlo b (hsd b hb).1).1, by have := (hlo b (hsd b hb).1).2; omega, (hsd b hb).2.1, by have := (hlo b (hsd b hb).1).2; omega⟩
  have hSF : ¬ S6 w2.heap.size := fun q => by
    rcases hS6 _ q with q | q
    · have := (hlo _ q).2; omega
    · simp at q; omega
  have HS : Hid (∀ b, S6 b → S b ∨ w.heap.size ≤ b) := fun b q => by
    rcases hS6 b q with q | q
    · exact .inl q
    · simp at q; exact .inr (by omega)
  have HV : Hid (∀ b, (Value.slice ad fd.length cd).ownBlock = some b → S b) := fun b hb => (hsd b hb).1
  have hc6 : Chg S w w3 := (hc02.alloc _).trans (hc3.mono (fun b _ q => .inl (by rw [q]; exact hsr)))
  have hwF : w.heap.size ≤ w2.heap.size := hs2
  clear hc3 hc02 hs2 hd h2 hsz3 hS6 hlo hsd
  generalize w2.heap.size = F at *
  go_wp2_with fail
  refine (rfind_there hU1 h6 t htn rfl).mono ?_
  rintro e w4 ⟨rfl, q4, rfl⟩
  go_wp2_with fail
  refine (rgone_fine (h6.drN q4) _ hpl2 (by omega)).mono ?_
  rintro e w5 ⟨⟨v5, rfl⟩, ⟨S7, h7, hS7⟩, hc5⟩
  have hsz5 := hc5.size
  have hsz5' : w3.heap.size ≤ w5.heap.size := hsz5
  replace hF6 : w5.heap[F]? = some (.cells #[.string ⟨s.data⟩, .slice ad fd.length cd, .int .i64 (fk : Int)] 130 (0, 0)) := by rw [hc5.block _ hFl3 (fun e => hrF e.symm)]; exact hF6
  replace hd6 : Rd w5 (.slice ad fd.length cd) fd := (hd6.drewN q4).keptC hc5 (fun b hb e => (hvb b hb).2.2.1 e)
  replace hvb : ∀ b, (Value.slice ad fd.length cd).ownBlock = some b → B ≤ b ∧ b < w5.heap.size ∧ b ≠ r ∧ b ≠ F := fun b hb => ⟨(hvb b hb).1, Nat.lt_of_lt_of_le (hvb b hb).2.1 hsz5', (hvb b hb).2.2⟩
  replace hSF : ¬ S7 F := fun q => by
    rcases hS7 _ q with q | q
    · exact hSF q
    · exact absurd hFl3 (Nat.not_lt.2 q)
  replace HS : Hid (∀ b, S7 b → S b ∨ w.heap.size ≤ b) := fun b q => by
    rcases hS7 b q with q | q
    · exact HS.out b q
    · exact .inr (Nat.le_trans hc6.size q)
  replace hc6 : Chg S w w5 := (hc6.dN q4).trans (hc5.mono (fun b _ q => .inl (by rw [q]; exact hsr)))
  have hFl3 : F < w5.heap.size := Nat.lt_of_lt_of_le hFl3 hsz5'
  clear hc5 h6 hS7 hsz5
  go_wp2_with fail
  refine (rfind_not hU2 h7 t htn2 rfl).mono ?_
  rintro e w6 ⟨rfl, q5, rfl⟩
  replace h6 := h7.drN q5
  replace hF6 : (w5.drewN q5).heap[F]? = some (.cells #[.string ⟨s.data⟩, .slice ad fd.length cd, .int .i64 (fk : Int)] 130 (0, 0)) := hF6
  replace hd6 := hd6.drewN q5
  replace hc6 := hc6.dN q5
  replace hvb : ∀ b, (Value.slice ad fd.length cd).ownBlock = some b → B ≤ b ∧ b < (w5.drewN q5).heap.size ∧ b ≠ r ∧ b ≠ F := hvb
  clear h7 hFl3 htn htn2 htat hU1 hU2
  generalize w5.drewN q5 = w6 at *
  obtain ⟨fv6, P6, hmap, hI6⟩ := h6
  have HM : Hid _ := hmap
  have hP6 : P6.length ≤ 1099511627000 := by rw [← List.length_map (f := (·.1)), hmap]; omega
  have hIb : RfI B r fv6 P6 S7 left' false (w6.setCell ⟨F, 0, none⟩ (.string t)) := hI6.next ((Chg.refl (fun b => b = F) w6).put F 0 _ rfl) (fun b hb e => hSF (by rw [← e]; exact hb))
  have hcb : Chg (fun b => b = F) w6 (w6.setCell ⟨F, 0, none⟩ (.string t)) := (Chg.refl (fun b => b = F) w6).put F 0 _ rfl
  have hFb : (w6.setCell ⟨F, 0, none⟩ (.string t)).heap[F]? = some (.cells #[.string t, .slice ad fd.length cd, .int .i64 (fk : Int)] 130 (0, 0)) := by rw [heap_setCell_same _ _ 0 _ _ _ hF6]; rfl
  have hdb : Rd (w6.setCell ⟨F, 0, none⟩ (.string t)) (.slice ad fd.length cd) fd := hd6.keptC hcb (fun b hb e => (hvb b hb).2.2.2 e)
  have HC : Hid (Chg S w (w6.setCell ⟨F, 0, none⟩ (.string t))) := hc6.trans (hcb.mono (fun b _ q => .inr (by omega)))
  have hvw : ∀ b, (Value.slice ad fd.length cd).ownBlock = some b → B ≤ b ∧ b < (w6.setCell ⟨F, 0, none⟩ (.string t)).heap.size ∧ b ≠ r := fun b hb => ⟨(hvb b hb).1, by have := (hvb b hb).2.1; simpa using this, (hvb b hb).2.2.1⟩
  have q0 : w6.cell? ⟨F, 0, none⟩ = some (.string ⟨s.data⟩) := by rw [cell_of_row _ _ _ _ _ _ hF6]; rfl
  have q1 : w6.frozen? ⟨F, 0, none⟩ = false := frozen_of_row _ _ _ _ _ hF6
  generalize hwb : w6.setCell ⟨F, 0, none⟩ (.string t) = wb at *
  have f0 : wb.cell? ⟨F, 0, none⟩ = some (.string t) := by rw [cell_of_row _ _ _ _ _ _ hFb]; rfl
  have f1 : wb.cell? ⟨F, 1, none⟩ = some (.slice ad fd.length cd) := by rw [cell_of_row _ _ _ _ _ _ hFb]; rfl
  have f2 : wb.cell? ⟨F, 2, none⟩ = some (.int .i64 (fk : Int)) := by rw [cell_of_row _ _ _ _ _ _ hFb]; rfl
  have fz0 : wb.frozen? ⟨F, 0, none⟩ = false := frozen_of_row _ _ _ _ _ hFb
  have fz1 : wb.frozen? ⟨F, 1, none⟩ = false := frozen_of_row _ _ _ _ _ hFb
  have fz2 : wb.frozen? ⟨F, 2, none⟩ = false := frozen_of_row _ _ _ _ _ hFb
  have hFl : F < wb.heap.size := (Array.getElem?_eq_some_iff.1 hFb).1
  obtain ⟨c0, c1, c2, cz⟩ := hIb.cells
  have z0 := cz 0
  obtain ⟨a, c, rfl, h1, h2, h3, h4⟩ := hIb.shape
  unfold maxLen at h2
  clear h4 cz c1 c2
  have hkl : place (P6.map (·.1)) t.data.toList ≤ P6.length := by have := place_le (P6.map (·.1)) t.data.toList; rwa [List.length_map] at this
  rw [← hmap]
  generalize hkk : place (P6.map (·.1)) t.data.toList = k at *
  have hrl : r < wb.heap.size := (hIb.lo r hIb.sr).2
  have hpre := hIb.pre k hkl
  have hgl : ∀ ad, a = some ad → ad.block < wb.heap.size := fun ad e => (hIb.lo ad.block (hIb.sf ad.block (by rw [e]; rfl))).2
  have hpost : ∃ a', (c = k → a' = a) ∧ (¬ c = k → ∃ g, a = some ⟨g, 0, none⟩ ∧ a' = some ⟨g, k * 3, none⟩) ∧ RdF wb (.slice a' (P6.length - k) (c - k)) (P6.drop k) ∧ ∀ ad, a' = some ad → ad.block < wb.heap.size := by
    by_cases q : c = k
    · refine ⟨a, fun _ => rfl, fun h => absurd q h, ?_, hgl⟩
      rw [List.drop_of_length_le (by omega), show P6.length - k = 0 by omega]
      exact RdF.end0 _ _ _ (fun e => by have := h3 e; omega)
    · cases a with
      | none => have := h3 rfl; omega
      | some ad =>
        obtain ⟨g, rfl⟩ : ∃ g, ad = ⟨g, 0, none⟩ := by
          rcases hIb.row.2 with ⟨q, q0⟩ | ⟨g, cap, cur, q, _⟩
          · cases q
          · simp only [Value.slice.injEq, Option.some.injEq] at q; exact ⟨g, q.1⟩
        exact ⟨some ⟨g, k * 3, none⟩, fun h => absurd h q, fun _ => ⟨g, rfl, rfl⟩, hIb.post k hkl, fun ad e => by obtain rfl := Option.some.inj e; exact hgl ⟨g, 0, none⟩ rfl⟩
  have hnm : t.data.toList.length ≤ 64 := by have : t.data.toList.length = t.size := by rw [Array.length_toList]; rfl
                                             omega
  have hxn : ∀ W : World, RdF (W.alloc (.cells #[.string t, .slice ad fd.length cd, .int .i64 (fk : Int)] 130)) (.slice (some ⟨W.heap.size, 0, none⟩) 1 1) [((t.data.toList, (fd, fk)), .slice ad fd.length cd)] := fun W => rdF_one W ((t.data.toList, (fd, fk)), .slice ad fd.length cd) ⟨_, _, _, rfl⟩ (by show _ = #[Value.string ⟨t.data.toList.toArray⟩, _, _]; rw [Array.toArray_toList]) _
  have HI : Hid _ := @ren_new B r (.slice a P6.length c) P6 S7 left' false wb hIb k t.data.toList hnm (fd, fk) (.slice ad fd.length cd) hdb hdat.1 hvw
  have HP : Hid _ := hkk
  have HSr : Hid (S r) := hsr
  have hl1 : ([] : List (Fl × Value)).length + (P6.take k).length ≤ 1099511627776 := by rw [List.length_take]; simp; omega
  have hl2 : (P6.take k).length + [((t.data.toList, (fd, fk)), Value.slice ad fd.length cd)].length ≤ 1099511627776 := by rw [List.length_take]; simp; omega
  have hl3 : (P6.take k ++ [((t.data.toList, (fd, fk)), Value.slice ad fd.length cd)]).length + (P6.drop k).length ≤ 1099511627776 := by rw [List.length_append, List.length_take, List.length_drop]; simp; omega
  have hal : ∀ (W : World) (o : Obj), wb.heap.size ≤ W.heap.size → wb.heap.size ≤ (W.alloc o).heap.size := fun W o q => by simp; omega
  clear hkk hIb hI6 hmap hcb hc6 hdb hvw hvb hd6
  obtain ⟨a', ha1, ha2, hp, hgp⟩ := hpost
  generalize hn : P6.length = n at *
  clear hn
  by_cases hck : c = k
  · subst hck
    obtain rfl : n = c := by omega
    obtain rfl := ha1 rfl
    clear ha1 ha2 h3
    rw [Nat.sub_self] at hp
    go_wp2_with (first
      | (at_builtin; refine wpList_appF rfl _ _ rfl wb.heap.size (.slice none 0 0) [] rfl (World.ownsRow_nil _ _ _ _) _ (P6.take n) rfl hpre (Nat.le_refl _) hl1 ?_; intro v7 w7 ho7 hg7 hv7; have hc7 := step_chg (e := 130) (sz := 3) (n := 0) (xs := []) (Chg.refl _ wb) (World.ownsRow_nil _ _ _ _) hg7; have hs7 := hc7.size; obtain ⟨f07, _⟩ := chg_cell hc7 hFl f0 fz0; obtain ⟨f17, _⟩ := chg_cell hc7 hFl f1 fz1; obtain ⟨f27, _⟩ := chg_cell hc7 hFl f2 fz2)
      | (at_builtin; refine wpList_appF rfl _ _ rfl wb.heap.size v7 (P6.take n) rfl (World.ownsRow.alloc ho7 _) _ [((t.data.toList, (fd, fk)), .slice ad fd.length cd)] rfl (hxn _) (hal _ _ hs7) hl2 ?_; intro v8 w8 ho8 hg8 hv8; have hc8 := step_chg (hc7.alloc _) (World.ownsRow.alloc ho7 _) hg8; obtain ⟨c08, z08⟩ := chg_cell hc8 hrl c0 z0; have hs8 := hc8.size)
      | (at_builtin; refine wpList_appF rfl _ _ rfl wb.heap.size v8 (P6.take n ++ [((t.data.toList, (fd, fk)), .slice ad fd.length cd)]) rfl ho8 _ (P6.drop n) rfl (chg_rdF hc8 hp hgp) hs8 hl3 ?_; intro v9 w9 ho9 hg9 hv9; have hc9 := step_chg hc8 ho8 hg9; obtain ⟨a9, n9, c9, rfl⟩ := ownsRow_shape ho9; obtain ⟨c09, z09⟩ := chg_cell hc9 hrl c0 z0)
      | fail)
    go_ret
    obtain ⟨hI, hcI⟩ := HI.out hc9 ho9
    refine ⟨rfl, ⟨_, ⟨_, _, ?_, hI⟩, fun b q => ?_⟩, HC.out.trans (hcI.mono (fun b _ q => .inl (by rw [q]; exact HSr.out)))⟩
    · rw [insP_map _ _ _ _ HP.out, HM.out, hkk0]
    · rcases q with (q | q) | q
      · exact HS.out b q
      · exact .inl (HV.out b q)
      · exact .inr (Nat.le_trans HC.out.size (World.ownsRow.lt ho9 b q).1)
  · obtain ⟨g0, rfl, rfl⟩ := ha2 hck
    clear ha1 ha2 h3
    go_wp2_with (first
      | (at_builtin; refine wpList_appF rfl _ _ rfl wb.heap.size (.slice none 0 0) [] rfl (World.ownsRow_nil _ _ _ _) _ (P6.take k) rfl hpre (Nat.le_refl _) hl1 ?_; intro v7 w7 ho7 hg7 hv7; have hc7 := step_chg (e := 130) (sz := 3) (n := 0) (xs := []) (Chg.refl _ wb) (World.ownsRow_nil _ _ _ _) hg7; have hs7 := hc7.size; obtain ⟨f07, _⟩ := chg_cell hc7 hFl f0 fz0; obtain ⟨f17, _⟩ := chg_cell hc7 hFl f1 fz1; obtain ⟨f27, _⟩ := chg_cell hc7 hFl f2 fz2)
      | (at_builtin; refine wpList_appF rfl _ _ rfl wb.heap.size v7 (P6.take k) rfl (World.ownsRow.alloc ho7 _) _ [((t.data.toList, (fd, fk)), .slice ad fd.length cd)] rfl (hxn _) (hal _ _ hs7) hl2 ?_; intro v8 w8 ho8 hg8 hv8; have hc8 := step_chg (hc7.alloc _) (World.ownsRow.alloc ho7 _) hg8; obtain ⟨c08, z08⟩ := chg_cell hc8 hrl c0 z0; have hs8 := hc8.size)
      | (at_builtin; refine wpList_appF rfl _ _ rfl wb.heap.size v8 (P6.take k ++ [((t.data.toList, (fd, fk)), .slice ad fd.length cd)]) rfl ho8 _ (P6.drop k) rfl (chg_rdF hc8 hp hgp) hs8 hl3 ?_; intro v9 w9 ho9 hg9 hv9; have hc9 := step_chg hc8 ho8 hg9; obtain ⟨a9, n9, c9, rfl⟩ := ownsRow_shape ho9; obtain ⟨c09, z09⟩ := chg_cell hc9 hrl c0 z0)
      | fail)
    go_ret
    obtain ⟨hI, hcI⟩ := HI.out hc9 ho9
    refine ⟨rfl, ⟨_, ⟨_, _, ?_, hI⟩, fun b q => ?_⟩, HC.out.trans (hcI.mono (fun b _ q => .inl (by rw [q]; exact HSr.out)))⟩
    · rw [insP_map _ _ _ _ HP.out, HM.out, hkk0]
    · rcases q with (q | q) | q
      · exact HS.out b q
      · exact .inl (HV.out b q)
      · exact .inr (Nat.le_trans HC.out.size (World.ownsRow.lt ho9 b q).1)
end
end Go.Proofs.Ytkgpgfpclcibmaa

/- Plain mathematics: the bytes of all files behind each turn of the list. -/
namespace Go.Proofs.Ytkgpgfpclcibmaa
set_option linter.unusedVariables false
set_option maxRecDepth 100000

theorem sumL_cons (y : Fl) (q : List Fl) : sumL (y :: q) = y.2.1.length + sumL q := by simp [sumL]
theorem sumL_set (L : List Fl) (i : Nat) (x y : Fl) (h : L[i]? = some x) : sumL (L.set i y) + x.2.1.length = sumL L + y.2.1.length := by
  induction L generalizing i with
  | nil => simp at h
  | cons z r ih =>
    cases i with
    | zero => simp at h; subst h; rw [List.set_cons_zero, sumL_cons, sumL_cons]; omega
    | succ i => have := ih i (by simpa using h); rw [List.set_cons_succ, sumL_cons, sumL_cons]; omega
theorem sumL_put (L : List Fl) (nm : Nm) (f : List UInt8 × Nat) : sumL (putL L nm f) = sumL L + f.1.length := by
  unfold putL
  have : sumL (L.take (place L nm)) + sumL (L.drop (place L nm)) = sumL L := by rw [← sumL_app, List.take_append_drop]
  rw [sumL_app, sumL_cons]
  simp only []
  omega
theorem sumL_drop (L : List Fl) (i : Nat) (x : Fl) (h : L[i]? = some x) : sumL (dropL L i) + x.2.1.length = sumL L := by
  obtain ⟨hi, e⟩ := List.getElem?_eq_some_iff.1 h
  have h1 : L.drop i = x :: L.drop (i + 1) := by rw [List.drop_eq_getElem_cons hi, e]
  have : sumL (L.take i) + sumL (L.drop i) = sumL L := by rw [← sumL_app, List.take_append_drop]
  rw [h1, sumL_cons] at this
  unfold dropL
  rw [sumL_app]
  omega
theorem putL_len (L : List Fl) (nm : Nm) (f : List UInt8 × Nat) : (putL L nm f).length = L.length + 1 := by
  have := place_le L nm
  unfold putL
  rw [List.length_append, List.length_take, List.length_cons, List.length_drop]
  omega

/-- The list behind a Rename. -/
theorem renL_st {L : List Fl} (hU : Up L) {s t : Nm} {f : List UInt8 × Nat} (hs : stOf L s = some f) :
    stOf (renL L s t f) = setF (setF (stOf L) s none) t (some f) ∧ Up (renL L s t f) ∧ (renL L s t f).length ≤ L.length ∧ stOf (dropL L (place L s)) = setF (stOf L) s none ∧
      (∀ f2, setF (stOf L) s none t = some f2 → sumL (renL L s t f) + f2.1.length = sumL L) ∧ (setF (stOf L) s none t = none → sumL (renL L s t f) = sumL L) := by
  have hat := (stOf_at hU s f).1 hs
  obtain ⟨h1, h2⟩ := dropL_st (place L s) s f hU hat
  have hl := dropL_len L _ (List.getElem?_eq_some_iff.1 hat).1
  have hsum := sumL_drop L _ _ hat
  simp only [] at hsum
  cases e : stOf (dropL L (place L s)) t with
  | none =>
    have hc : cutL (dropL L (place L s)) t = dropL L (place L s) := by unfold cutL; rw [if_pos e]
    unfold renL
    rw [hc]
    obtain ⟨h3, h4⟩ := putL_st t f h2 e
    refine ⟨by rw [h3, h1], h4, by rw [putL_len]; omega, h1, fun f2 q => ?_, fun _ => ?_⟩
    · rw [← h1, e] at q; cases q
    · rw [sumL_put]; omega
  | some f2 =>
    have hat2 := (stOf_at h2 t f2).1 e
    obtain ⟨h5, h6⟩ := dropL_st (place (dropL L (place L s)) t) t f2 h2 hat2
    have hl2 := dropL_len _ _ (List.getElem?_eq_some_iff.1 hat2).1
    have hsum2 := sumL_drop _ _ _ hat2
    simp only [] at hsum2
    have hc : cutL (dropL L (place L s)) t = dropL (dropL L (place L s)) (place (dropL L (place L s)) t) := by unfold cutL; rw [if_neg (by rw [e]; simp)]
    have hn : stOf (dropL (dropL L (place L s)) (place (dropL L (place L s)) t)) t = none := by rw [h5, setF_same]
    unfold renL
    rw [hc]
    obtain ⟨h3, h4⟩ := putL_st t f h6 hn
    refine ⟨by rw [h3, h5, setF_twice, h1], h4, by rw [putL_len]; omega, h1, fun f3 q => ?_, fun q => ?_⟩
    · rw [← h1, e] at q
      obtain rfl := Option.some.inj q
      rw [sumL_put]; omega
    · rw [← h1, e] at q; cases q
end Go.Proofs.Ytkgpgfpclcibmaa
