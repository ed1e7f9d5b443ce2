/- awake: true; pieces in memory. -/
import Derived.Test.YtlajncjamafomaaG20
import Derived.Test.YtlajncjamafomaaG29
import Derived.Test.YtlajncjamafomaaG1
namespace Go.Proofs.Ytlajncjamafomaa
open Go.RowKit Go.Maps
set_option linter.unusedVariables false
set_option maxRecDepth 100000

/-- The row in block g holds the pieces of b. -/
def PsAt (b : List UInt8) (size g : Nat) (w : World) : Prop := ∀ i, i < pkM b.length size → ∃ a n x, w.cell? ⟨g, i, none⟩ = some (.slice a n x) ∧ Rd w (.slice a n x) (pkI b size i)
theorem PsAt.below {b : List UInt8} {size g E : Nat} {w w' : World} (h : PsAt b size g w) (hb : Below E w w') (hE : w.heap.size ≤ E) : PsAt b size g w' := fun i hi => by
  obtain ⟨a, n, x, h1, h2⟩ := h i hi
  exact ⟨a, n, x, by rw [hb.cell (by have := World.block_lt_of_cell? w _ h1; simp only [] at this ⊢; omega)]; exact h1, h2.below hb hE⟩
theorem Ows.pieces {b : List UInt8} {size B : Nat} {w : World} {v : Value} {us : List Value} (h : Ows B w v (pkA b size) us) : ∃ g c, v = .slice (some ⟨g, 0, none⟩) (pkM b.length size) c ∧ B ≤ g ∧ pkM b.length size ≤ c ∧ c ≤ 9223372036854775807 ∧ PsAt b size g w := by
  have hm1 : 1 ≤ pkM b.length size := by unfold pkM; omega
  have hlen := h.len
  rw [pkA_len] at hlen
  have hrow := h.row
  rcases hrow.2 with ⟨hv, h0⟩ | ⟨g, cap, cur, hv, hg, hh, hn, hcap, hsz, htake⟩
  · omega
  · subst hv
    refine ⟨g, cap, by rw [hlen], hg, by omega, by unfold maxLen at hcap; omega, fun i hi => ?_⟩
    have hiu : i < us.length := by omega
    have ho := h.el i us[i] (pkI b size i) (by simp [hiu]) (by
      rw [List.getElem?_eq_getElem (by rw [pkA_len]; exact hi), pkA_get b size i hi])
    obtain ⟨a, x, e⟩ := ho.shape
    have hr := ho.rd
    refine ⟨a, _, x, ?_, e ▸ hr⟩
    rw [hrow.cellAt i (by omega), ← e]
    simp [hiu]

theorem rd_lit3 (w : World) (t : TypeId) : Rd (w.alloc (.cells #[.int .u8 1, .int .u8 2, .int .u8 3] t)) (.slice (some ⟨w.heap.size, 0, none⟩) 3 3) [1, 2, 3] := by
  refine Rd.mk rfl (by simp) (by simp [maxLen]) (fun i hi => ?_)
  have hc : ∀ j u, #[Value.int .u8 1, .int .u8 2, .int .u8 3][j]? = some u → (w.alloc (.cells #[.int .u8 1, .int .u8 2, .int .u8 3] t)).cell? ⟨w.heap.size, j, none⟩ = some u := fun j u e => by
    rw [World.cell?_alloc_at _ _ _ _ rfl]; exact e
  match i, hi with
  | 0, _ => exact hc 0 _ rfl
  | 1, _ => exact hc 1 _ rfl
  | 2, _ => exact hc 2 _ rfl

theorem pawake_facts : ∃ P1 P2, bxPut (M.crc [1, 2, 3]) 3 0 [] (pkR (pkI [1, 2, 3] 2 1)) = ((2, P1), 0) ∧ bxPut (M.crc [1, 2, 3]) 3 2 P1 (pkR (pkI [1, 2, 3] 2 0)) = ((2, P2), 0) ∧ bxDone (M.crc [1, 2, 3]) 3 2 P2 = some [1, 2, 3] ∧ P1.length < 2199023255552 ∧ P2.length < 2199023255552 := by
  obtain ⟨e1, b1⟩ := (PB.nil [1, 2, 3] 2).put (i := 1) (by omega) (by decide) (by decide)
  obtain ⟨e0, b0⟩ := b1.put (i := 0) (by omega) (by decide) (by decide)
  have hdn := b0.done (by omega)
  have hln : (putP (putP [] 1 (pkP [1, 2, 3] 2 1)) 0 (pkP [1, 2, 3] 2 0)).length = pkM ([1, 2, 3] : List UInt8).length 2 := by decide
  rw [if_pos hln] at hdn
  exact ⟨_, _, e1, e0, hdn, by decide, by decide⟩
set_option maxHeartbeats 4000000 in
theorem pawake_any (w : World) : Calls Try.prog 8 #[] w fun e w' => e = .returned (.bool true) ∧ Below w.heap.size w w' := by
  have hM : pkM ([1, 2, 3] : List UInt8).length 2 = 2 := by decide
  obtain ⟨P1, P2, e1, e0, hdn, hl1, hl2⟩ := pawake_facts
  have hlen1 := pkI_len [1, 2, 3] 2 1 (by decide)
  have hlen0 := pkI_len [1, 2, 3] 2 0 (by decide)
  have hcr := M.crc_lt [1, 2, 3]
  have q0 := pk_al w (.cells #[.int .u8 1, .int .u8 2, .int .u8 3] 5)
  have hpk := pack_ok (rd_lit3 w 5) (by decide) (size := 2) (by omega) (by omega)
  have hsm := fun w1 => sum_any (rd_lit3 w1 5)
  have hnb := newBox_ok (M.crc [1, 2, 3]) 3 hcr (by omega)
  generalize M.crc [1, 2, 3] = cv at *
  have HP : Hid (bxPut cv 3 0 [] (pkR (pkI [1, 2, 3] 2 1)) = ((2, P1), 0) ∧ bxPut cv 3 2 P1 (pkR (pkI [1, 2, 3] 2 0)) = ((2, P2), 0) ∧ bxDone cv 3 2 P2 = some [1, 2, 3]) := ⟨e1, e0, hdn⟩
  clear e1 e0 hdn
  go_enter Try.func8, Try.ntmps8
  go_wp2_with fail
  refine hpk.mono ?_
  rintro e w1 ⟨pv, us, rfl, hos, hb1⟩
  have hB1 := q0.trans (hb1.mono q0.size)
  obtain ⟨g, c, ev, hg, hc1, hc2, hps⟩ := hos.pieces
  rw [hM] at ev hc1
  subst ev
  have q1 := pk_al w1 (.cells #[.int .u8 1, .int .u8 2, .int .u8 3] 5)
  have hps1 := hps.below q1 (Nat.le_refl _)
  clear hos hps hpk
  go_wp2_with fail
  refine (hsm w1).mono ?_
  rintro e w2 ⟨rfl, j2, rfl⟩
  have hB2 := hB1.trans ((below_drewN q1 j2).mono hB1.size)
  have hps2 := hps1.below (Below.dN _ j2) (Nat.le_refl _)
  generalize (w1.alloc (.cells #[.int .u8 1, .int .u8 2, .int .u8 3] 5)).drewN j2 = W2 at *
  clear hps1 q1
  go_wp2_with fail
  refine (hnb W2).mono ?_
  rintro e w3 ⟨d, rfl, hbx, hb3⟩
  have hB3 := hB2.trans (hb3.mono hB2.size)
  have hps3 := hps2.below hb3 (Nat.le_refl _)
  obtain ⟨a1, n1, x1, hc11, hr1⟩ := hps3 1 (by rw [hM]; omega)
  have hput1 := put_any hbx hr1 hlen1 (by simp)
  rw [HP.out.1] at hput1
  go_wp2_with fail
  refine hput1.mono ?_
  rintro e w4 ⟨rfl, hbx4, hch4⟩
  have hb4 : Below W2.heap.size w3 w4 := hch4.below (fun b q => q.1) hb3.size
  have hps4 : PsAt [1, 2, 3] 2 g w4 := hps2.below (hb3.trans hb4) (Nat.le_refl _)
  have hB4 := hB2.trans ((hb3.trans hb4).mono hB2.size)
  obtain ⟨a0, n0, x0, hc00, hr0⟩ := hps4 0 (by rw [hM]; omega)
  have hput0 := put_any hbx4 hr0 hlen0 hl1
  rw [HP.out.2.1] at hput0
  go_wp2_with fail
  refine hput0.mono ?_
  rintro e w5 ⟨rfl, hbx5, hch5⟩
  have hb5 : Below W2.heap.size w4 w5 := hch5.below (fun b q => q.1) (Nat.le_trans hb3.size hb4.size)
  have hB5 := hB4.trans (hb5.mono hB2.size)
  have hdo := done_any14 hbx5 hl2
  rw [HP.out.2.2] at hdo
  go_wp2_with fail
  refine hdo.mono ?_
  rintro e w6 ⟨v6, rfl, ho6, hb6⟩
  have hB6 := hB5.trans (hb6.mono hB5.size)
  have q6 := pk_al w6 (.cells #[.int .u8 1, .int .u8 2, .int .u8 3] 5)
  have hsame := same_any (ho6.rd.below q6 (Nat.le_refl _)) (rd_lit3 w6 5)
  rw [decide_eq_true (show (some [1, 2, 3] : Option (List UInt8)).getD [] = [1, 2, 3] from rfl)] at hsame
  go_wp2_with fail
  refine hsame.mono ?_
  rintro e w7 ⟨rfl, j7, rfl⟩
  go_wp2_with fail
  go_ret
  exact ⟨rfl, below_drewN (hB6.trans (q6.mono hB6.size)) j7⟩
end Go.Proofs.Ytlajncjamafomaa
