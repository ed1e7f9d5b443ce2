/- Proved here: ParcelPacks answers true for all bytes and every size: the pieces are the document's, each in memory of its own, and the bytes stay. No condition. -/
import Derived.Test.YtlajncjamafomaaG46
import Derived.Test.YtlajncjamafomaaG37
import Derived.Test.YtlajncjamafomaaG38
import Derived.Test.YtlajncjamafomaaG16
import Derived.Test.YtlajncjamafomaaG14
namespace Go.Proofs.Ytlajncjamafomaa
open Go.RowKit Go.Maps
set_option linter.unusedVariables false
set_option maxRecDepth 100000

theorem Rds.nilP (w : World) : Rds w (.slice none 0 0) [] := ⟨none, 0, rfl, by simp, by simp, fun i hi => by simp at hi⟩
theorem Ows.keptP {B : Nat} {S : Nat → Prop} {w w' : World} {v : Value} {ls : List (List UInt8)} {us : List Value} (h : Ows B w v ls us) (hc : Chg S w w') (hS : ∀ b, B ≤ b → ¬ S b) : Ows B w' v ls us :=
  ⟨ownsRow_keptC h.row hc (fun b e => hS b (World.ownsRow.lt h.row b e).1), h.len, fun i u l e1 e2 => (h.el i u l e1 e2).keptC hc (fun b e => hS b (World.ownsRow.lt (h.el i u l e1 e2) b e).1), h.off, h.sep⟩
/-- The Book holds i lists; those of us from i on are what they were, and no list of the Book's; neither is the row. -/
def LoopP (B k C : Nat) (v : Value) (us : List Value) (ls : List (List UInt8)) (i : Nat) (wr : World) : Prop :=
  ∃ (D : Nat → Prop) (rs : List (Value × UInt8)), rs.length = i ∧ Bk B k D rs wr ∧ (∀ (j : Nat) (u : Value) (l : List UInt8), i ≤ j → us[j]? = some u → ls[j]? = some l → Stays D C wr u l) ∧
    wr.ownsRow C 22 1 v us.length us ∧ ∀ b, v.ownBlock = some b → ¬ D b
theorem own_roundP {B k C : Nat} {v : Value} {us : List Value} {ls : List (List UInt8)} {i : Nat} {wr : World} (h : LoopP B k C v us ls i wr) (hi : i < us.length) (hls : us.length = ls.length) (hC : B ≤ C) (hn : us.length ≤ 1099511627776)
    (hsep : us.Pairwise Apart) (hoff : ∀ u ∈ us, ∀ b, u.ownBlock = some b → v.ownBlock ≠ some b) :
    Calls Try.prog 15 #[.pointer (some ⟨k, 0, none⟩), us[i]] wr fun e w' => e = .returned (.bool true) ∧ LoopP B k C v us ls (i + 1) w' ∧ Below B wr w' := by
  obtain ⟨D, rs, hrs, hbk, hst, hrow, hvd⟩ := h
  have hu := hst i us[i] (ls[i]'(by omega)) (Nat.le_refl _) (by simp [hi]) (by simp [show i < ls.length by omega])
  have hm : us[i] ∈ us := List.getElem_mem hi
  refine (own_step hbk hu hC (by omega)).mono ?_
  rintro e w' ⟨rfl, ⟨q, hbk'⟩, hch, hbl⟩
  refine ⟨rfl, ⟨_, rs ++ [q], by simp [hrs], hbk', ?_, ?_, ?_⟩, hbl⟩
  · intro j u l hj e1 e2
    have hju : j < us.length := (List.getElem?_eq_some_iff.1 e1).1
    obtain rfl : us[j] = u := by rw [List.getElem?_eq_getElem hju] at e1; exact Option.some.inj e1
    exact (hst j us[j] l (by omega) e1 e2).next hch (List.pairwise_iff_getElem.1 hsep i j hi hju (by omega))
  · refine ownsRow_keptC hrow hch (fun b e hd => ?_)
    rcases hd with hd | hd
    · exact hvd b e hd
    · exact hoff _ hm b hd e
  · intro b e hd
    rcases hd with hd | hd | hd
    · exact hvd b e hd
    · exact hoff _ hm b hd e
    · have := (World.ownsRow.lt hrow b e).2; omega
theorem LoopP.start {B k C : Nat} {v : Value} {us : List Value} {ls : List (List UInt8)} {D : Nat → Prop} {w : World} (hbk : Bk B k D [] w) (hos : Ows C w v ls us) (hD : ∀ b, D b → ¬ (C ≤ b ∧ b < w.heap.size) ∨ ∀ u, (u = v ∨ u ∈ us) → u.ownBlock ≠ some b) : LoopP B k C v us ls 0 w := by
  refine ⟨D, [], rfl, hbk, fun j u l _ e1 e2 => ⟨hos.el j u l e1 e2, fun b e hd => ?_⟩, hos.row, fun b e hd => ?_⟩
  · have h1 := World.ownsRow.lt (hos.el j u l e1 e2) b e
    rcases hD b hd with q | q
    · exact q h1
    · exact q u (.inr (List.mem_of_getElem? e1)) e
  · have h1 := World.ownsRow.lt hos.row b e
    rcases hD b hd with q | q
    · exact q h1
    · exact q v (.inl rfl) e

set_option maxHeartbeats 8000000 in
theorem packs_walk {vb : Value} {b : List UInt8} {w : World} (hrb : Rd w vb b) (hlb : b.length ≤ 140737488351232) (z : Int) (hz : -9223372036854775808 ≤ z ∧ z ≤ 9223372036854775807) :
    Calls Try.prog 3 #[vb, .int .i64 z] w fun e w' => e = .returned (.bool true) ∧ Below w.heap.size w w' := by
  obtain ⟨ab, cb, rfl, _⟩ := id hrb
  have haw := pawake_any w
  obtain ⟨q2, hq2⟩ : ∃ q2 : Nat, (b.length : Int) / 2000 = (q2 : Int) := ⟨b.length / 2000, by omega⟩
  by_cases c1 : 0 < z ∧ z < (q2 : Int)
  · obtain ⟨c1, c2⟩ := c1
    go_enter Try.func3, Try.ntmps3
    go_wp2_with fail
    refine haw.mono ?_
    rintro e w1 ⟨rfl, hb1⟩
    go_wp2_with fail
    go_ret
    exact ⟨rfl, hb1⟩
  by_cases c4 : z < 1
  · have c4' : ¬ 0 < z := by omega
    clear c1
    go_enter Try.func3, Try.ntmps3
    go_wp2_with fail
    refine haw.mono ?_
    rintro e w1 ⟨rfl, hb1⟩
    have hB1 : w.heap.size ≤ w1.heap.size := hb1.size
    have hR1 := RdB.of hrb hb1
    go_wp2_with fail
    refine (lend_new hR1 (by omega) hB1 _).mono ?_
    rintro e w2 ⟨p, rfl, hp2, hs2, hb2⟩
    obtain ⟨ap, cp, rfl, hp3, hp4, _⟩ := hp2
    unfold maxLen at hp4
    have hB2 : w.heap.size ≤ w2.heap.size := Nat.le_trans hB1 hb2.size
    have hR2 := hR1.next (hb2.mono hB1)
    go_wp2_with fail
    refine (pack_err (by omega) z (.inl c4) w2).mono ?_
    rintro e w3 ⟨rfl, rfl⟩
    go_wp2_with fail
    refine (rpack_err (by omega) z (.inl c4) w3).mono ?_
    rintro e w4 ⟨rfl, rfl⟩
    go_wp2_with fail
    refine (back_new hs2 hR2 (by omega) (by omega)).mono ?_
    rintro e w5 ⟨rfl, hg5, hb5⟩
    have hB5 : w.heap.size ≤ w5.heap.size := Nat.le_trans hB2 hb5.size
    have hsa := sameall_any (w := w5) (Rds.nilP w5) (Rds.nilP w5)
    have hbk := fun (W : World) (h : w.heap.size ≤ W.heap.size) => Bk.new (B := w.heap.size) W 38 h
    go_wp2_with fail
    refine hsa.mono ?_
    rintro e w6 ⟨rfl, j6, rfl⟩
    have hB6 : w.heap.size ≤ (w5.drewN j6).heap.size := hB5
    have hb6 : Below w.heap.size w (w5.drewN j6) := below_drewN (hb1.trans ((hb2.mono hB1).trans hb5)) j6
    generalize w5.drewN j6 = W6 at *
    clear hsa
    go_wp2_with fail
    refine (num_any _ _).mono ?_
    rintro e w7 ⟨rfl, rfl⟩
    have hbk6 := hbk W6 hB6
    clear hbk
    go_wp2_with fail
    refine wp_loop_rounds 1 ?_
    rw [rounds_succ]
    go_wp2_with fail
    refine (done_any hbk6 (by simp)).mono ?_
    rintro e w8 ⟨rfl, j8, rfl⟩
    go_wp2_with fail
    go_ret
    exact ⟨rfl, below_drewN (hb6.alloc hB6 _) j8⟩
  · have c4' : 0 < z := by omega
    have c5' : ¬ z < (q2 : Int) := fun q => c1 ⟨c4', q⟩
    clear c1
    by_cases c6 : 1048576 < z ∨ 1048576 < b.length
    · have H6 : Hid _ := c6
      clear c6
      go_enter Try.func3, Try.ntmps3
      go_wp2_with fail
      refine haw.mono ?_
      rintro e w1 ⟨rfl, hb1⟩
      have hB1 : w.heap.size ≤ w1.heap.size := hb1.size
      have hR1 := RdB.of hrb hb1
      go_wp2_with fail
      refine (lend_new hR1 (by omega) hB1 _).mono ?_
      rintro e w2 ⟨p, rfl, hp2, hs2, hb2⟩
      obtain ⟨ap, cp, rfl, hp3, hp4, _⟩ := hp2
      unfold maxLen at hp4
      have hB2 : w.heap.size ≤ w2.heap.size := Nat.le_trans hB1 hb2.size
      have hR2 := hR1.next (hb2.mono hB1)
      go_wp2_with fail
      refine (pack_err (by omega) z (.inr H6.out) w2).mono ?_
      rintro e w3 ⟨rfl, rfl⟩
      go_wp2_with fail
      refine (rpack_err (by omega) z (.inr H6.out) w3).mono ?_
      rintro e w4 ⟨rfl, rfl⟩
      go_wp2_with fail
      refine (back_new hs2 hR2 (by omega) (by omega)).mono ?_
      rintro e w5 ⟨rfl, hg5, hb5⟩
      have hB5 : w.heap.size ≤ w5.heap.size := Nat.le_trans hB2 hb5.size
      have hsa := sameall_any (w := w5) (Rds.nilP w5) (Rds.nilP w5)
      have hbk := fun (W : World) (h : w.heap.size ≤ W.heap.size) => Bk.new (B := w.heap.size) W 38 h
      go_wp2_with fail
      refine hsa.mono ?_
      rintro e w6 ⟨rfl, j6, rfl⟩
      have hB6 : w.heap.size ≤ (w5.drewN j6).heap.size := hB5
      have hb6 : Below w.heap.size w (w5.drewN j6) := below_drewN (hb1.trans ((hb2.mono hB1).trans hb5)) j6
      generalize w5.drewN j6 = W6 at *
      clear hsa
      go_wp2_with fail
      refine (num_any _ _).mono ?_
      rintro e w7 ⟨rfl, rfl⟩
      have hbk6 := hbk W6 hB6
      clear hbk
      go_wp2_with fail
      refine wp_loop_rounds 1 ?_
      rw [rounds_succ]
      go_wp2_with fail
      refine (done_any hbk6 (by simp)).mono ?_
      rintro e w8 ⟨rfl, j8, rfl⟩
      go_wp2_with fail
      go_ret
      exact ⟨rfl, below_drewN (hb6.alloc hB6 _) j8⟩
    · obtain ⟨sz, rfl⟩ : ∃ sz : Nat, z = (sz : Int) := ⟨z.toNat, by omega⟩
      have hs1 : 1 ≤ sz := by omega
      have hs2 : sz ≤ 1048576 := by omega
      have hbl : b.length ≤ 1048576 := by omega
      clear c6
      have hml := pkM_le b.length sz hs1
      have hm1 : 1 ≤ pkM b.length sz := by unfold pkM; omega
      go_enter Try.func3, Try.ntmps3
      go_wp2_with fail
      refine haw.mono ?_
      rintro e w1 ⟨rfl, hb1⟩
      have hB1 : w.heap.size ≤ w1.heap.size := hb1.size
      have hR1 := RdB.of hrb hb1
      go_wp2_with fail
      refine (lend_new hR1 (by omega) hB1 _).mono ?_
      rintro e w2 ⟨p, rfl, hp2, hs2', hb2⟩
      have hB2 : w.heap.size ≤ w2.heap.size := Nat.le_trans hB1 hb2.size
      have hR2 := hR1.next (hb2.mono hB1)
      have hpk := pack_ok hp2 hbl hs1 hs2
      obtain ⟨ap, cp, ep, _⟩ := hp2
      subst ep
      go_wp2_with fail
      refine hpk.mono ?_
      rintro e w3 ⟨pv, us, rfl, hos, hb3⟩
      have hB3 : w.heap.size ≤ w3.heap.size := Nat.le_trans hB2 hb3.size
      have hR3 := hR2.next (hb3.mono hB2)
      have hrp := rpack_ok hR3.now hbl hs1 hs2
      clear hpk
      go_wp2_with fail
      refine hrp.mono ?_
      rintro e w4 ⟨rv, us2, rfl, hos2, hb4⟩
      have hB4 : w.heap.size ≤ w4.heap.size := Nat.le_trans hB3 hb4.size
      have hR4 := hR3.next (hb4.mono hB3)
      have hs4 := (hs2'.next hb3).next hb4
      have hlt4 := hs2'.blk.lt
      clear hrp
      go_wp2_with fail
      refine (back_new hs4 hR4 (by omega) (by omega)).mono ?_
      rintro e w5 ⟨rfl, hg5, hb5⟩
      have hB5 : w.heap.size ≤ w5.heap.size := Nat.le_trans hB4 hb5.size
      have hc5 : Chg (fun b => b = w1.heap.size + 1) w4 w5 := Chg.of_grown hg5 (fun b e _ => (Option.some.inj e).symm)
      have hos5 := (hos.below hb4 (Nat.le_refl _)).keptP hc5 (fun b q e => by omega)
      have hos25 := hos2.keptP hc5 (fun b q e => by have := hb3.size; omega)
      have hsa := sameall_any hos5.rds hos25.rds
      clear hos hos2
      go_wp2_with fail
      refine hsa.mono ?_
      rintro e w6 ⟨rfl, j6, rfl⟩
      have hB6 : w.heap.size ≤ (w5.drewN j6).heap.size := hB5
      have hb6 : Below w.heap.size w (w5.drewN j6) := below_drewN (hb1.trans ((hb2.mono hB1).trans ((hb3.mono hB2).trans ((hb4.mono hB3).trans hb5)))) j6
      have hos6 := hos5.below (Below.dN w5 j6) (Nat.le_refl _)
      have hz6 : w2.heap.size ≤ (w5.drewN j6).heap.size := by have := hb3.size; have := hb4.size; have := hc5.size; show _ ≤ w5.heap.size; omega
      generalize w5.drewN j6 = W6 at *
      clear hsa hos5 hos25
      go_wp2_with fail
      refine (num_any _ _).mono ?_
      rintro e w7 ⟨rfl, rfl⟩
      have hal := pk_al W6 (.cells #[.slice none 0 0, .slice none 0 0] 38)
      have hbk6 := Bk.new (B := w.heap.size) W6 38 hB6
      have hos7 := hos6.below hal (Nat.le_refl _)
      have hls := hos6.len
      rw [pkA_len] at hls
      have hst := LoopP.start hbk6 hos7 (fun b hd => .inr (fun u hu e => by
        have hd' : b = W6.heap.size := hd
        rcases hu with rfl | hu
        · have := (World.ownsRow.lt hos6.row b e).2; omega
        · obtain ⟨l, hl⟩ := hos6.elem u hu; have := (World.ownsRow.lt hl b e).2; omega))
      obtain ⟨gp, cp2, ev, hgp, hc1', hc2', hps⟩ := hos7.pieces
      generalize hMM : pkM b.length sz = Mm at *
      subst ev
      have HM : Hid _ := hMM
      clear hMM hps
      have hb7 := hb6.alloc hB6 (.cells #[.slice none 0 0, .slice none 0 0] 38)
      have hsep := hos7.sep
      have hoff := hos7.off
      have HLS : Hid (us.length = Mm) := hls
      have HSO : Hid (us.Pairwise Apart ∧ ∀ u ∈ us, ∀ b, u.ownBlock = some b → (Value.slice (some ⟨gp, 0, none⟩) Mm cp2).ownBlock ≠ some b) := ⟨hsep, hoff⟩
      clear hls hsep hoff hos7 hos6 hbk6
      go_wp2_with fail
      go_loopw [11] (fun x wr => ∃ k : Nat, k ≤ Mm ∧ x = .int .i64 k ∧ LoopP w.heap.size W6.heap.size w2.heap.size (.slice (some ⟨gp, 0, none⟩) Mm cp2) us (pkA b sz) k wr ∧ Below w.heap.size w wr) (fun x _ => Mm - (intOf x).toNat)
      case atStart => exact ⟨0, Nat.zero_le _, rfl, hst, hb7⟩
      case round =>
        obtain ⟨k, hk, rfl, hlp, hbw⟩ := hrel
        clear hst hb7
        by_cases hlt : k < Mm
        · have hlt' : (k : Int) < (Mm : Int) := by omega
          have hku : k < us.length := by have := HLS.out; omega
          have hcell : wr.cell? ⟨gp, k, none⟩ = some us[k] := by
            obtain ⟨D, rs, _, _, _, hrow, _⟩ := hlp
            rw [HLS.out] at hrow
            rw [hrow.cellAt k (by omega)]
            simp [hku]
          have hown := own_roundP hlp hku (by rw [pkA_len, HM.out]; exact HLS.out) hB2 (by have := HLS.out; omega) HSO.out.1 HSO.out.2
          obtain ⟨a9, n9, x9, e9⟩ : ∃ a n x, us[k] = .slice a n x := by
            obtain ⟨D, rs, _, _, hsts, _, _⟩ := hlp
            obtain ⟨a, x, e⟩ := (hsts k us[k] ((pkA b sz)[k]'(by rw [pkA_len, HM.out]; omega)) (Nat.le_refl _) (by simp [hku]) (by simp [pkA_len, HM.out, hlt])).ow.shape
            exact ⟨_, _, _, e⟩
          rw [e9] at hcell hown
          clear hlp e9
          go_wp2_with fail
          refine hown.mono ?_
          rintro e w8 ⟨rfl, hlp8, hb8⟩
          go_wp2_with fail
          exact ⟨⟨k + 1, by omega, by go_num, hlp8, hbw.trans hb8⟩, by simp [intOf]; omega⟩
        · obtain rfl : k = Mm := by omega
          obtain ⟨D, rs, hrs, hbk, _⟩ := hlp
          go_wp2_with fail
          refine (done_any hbk (by omega)).mono ?_
          rintro e w8 ⟨rfl, j8, rfl⟩
          go_wp2_with fail
          go_ret
          exact ⟨rfl, below_drewN hbw j8⟩
end Go.Proofs.Ytlajncjamafomaa
