/- The log's find, where the disk has segments' files, and others. -/
import Derived.Test.YtcielagfajdbeaaGreatDoorG5
import Derived.Test.YtcielagfajdbeaaGreatDoorG6
import Derived.Deep.CutRange
import Derived.Test.YtcielagfajdbeaaGreatDoorG7
import Derived.Deep.QuietTactic
import Derived.Test.YtcielagfajdbeaaGreatDoorG1
namespace Go.Proofs.YtcielagfajdbeaaGreatDoor
open Go.RowKit
set_option linter.unusedVariables false
set_option maxRecDepth 100000

/-- A file's name, with the number of the segment whose name it is. -/
def Segd (nm : ByteArray) (x : Nm × Option Nat) : Prop := match x.2 with
  | some b => x.1 = (fname nm b).data.toList ∧ 1 ≤ b ∧ b < 100
  | none => Lib.hasPrefix x.1 (nm ++ ⟨#[46]⟩).data.toList = false
/-- The segments of such a list. -/
def sgsOf (X : List (Nm × Option Nat)) : List (Sg × Value) := (X.filterMap (·.2)).map sg0
def oSg : Option Nat → List (Sg × Value)
  | some b => [sg0 b]
  | none => []
theorem sgsOf_take (X : List (Nm × Option Nat)) (k : Nat) (s : Nm) (o : Option Nat) (e : X[k]? = some (s, o)) : sgsOf (X.take (k + 1)) = sgsOf (X.take k) ++ oSg o := by
  unfold sgsOf
  rw [List.take_add_one, e, Option.toList_some, List.filterMap_append, List.map_append]
  cases o <;> rfl
theorem sgsOf_len (X : List (Nm × Option Nat)) : (sgsOf X).length ≤ X.length := by
  unfold sgsOf
  rw [List.length_map]
  exact List.length_filterMap_le _ _
/-- What find's loop keeps. -/
def FdI (B l d size : Nat) (nm : ByteArray) (X : List (Nm × Option Nat)) (own : Nat → Option LRole) (n : Nat) (od : Nat → Option Role) (st : Nm → Option (List UInt8 × Nat)) (sz : Nat) (w w1 : World) (k : Nat) (W : World) : Prop :=
  ∃ sv' U' own', LgI B l d size nm false sv' (sgsOf (X.take k)) U' own' W ∧ Dk B d n od st sz (alive d) 0 W ∧ (∀ b, own' b ≠ none → own b ≠ none ∨ w1.heap.size ≤ b) ∧ (∀ b, w.heap.size ≤ b → b < w1.heap.size → W.heap[b]? = w1.heap[b]?) ∧ w1.heap.size ≤ W.heap.size ∧ Chg (fun b => own b ≠ none) w W
section
variable {B l d size : Nat} {nm : ByteArray} {X : List (Nm × Option Nat)} {U : Nat → List Value} {own : Nat → Option LRole} {n : Nat} {od : Nat → Option Role} {st : Nm → Option (List UInt8 × Nat)} {sz : Nat} {w w1 W W' : World} {k : Nat}
theorem FdI.below (h : FdI B l d size nm X own n od st sz w w1 k W) (hw : w.heap.size ≤ w1.heap.size) (hb : Below W.heap.size W W') : FdI B l d size nm X own n od st sz w w1 k W' := by
  obtain ⟨sv', U', own', h1, h2, h3, h4, h5, h6⟩ := h
  exact ⟨sv', U', own', h1.below hb, h2.next (Chg.of_below hb) (fun b hs q => by have := (h2.blo hs).2; omega), h3, fun b q1 q2 => by rw [hb.block b (by omega)]; exact h4 b q1 q2, Nat.le_trans h5 hb.size, h6.trans ((Chg.of_below hb).mono (fun b q1 q2 => .inr (by omega)))⟩

set_option maxHeartbeats 2000000 in
theorem find_any (h : LgI B l d size nm false (.slice none 0 0) [] U own w) (hd : Dk B d n od st sz (alive d) 0 w) (hap : ∀ b, own b ≠ none → od b = none) (hX : ∀ x ∈ X, Segd nm x) (hN : NamesOf st (X.map (·.1))) (hne : 0 < (sgsOf X).length) (hXl : X.length ≤ 1000) (hns : nm.size ≤ 40) (hn : n ≤ 1048576) (hB : B ≤ w.heap.size) :
    Calls Tryz.prog 33 #[.pointer (some ⟨l, 0, none⟩)] w fun r w' => r = .returned (.int .i64 0) ∧ (∃ sv' U' own', LgI B l d size nm false sv' (sgsOf X) U' own' w' ∧ ∀ b, own' b ≠ none → own b ≠ none ∨ w.heap.size ≤ b) ∧ Dk B d n od st sz (alive d) 0 w' ∧ Chg (fun b => own b ≠ none) w w' := by
  obtain ⟨c0, c1, _, c3, _, cf⟩ := h.cells
  have hnames := namesQ_aliveW hd hN (by omega)
  have hll := (h.lo l (by rw [h.ol]; simp)).2
  have hown : ∀ b, own b ≠ none → b < w.heap.size := fun b hb => (h.lo b hb).2
  have hodb : ∀ b, od b ≠ none → b < w.heap.size := fun b hb => (hd.blo hb).2
  have HH : Hid (LgI B l d size nm false (.slice none 0 0) [] U own w ∧ Dk B d n od st sz (alive d) 0 w) := ⟨h, hd⟩
  have HX : Hid (∀ x ∈ X, Segd nm x) := hX
  have HAP : Hid _ := hap
  have hl46 : ¬ 9223372036854775807 < nm.size + 1 := by omega
  clear h hd hN hX hap
  go_enter Tryz.func33, Tryz.ntmps33
  go_wp2_with fail
  refine hnames.mono ?_
  rintro e w1 ⟨v1, rfl, hv1, hb1⟩
  obtain ⟨ao, cc, ev1, hcc1, hcc2, _, hrd1⟩ := row_reads hv1
  rw [List.length_map] at ev1 hcc1
  subst ev1
  unfold maxLen at hcc2
  have HV : Hid (∀ k s o, X[k]? = some (s, o) → ∃ g, ao = some ⟨g, 0, none⟩ ∧ w.heap.size ≤ g ∧ g < w1.heap.size ∧ w1.cell? ⟨g, k, none⟩ = some (.string ⟨s.toArray⟩)) := fun k s o e => by
    obtain ⟨g, eg, hc⟩ := hrd1 k (encStr s) (by rw [List.getElem?_map, List.getElem?_map, e]; rfl)
    have hg := World.ownsRow.lt hv1 g (by rw [eg]; rfl)
    exact ⟨g, eg, hg.1, hg.2, hc⟩
  have HI1 : Hid (FdI B l d size nm X own n od st sz w w1 0 w1) := ⟨_, _, _, HH.out.1.below hb1, HH.out.2.next (Chg.of_below hb1) (fun b hs q => by have := hodb b hs; omega), fun b hb => .inl hb, fun b _ _ => rfl, Nat.le_refl _, (Chg.of_below hb1).mono (fun b q1 q2 => by omega)⟩
  clear hrd1 hv1 hnames c3 cf c0 c1
  go_wp2_with fail
  go_loopw [21] (fun i wr => ∃ k : Nat, k ≤ X.length ∧ i = .int .i64 (k : Int) ∧ FdI B l d size nm X own n od st sz w w1 k wr) (fun i _ => X.length - (intOf i).toNat)
  case atStart => exact ⟨0, by omega, rfl, HI1.out⟩
  case round =>
    obtain ⟨k, hk, rfl, hI⟩ := hrel
    clear HI1
    by_cases hlt : k < X.length
    · obtain ⟨⟨s, o⟩, ex⟩ : ∃ x, X[k]? = some x := ⟨_, List.getElem?_eq_getElem hlt⟩
      obtain ⟨g, eg, hg1, hg2, hgc⟩ := HV.out k s o ex
      subst eg
      have hseg := HX.out (s, o) (List.mem_of_getElem? ex)
      have htk := sgsOf_take X k s o ex
      have hgr : wr.cell? ⟨g, k, none⟩ = some (.string ⟨s.toArray⟩) := by
        obtain ⟨_, _, _, _, _, _, h4, _⟩ := hI
        rw [World.cell?_of_block (h4 g hg1 hg2)]; exact hgc
      have hlt2 : (k : Int) < (X.length : Int) := by omega
      have HI : Hid (FdI B l d size nm X own n od st sz w w1 k wr) := hI
      have HTK : Hid _ := htk
      cases o with
      | none =>
        have hcut := cut_no nm s hseg wr
        clear hI htk hseg ex
        go_wp2_with fail
        refine hcut.mono ?_
        rintro e w2 ⟨rfl, rfl⟩
        go_wp2_with fail
        refine ⟨⟨k + 1, by omega, by go_num, ?_⟩, by simp [intOf]; omega⟩
        obtain ⟨sv', U', own', h1, h2⟩ := HI.out
        refine ⟨sv', U', own', ?_, h2⟩
        rw [HTK.out]; exact (List.append_nil _).symm ▸ h1
      | some b =>
        obtain ⟨es, hb1', hb2'⟩ := hseg
        have es' : s = (fname nm b).data.toList := es
        subst es'
        have hcut := cut_seg nm b wr
        have hnum := isnum_seg b hb2' wr
        have hpar := fun W => parse_seg b hb2' W
        have n1 : ((b : Int) == 0) = false := by rw [beq_eq_false_iff_ne]; omega
        have n2 : ¬ (9223372036854775808 : Int) < (b : Int) := by omega
        have n3 : (b == 0) = false := by rw [beq_eq_false_iff_ne]; omega
        clear hI htk es ex
        go_wp2_with fail
        refine hcut.mono ?_
        rintro e w2 ⟨rfl, rfl⟩
        go_wp2_with fail
        refine hnum.mono ?_
        rintro e w3 ⟨rfl, hb3⟩
        go_wp2_with fail
        refine (hpar w3).mono ?_
        rintro e w4 ⟨rfl, hb4⟩
        obtain ⟨sv', U', own', h1, h2, h3, h4, h5, h6⟩ := HI.out.below hb1.size (Below.tr hb3 hb4)
        have v3 := h1.cells.2.2.2.1
        have hlen := sgsOf_len (X.take k)
        have hPl : (sgsOf (X.take k)).length ≤ 1000 := by rw [List.length_take] at hlen; omega
        have hB4 : B ≤ w4.heap.size := by have := (h1.lo l (by rw [h1.ol]; simp)); omega
        have hll4 := (h1.lo l (by rw [h1.ol]; simp)).2
        obtain ⟨sa, sc, esv, _⟩ := row_reads h1.row
        have hal : ∀ j u, #[.int .u64 (b : Int), .int .i64 0, .slice none 0 0][j]? = some u → (w4.alloc (.cells #[.int .u64 (b : Int), .int .i64 0, .slice none 0 0] 80)).cell? ((⟨w4.heap.size, 0, none⟩ : Addr).add j) = some u := fun j u q => by
          rw [Addr.add_lit, Nat.zero_add, World.cell?_alloc_at _ _ _ _ rfl]; exact q
        have a0 := hal 0 _ rfl
        have a1 := hal 1 _ rfl
        have a2 := hal 2 _ rfl
        have hrow5 := ownsRow_keptC h1.row (Chg.of_below (bel_alW w4 (.cells #[.int .u64 (b : Int), .int .i64 0, .slice none 0 0] 80))) (fun b e q => by have := (World.ownsRow.lt h1.row b e).2; omega)
        have hz7 : ∀ w7, (w4.alloc (.cells #[.int .u64 (b : Int), .int .i64 0, .slice none 0 0] 80)).grownBy w7 sv'.ownBlock → w7.cell? ⟨l, 3, none⟩ = some sv' ∧ w7.frozen? ⟨l, 3, none⟩ = false := fun w7 hg => by
          have hs5 : (w4.alloc (.cells #[.int .u64 (b : Int), .int .i64 0, .slice none 0 0] 80)).heap.size = w4.heap.size + 1 := by simp
          have el : w7.heap[l]? = w4.heap[l]? := (hg.block l (by omega) (fun q => by have := h1.os l q.symm; rw [h1.ol] at this; cases this)).trans (Below.heap_alloc w4 _ _ hll4)
          exact ⟨by rw [World.cell?_of_block el]; exact v3, by rw [World.frozen?_of_block el]; exact h1.cells.2.2.2.2.2 3⟩
        have H1 : Hid _ := And.intro h1 (And.intro h2 (And.intro h3 (And.intro h4 (And.intro h5 h6))))
        have HB : Hid _ := And.intro hb3 hb4
        clear h1 h2 h3 h4 h5 h6 hlen hal
        generalize hPP : sgsOf (X.take k) = PP at *
        have HPP : Hid _ := hPP
        clear hPP
        subst esv
        go_wp2_with (first
          | (at_builtin; refine wpList_appSg rfl _ _ rfl B (.slice sa PP.length sc) PP rfl hrow5 ⟨w4.heap.size, 0, none⟩ 1 b rfl a0 a1 a2 (by simp; omega) (by omega) ?_; intro v7 w7 hr7 hg7 hv7; obtain ⟨z1, z2⟩ := hz7 w7 hg7; obtain ⟨o7, n7, c7, e7⟩ := row_shapeW hr7; subst e7)
          | fail)
        obtain ⟨h1, h2, h3, h4, h5, h6⟩ := H1.out
        obtain ⟨hL7, hc7⟩ := h1.addSeg (begin := b) (o := (.cells #[.int .u64 (b : Int), .int .i64 0, .slice none 0 0] 80)) (w5 := w7) (sv' := .slice o7 n7 c7) hg7 hr7 hv7
        have hn7 : ∀ y, w.heap.size ≤ y → y < w1.heap.size → own' y = none := fun y q1 q2 => by
          by_cases q : own' y = none
          · exact q
          · rcases h3 y q with a | a
            · have := hown y a; omega
            · omega
        have hs7 : w4.heap.size + 1 ≤ w7.heap.size := by have := hg7.size; simpa using this
        refine ⟨⟨k + 1, by omega, by go_num, .slice o7 n7 c7, recSeg U' PP.length, ownSeg own' (.slice o7 n7 c7), ?_, h2.next hc7 (fun y hy q => ?_), fun y hy => ?_, fun y q1 q2 => ?_, by have := hc7.size; omega, ?_⟩, by simp [intOf]; omega⟩
        · rw [HTK.out]; exact hL7
        · have hd1 := hodb y hy
          rcases h3 y q with a | a
          · exact hy (HAP.out y a)
          · have := hb1.size; omega
        · unfold ownSeg at hy
          split at hy
          · rename_i q
            rcases hv7 with r | r
            · rw [r] at q
              exact h3 y (by rw [h1.os y q]; simp)
            · rw [r] at q
              have := Option.some.inj q
              have hsA : (w4.alloc (.cells #[.int .u64 (b : Int), .int .i64 0, .slice none 0 0] 80)).heap.size = w4.heap.size + 1 := by simp
              exact .inr (by omega)
          · exact h3 y hy
        · rw [hc7.block y (by omega) (by simp [hn7 y q1 q2])]
          exact h4 y q1 q2
        · exact h6.trans (hc7.mono (fun y q1 q2 => by
            rcases h3 y q2 with a | a
            · exact .inl a
            · exact .inr (by have := hb1.size; omega)))
    · obtain rfl : k = X.length := by omega
      obtain ⟨sv', U', own', h1, h2, h3, h4, h5, h6⟩ := hI
      rw [List.take_length] at h1
      have v3 := h1.cells.2.2.2.1
      obtain ⟨sa, sc, esv, _⟩ := row_reads h1.row
      have hp : (0 : Int) < ((sgsOf X).length : Int) := by omega
      have H1 : Hid _ := And.intro h1 (And.intro h2 (And.intro h3 h6))
      have hbs := hb1.size
      clear h1 h2 h3 h4 h5 h6
      generalize hPP : sgsOf X = PP at *
      subst esv
      have HPP : Hid _ := hPP
      clear hPP
      go_wp2_with fail
      go_ret
      obtain ⟨h1, h2, h3, h6⟩ := H1.out
      exact ⟨rfl, ⟨.slice sa PP.length sc, U', own', by rw [HPP.out]; exact h1, fun b hb => (h3 b hb).elim .inl (fun q => .inr (by omega))⟩, h2, h6⟩
end
end Go.Proofs.YtcielagfajdbeaaGreatDoor

/- The log's readWhole: each segment but the last one is read. -/
namespace Go.Proofs.YtcielagfajdbeaaGreatDoor
open Go.RowKit
set_option linter.unusedVariables false
set_option maxRecDepth 100000

/-- A segment's number, the records of its file, what stands behind them. -/
abbrev SF := Nat × List (List UInt8) × List UInt8
def SF.bytes (f : SF) : List UInt8 := frs f.2.1 ++ f.2.2
/-- The files that a log finds: each is there, and its frames end where no frame begins. -/
structure Files (nm : ByteArray) (st : Nm → Option (List UInt8 × Nat)) (F : List SF) : Prop where
  at_ : ∀ f ∈ F, ∃ s, st (fname nm f.1).data.toList = some (f.bytes, s)
  nb : ∀ f ∈ F, f.1 < 100
  no : ∀ f ∈ F, M.tkf f.2.2 = none
  len : ∀ f ∈ F, f.bytes.length ≤ 16777216
  rl : ∀ f ∈ F, f.2.1.length ≤ 1048576
/-- The log's segments when the first m of the files are read. -/
def Reads (F : List SF) (m : Nat) (P : List (Sg × Value)) : Prop := P.length = F.length ∧ ∀ (i : Nat) (f : SF) (p : Sg × Value), F[i]? = some f → P[i]? = some p → p.1.1 = f.1 ∧ (i < m → p.1.2 = f.2.1) ∧ (m ≤ i → p.1.2 = [])
theorem Reads.set {F : List SF} {m : Nat} {P : List (Sg × Value)} (h : Reads F m P) {f : SF} (ef : F[m]? = some f) (rv : Value) : Reads F (m + 1) (P.set m ((f.1, f.2.1), rv)) := by
  refine ⟨by rw [List.length_set]; exact h.1, fun i g p eg ep => ?_⟩
  by_cases hi : i = m
  · subst hi
    have hl := (List.getElem?_eq_some_iff.1 ef).1
    rw [List.getElem?_set_self (by rw [h.1]; exact hl)] at ep
    obtain rfl := Option.some.inj ep
    rw [ef] at eg
    obtain rfl := Option.some.inj eg
    exact ⟨rfl, fun _ => rfl, fun q => by omega⟩
  · rw [List.getElem?_set_ne (fun q => hi q.symm)] at ep
    obtain ⟨a, b, c⟩ := h.2 i g p eg ep
    exact ⟨a, fun q => b (by omega), fun q => c (by omega)⟩
/-- How far readWhole comes: the first segment behind whose frames something stands, or that the next one does not go on behind. -/
def Good (F : List SF) (i : Nat) : Prop := ∀ f g, F[i]? = some f → F[i + 1]? = some g → f.2.2 = [] ∧ g.1 = f.1 + f.2.1.length

/-- The log in the midst of readWhole. -/
def WhI (B l d size : Nat) (nm : ByteArray) (F : List SF) (own : Nat → Option LRole) (n : Nat) (od : Nat → Option Role) (st : Nm → Option (List UInt8 × Nat)) (sz : Nat) (sv : Value) (w : World) (m : Nat) (W : World) : Prop :=
  ∃ P U own', LgI B l d size nm false sv P U own' W ∧ Reads F m P ∧ Dk B d n od st sz (alive d) 0 W ∧ (∀ b, own' b ≠ none → own b ≠ none ∨ w.heap.size ≤ b) ∧ Chg (fun b => own b ≠ none) w W
section
variable {B l d size : Nat} {nm : ByteArray} {F : List SF} {own : Nat → Option LRole} {n : Nat} {od : Nat → Option Role} {st : Nm → Option (List UInt8 × Nat)} {sz m : Nat} {sv : Value} {w W W' : World}
theorem WhI.below (h : WhI B l d size nm F own n od st sz sv w m W) (hb : Below W.heap.size W W') : WhI B l d size nm F own n od st sz sv w m W' := by
  obtain ⟨P, U, own', h1, h2, h3, h4, h5⟩ := h
  have := h5.size
  exact ⟨P, U, own', h1.below hb, h2, h3.next (Chg.of_below hb) (fun b hs q => by have := (h3.blo hs).2; omega), h4, h5.trans ((Chg.of_below hb).mono (fun b q1 q2 => .inr (by omega)))⟩
theorem WhI.chg (h : WhI B l d size nm F own n od st sz sv w m W) : Chg (fun b => own b ≠ none) w W := by
  obtain ⟨P, U, own', h1, h2, h3, h4, h5⟩ := h
  exact h5
/-- One segment is read. -/
theorem read_one (h : WhI B l d size nm F own n od st sz sv w m W) (hF : Files nm st F) (hns : nm.size ≤ 40) (hod : ∀ b, od b ≠ none → b < w.heap.size) (hap : ∀ b, own b ≠ none → od b = none) {f : SF} (ef : F[m]? = some f) {g c : Nat} (hv : sv = .slice (some ⟨g, 0, none⟩) F.length c) :
    Calls Tryz.prog 65 #[.pointer (some ⟨l, 0, none⟩), .pointer (some ⟨g, m * 3, none⟩)] W fun r w' => ∃ v, r = .returned (.tuple #[v, .int .i64 0]) ∧ Rd w' v f.bytes ∧ WhI B l d size nm F own n od st sz sv w (m + 1) w' := by
  obtain ⟨P, U, own', h1, h2, h3, h4, h5⟩ := h
  have hml := (List.getElem?_eq_some_iff.1 ef).1
  obtain ⟨p, ep⟩ : ∃ p, P[m]? = some p := ⟨_, List.getElem?_eq_getElem (by rw [h2.1]; exact hml)⟩
  obtain ⟨p1, p2, p3⟩ := h2.2 m f p ef ep
  have hmem := List.mem_of_getElem? ef
  obtain ⟨s, hst⟩ := hF.at_ f hmem
  obtain ⟨⟨pb, pr⟩, pv⟩ := p
  have e1 : pb = f.1 := p1
  have e2 : pr = [] := p3 (Nat.le_refl _)
  subst e1 e2
  refine (read_any (k := m) h1 h3 (fun b hb => ?_) hns ep (hF.nb f hmem) hst (hF.no f hmem) (hF.len f hmem) (hF.rl f hmem) (c := c) (by rw [h2.1]; exact hv)).mono ?_
  · rcases h4 b hb with a | a
    · exact hap b a
    · by_cases q : od b = none
      · exact q
      · have := hod b q; omega
  · rintro r w' ⟨v, rfl, hr, ⟨rv, U', own2, h6, h7⟩, h8, h9⟩
    refine ⟨v, rfl, hr, _, U', own2, h6, h2.set ef rv, h8, fun b hb => ?_, h5.trans (h9.mono (fun b q1 q2 => ?_))⟩
    · rcases h7 b hb with a | a
      · exact h4 b a
      · exact .inr (by have := h5.size; omega)
    · rcases h4 b q2 with a | a
      · exact .inl a
      · exact .inr a
end
end Go.Proofs.YtcielagfajdbeaaGreatDoor

/- The log's readWhole, walked. -/
namespace Go.Proofs.YtcielagfajdbeaaGreatDoor
open Go.RowKit
set_option linter.unusedVariables false
set_option maxRecDepth 100000

section
variable {B l d size : Nat} {nm : ByteArray} {F : List SF} {own : Nat → Option LRole} {n : Nat} {od : Nat → Option Role} {st : Nm → Option (List UInt8 × Nat)} {sz : Nat} {sv : Value} {w w0 : World}
set_option maxHeartbeats 2000000 in
theorem whole_any (h : WhI B l d size nm F own n od st sz sv w 0 w0) (hF : Files nm st F) (hns : nm.size ≤ 40) (hod : ∀ b, od b ≠ none → b < w.heap.size) (hap : ∀ b, own b ≠ none → od b = none) {g c : Nat} (hv : sv = .slice (some ⟨g, 0, none⟩) F.length c) (hFl : 0 < F.length) (hF1 : F.length ≤ 1000) :
    Calls Tryz.prog 34 #[.pointer (some ⟨l, 0, none⟩)] w0 fun r w' => (r = .returned (.int .i64 0) ∧ (∀ i, Good F i) ∧ WhI B l d size nm F own n od st sz sv w (F.length - 1) w') ∨ (r = .returned (.int .i64 40) ∧ (¬ ∀ i, Good F i) ∧ Chg (fun b => own b ≠ none) w w') := by
  have c3 : w0.cell? ⟨l, 3, none⟩ = some (.slice (some ⟨g, 0, none⟩) F.length c) := by
    obtain ⟨P, U, own', h1, _⟩ := h
    rw [← hv]; exact h1.cells.2.2.2.1
  obtain ⟨N, hN⟩ : ∃ N, N = F.length := ⟨_, rfl⟩
  obtain ⟨N1, hN1⟩ : ∃ N1, N = N1 + 1 := ⟨N - 1, by omega⟩
  have e1 : (N : Int) - 1 = (N1 : Int) := by omega
  have H : Hid _ := And.intro h (And.intro hF (And.intro hod (And.intro hap hv)))
  have HN : Hid _ := And.intro hN hN1
  rw [← hN] at c3
  have hNb : N ≤ 1000 ∧ N1 < 1000 := by omega
  clear h hF hod hap hv hFl hF1 hN hN1
  go_enter Tryz.func34, Tryz.ntmps34
  go_wp2_with fail
  go_loopw [13] (fun i W => ∃ m : Nat, i = .int .i64 (m : Int) ∧ m ≤ N1 ∧ (∀ i, i < m → Good F i) ∧ WhI B l d size nm F own n od st sz sv w m W) (fun i _ => N1 - (intOf i).toNat)
  case atStart => exact ⟨0, rfl, by omega, fun i q => by omega, H.out.1⟩
  case round =>
    obtain ⟨m, rfl, hm, hgood, hI⟩ := hrel
    clear c3
    have HG : Hid _ := hgood
    clear hgood
    have HI : Hid (WhI B l d size nm F own n od st sz sv w m wr) := hI
    have c3 : wr.cell? ⟨l, 3, none⟩ = some (.slice (some ⟨g, 0, none⟩) N c) ∧ N ≤ c ∧ c ≤ 9223372036854775807 := by
      obtain ⟨P, U, own', h1, h2, _⟩ := hI
      have h3 := h1.cells.2.2.2.1
      obtain ⟨_, _, e, q1, q2, _⟩ := row_reads h1.row
      rw [H.out.2.2.2.2] at e h3
      simp only [Value.slice.injEq] at e
      unfold maxLen at q2
      rw [HN.out.1]
      have := h2.1
      exact ⟨h3, by omega, by omega⟩
    obtain ⟨c3, hc1, hc2⟩ := c3
    clear hI
    by_cases hlt : m < N1
    · have g1 : (m : Int) < (N1 : Int) := by omega
      have g2 : (m : Int) < (N : Int) := by have := HN.out.2; omega
      obtain ⟨f, ef⟩ : ∃ f, F[m]? = some f := ⟨_, List.getElem?_eq_getElem (by have := HN.out; omega)⟩
      obtain ⟨m1, hm1⟩ : ∃ m1, m1 = m + 1 := ⟨_, rfl⟩
      obtain ⟨f1, ef1⟩ : ∃ f, F[m1]? = some f := ⟨_, List.getElem?_eq_getElem (by have := HN.out; omega)⟩
      have hrd := read_one HI.out H.out.2.1 hns H.out.2.2.1 H.out.2.2.2.1 ef H.out.2.2.2.2
      have g3 : (m : Int) + 1 = (m1 : Int) := by omega
      have g4 : (m1 : Int) < (N : Int) := by have := HN.out.2; omega
      have hsh : ∀ (W : World) (v : Value), Rd W v f.bytes → ∃ a cc, v = .slice a f.bytes.length cc := fun W v hr => by
        obtain ⟨a, cc, e, _⟩ := hr
        exact ⟨a, cc, e⟩
      have hmem := List.mem_of_getElem? ef
      have hfb := H.out.2.1.len f hmem
      have hf100 := H.out.2.1.nb f hmem
      have hfr := H.out.2.1.rl f hmem
      have hby : f.bytes.length = (frs f.2.1).length + f.2.2.length := by unfold SF.bytes; rw [List.length_append]
      have hmid : ∀ W, WhI B l d size nm F own n od st sz sv w (m + 1) W → W.cell? ⟨l, 3, none⟩ = some (.slice (some ⟨g, 0, none⟩) N c) ∧ W.cell? ⟨g, m * 3 + 1, none⟩ = some (.int .i64 ((frs f.2.1).length : Int)) ∧ W.cell? ⟨g, m1 * 3, none⟩ = some (.int .u64 (f1.1 : Int)) ∧ Calls Tryz.prog 49 #[.pointer (some ⟨g, m * 3, none⟩)] W fun e w' => e = .returned (.int .u64 ((f.1 + f.2.1.length : Nat) : Int)) ∧ ∃ q, w' = W.drewN q := fun W hW => by
        obtain ⟨P, U, own', h1, h2, _⟩ := hW
        have hPl := h2.1
        obtain ⟨p, ep⟩ : ∃ p, P[m]? = some p := ⟨_, List.getElem?_eq_getElem (by have := HN.out; omega)⟩
        obtain ⟨p1, ep1⟩ : ∃ p, P[m1]? = some p := ⟨_, List.getElem?_eq_getElem (by have := HN.out; omega)⟩
        obtain ⟨x1, x2, _⟩ := h2.2 m f p ef ep
        obtain ⟨y1, _, _⟩ := h2.2 m1 f1 p1 ef1 ep1
        have x2 := x2 (by omega)
        obtain ⟨ga, ca, ea, _, _, _, s1, _⟩ := h1.seg m p ep
        obtain ⟨gb, cb, eb, _, _, t0, _, _⟩ := h1.seg m1 p1 ep1
        have hvP : sv = .slice (some ⟨g, 0, none⟩) P.length c := by rw [hPl]; exact H.out.2.2.2.2
        rw [hvP] at ea eb
        simp only [Value.slice.injEq, Option.some.injEq, Addr.mk.injEq, and_true, true_and] at ea eb
        obtain ⟨rfl, _⟩ := ea
        obtain ⟨rfl, _⟩ := eb
        have hsn : sgNext p.1 = f.1 + f.2.1.length := by unfold sgNext; rw [x1, x2]
        have hsg := segnext_any h1 m p ep hvP (by rw [hsn]; omega)
        rw [hsn] at hsg
        rw [x2] at s1
        rw [y1] at t0
        refine ⟨?_, s1, t0, hsg⟩
        have h3 := h1.cells.2.2.2.1
        rw [hvP] at h3
        rw [h3, hPl, HN.out.1]
      have HM : Hid _ := hmid
      have hgd : (f.2.2 = [] ∧ f1.1 = f.1 + f.2.1.length) ↔ Good F m := ⟨fun q a b ea eb => by rw [ef] at ea; rw [← hm1, ef1] at eb; obtain rfl := Option.some.inj ea; obtain rfl := Option.some.inj eb; exact q, fun q => q f f1 ef (by rw [← hm1]; exact ef1)⟩
      have HGD : Hid _ := And.intro hgd hm1
      clear hmid hgd hm1 hmem ef ef1
      go_wp2_with fail
      refine hrd.mono ?_
      rintro e w2 ⟨v2, rfl, hr2, hI2⟩
      obtain ⟨a2, cc2, e2⟩ := hsh w2 v2 hr2
      subst e2
      obtain ⟨k3, k1, k0, _⟩ := HM.out w2 hI2
      have hnx := fun q => (HM.out (w2.drewN q) (hI2.below (Below.dN w2 q))).2.2.2
      have HI2 : Hid (WhI B l d size nm F own n od st sz sv w (m + 1) w2) := hI2
      clear hrd hr2 hI2 hsh c3
      generalize f.bytes.length = NB at *
      by_cases ht : f.2.2 = []
      · have hb1 : ¬ ((frs f.2.1).length : Int) < (NB : Int) := by rw [ht] at hby; simp at hby; omega
        have hb2 : decide (((frs f.2.1).length : Int) < (NB : Int)) = false := decide_eq_false hb1
        have hb3 : decide ((frs f.2.1).length < NB) = false := decide_eq_false (by omega)
        clear hby
        by_cases hn : f1.1 = f.1 + f.2.1.length
        · rw [← hn] at hnx
          have HN1 : Hid _ := hn
          clear hn
          go_wp2_with fail
          go_quiet (first | (go_at_call 49; refine Calls.quiet_of (v := .int .u64 (f1.1 : Int)) (hnx _)) | fail)
          go_wp2_with fail
          refine ⟨⟨m1, rfl, by have := HGD.out.2; omega, fun i hi => ?_, ?_⟩, by have := HGD.out.2; simp [intOf]; omega⟩
          · rcases Nat.lt_or_ge i m with a | a
            · exact HG.out i a
            · obtain rfl : i = m := by have := HGD.out.2; omega
              exact HGD.out.1.1 ⟨ht, HN1.out⟩
          · rw [HGD.out.2]; exact HI2.out.below (Below.dN w2 _)
        · have HN1 : Hid _ := hn
          have hq1 : (((f.1 + f.2.1.length : Nat) : Int) != (f1.1 : Int)) = true := by rw [bne_iff_ne]; omega
          have hq2 : (((f.1 + f.2.1.length : Nat)) != (f1.1)) = true := by rw [bne_iff_ne]; omega
          clear hn
          generalize f.1 + f.2.1.length = NX at *
          go_wp2_with fail
          go_quiet (first | (go_at_call 49; refine Calls.quiet_of (v := .int .u64 (NX : Int)) (hnx _)) | fail)
          go_wp2_with fail
          go_ret
          exact .inr ⟨rfl, fun q => HN1.out (HGD.out.1.2 (q m)).2, (HI2.out.below (Below.dN w2 _)).chg⟩
      · have hb1 : ((frs f.2.1).length : Int) < (NB : Int) := by
          have : 0 < f.2.2.length := List.length_pos_iff.2 ht
          omega
        have hb2 : decide (((frs f.2.1).length : Int) < (NB : Int)) = true := decide_eq_true hb1
        have hb3 : decide ((frs f.2.1).length < NB) = true := decide_eq_true (by omega)
        have HT : Hid _ := ht
        clear hby ht hnx
        go_wp2_with fail
        go_quiet (fail)
        go_wp2_with fail
        go_ret
        exact .inr ⟨rfl, fun q => HT.out (HGD.out.1.2 (q m)).1, (HI2.out.below (Below.dN w2 _)).chg⟩
    · obtain rfl : m = N1 := by omega
      go_wp2_with fail
      go_ret
      refine .inl ⟨rfl, fun i => ?_, ?_⟩
      · rcases Nat.lt_or_ge i m with a | a
        · exact HG.out i a
        · intro f f1 e1 e2
          have := (List.getElem?_eq_some_iff.1 e2).1
          have := HN.out
          omega
      · have h1 := HN.out
        rw [show F.length - 1 = m by omega]
        exact HI.out
end
end Go.Proofs.YtcielagfajdbeaaGreatDoor

/- The log's readLast, at any bytes; what a log then is. -/
namespace Go.Proofs.YtcielagfajdbeaaGreatDoor
open Go.RowKit
set_option linter.unusedVariables false
set_option maxRecDepth 100000

/-- The disk's files behind readLast. -/
def lastF (nm : ByteArray) (st : Nm → Option (List UInt8 × Nat)) (f : SF) : Nm → Option (List UInt8 × Nat) := open Classical in if f.2.2 = [] then st else renF nm st f.1 (frs f.2.1)
section
variable {B l d size : Nat} {nm : ByteArray} {F : List SF} {own : Nat → Option LRole} {n : Nat} {od : Nat → Option Role} {st : Nm → Option (List UInt8 × Nat)} {sz m : Nat} {sv : Value} {w w0 : World}
set_option maxHeartbeats 2000000 in
theorem readLast_any (h : WhI B l d size nm F own n od st sz sv w m w0) (hF : Files nm st F) (hns : nm.size ≤ 40) (hod : ∀ b, od b ≠ none → b < w.heap.size) (hap : ∀ b, own b ≠ none → od b = none) {g c : Nat} (hv : sv = .slice (some ⟨g, 0, none⟩) F.length c) (hm : F.length = m + 1) {f : SF} (ef : F[m]? = some f) (hsp : st (sname nm).data.toList = none) (hz : sz + f.bytes.length ≤ 16777216) (hfz : f.bytes.length ≤ sz) (hn : n ≤ 1048576) :
    Calls Tryz.prog 35 #[.pointer (some ⟨l, 0, none⟩)] w0 fun r w' => r = .returned (.int .i64 0) ∧ (∃ P U own' n' od' sz', LD B l d size nm sv P U own' n' od' (lastF nm st f) sz' w' ∧ Reads F (m + 1) P ∧ n' ≤ n + 2 ∧ (sz' ≤ sz ∧ (frs f.2.1).length ≤ sz') ∧ (∀ b, own' b ≠ none → own b ≠ none ∨ w.heap.size ≤ b) ∧ (∀ b, od' b ≠ none → od b ≠ none ∨ w.heap.size ≤ b)) ∧ Chg (fun b => own b ≠ none ∨ od b ≠ none) w w' := by
  have hrd := fun q => read_one (h.below (Below.dN w0 q)) hF hns hod hap ef hv
  have hla0 : Calls Tryz.prog 39 #[.pointer (some ⟨l, 0, none⟩)] w0 fun e w' => e = .returned (.pointer (some ⟨g, m * 3, none⟩)) ∧ ∃ q, w' = w0.drewN q := by
    obtain ⟨P, U, own', h1, h2, _⟩ := h
    obtain ⟨_, _, e, q1, q2, _⟩ := row_reads h1.row
    have hvP : sv = .slice (some ⟨g, 0, none⟩) P.length c := by rw [h2.1]; exact hv
    rw [hvP] at e
    simp only [Value.slice.injEq] at e
    exact last_any h1 hvP (by rw [h2.1]; exact hm) ⟨by have := h2.1; omega, by rw [e.2.2]; exact q2⟩
  have hmid : ∀ W, WhI B l d size nm F own n od st sz sv w (m + 1) W → ∃ P U own', LD B l d size nm sv P U own' n od st sz W ∧ Reads F (m + 1) P ∧ (∀ b, own' b ≠ none → own b ≠ none ∨ w.heap.size ≤ b) ∧ Chg (fun b => own b ≠ none) w W ∧ ∃ p, P[m]? = some p ∧ p.1 = (f.1, f.2.1) ∧ P.length = m + 1 ∧ sv = .slice (some ⟨g, 0, none⟩) P.length c ∧ (m + 1 ≤ c ∧ c ≤ maxLen) ∧ W.cell? ⟨g, m * 3 + 1, none⟩ = some (.int .i64 ((frs f.2.1).length : Int)) := fun W hW => by
    obtain ⟨P, U, own', h1, h2, h3, h4, h5⟩ := hW
    have hvP : sv = .slice (some ⟨g, 0, none⟩) P.length c := by rw [h2.1]; exact hv
    obtain ⟨p, ep⟩ : ∃ p, P[m]? = some p := ⟨_, List.getElem?_eq_getElem (by rw [h2.1]; omega)⟩
    obtain ⟨x1, x2, _⟩ := h2.2 m f p ef ep
    have x2 := x2 (by omega)
    obtain ⟨ga, ca, ea, _, _, _, s1, _⟩ := h1.seg m p ep
    obtain ⟨_, _, e, q1, q2, _⟩ := row_reads h1.row
    rw [hvP] at ea e
    simp only [Value.slice.injEq, Option.some.injEq, Addr.mk.injEq, and_true, true_and] at ea e
    obtain ⟨rfl, _⟩ := ea
    refine ⟨P, U, own', ⟨h1, h3, fun b hb => ?_⟩, h2, h4, h5, p, ep, ?_, by rw [h2.1]; exact hm, hvP, ⟨by have := h2.1; omega, by rw [e.2]; exact q2⟩, by rw [x2] at s1; exact s1⟩
    · rcases h4 b hb with a | a
      · exact hap b a
      · by_cases q : od b = none
        · exact q
        · have := hod b q; omega
    · obtain ⟨⟨pb, pr⟩, pv⟩ := p
      simp only at x1 x2
      rw [x1, x2]
  have hmem := List.mem_of_getElem? ef
  have hby : f.bytes.length = (frs f.2.1).length + f.2.2.length := by unfold SF.bytes; rw [List.length_append]
  have htake : f.bytes.take (frs f.2.1).length = frs f.2.1 := by unfold SF.bytes; rw [List.take_left]
  have hnb := hF.nb f hmem
  obtain ⟨sy, hst⟩ := hF.at_ f hmem
  have HM : Hid _ := hmid
  have HT : Hid _ := And.intro htake hst
  have HBY : Hid _ := hby
  clear hmid h htake hst ef hm hv
  go_enter Tryz.func35, Tryz.ntmps35
  go_wp2_with fail
  refine hla0.mono ?_
  rintro e w1 ⟨rfl, q1, rfl⟩
  go_wp2_with fail
  refine (hrd q1).mono ?_
  rintro e w2 ⟨v2, rfl, hr2, hI2⟩
  obtain ⟨P, U, own', hLD, hRs, hown, hch, p, ep, hp, hPl, hvP, hcc, s1⟩ := HM.out w2 hI2
  obtain ⟨a2, c2, e2, r1, r2, -⟩ := id hr2
  have hla := last_any hLD.lg hvP hPl hcc
  have HR2 : Hid (Rd w2 v2 f.bytes) := hr2
  subst e2
  have HLD : Hid _ := And.intro hLD (And.intro hRs (And.intro hown (And.intro hch (And.intro ep (And.intro hp hPl)))))
  clear hrd hla0 hr2 hI2 hLD hRs hown hch ep hp hPl hvP hcc
  unfold maxLen at r2
  generalize hNB : f.bytes.length = NB at *
  have HNB : Hid _ := hNB
  clear hNB
  go_wp2_with fail
  refine hla.mono ?_
  rintro e w3 ⟨rfl, q3, rfl⟩
  have s1' : (w2.drewN q3).cell? ⟨g, m * 3 + 1, none⟩ = some (.int .i64 ((frs f.2.1).length : Int)) := s1
  by_cases ht : f.2.2 = []
  · have hb1 : ¬ ((frs f.2.1).length : Int) < (NB : Int) := by have := HBY.out; rw [ht] at this; simp at this; omega
    clear hla s1
    go_wp2_with fail
    go_ret
    obtain ⟨hLD, hRs, hown, hch, _⟩ := HLD.out
    have hb3 := Below.dN w2 q3
    refine ⟨rfl, ⟨P, U, own', n, od, sz, ?_, hRs, by omega, ⟨Nat.le_refl _, by have := HBY.out; omega⟩, hown, fun b hb => .inl hb⟩, ?_⟩
    · unfold lastF; rw [if_pos ht]; exact hLD.below hb3
    · exact (hch.mono (fun b _ q => .inl q)).trans ((Chg.of_below hb3).mono (fun b q1 q2 => by omega))
  · have hlt : (frs f.2.1).length < NB := by have : 0 < f.2.2.length := List.length_pos_iff.2 ht
                                             have := HBY.out; omega
    have hb1 : ((frs f.2.1).length : Int) < (NB : Int) := by omega
    have hb2 : (frs f.2.1).length ≤ c2 := by omega
    have hb3 : ((frs f.2.1).length : Int) ≤ (c2 : Int) := by omega
    obtain ⟨hLD, hRs, hown, hch, ep, hp, hPl⟩ := HLD.out
    have hpre : Rd (w2.drewN q3) (.slice a2 (frs f.2.1).length c2) (frs f.2.1) := by
      have h1 := HR2.out.pre (frs f.2.1).length (by have := HNB.out; omega)
      rw [HT.out.1] at h1
      exact h1.drewN q3
    have hLD3 := hLD.below (Below.dN w2 q3)
    have hp1 : p.1.1 = f.1 := by rw [hp]
    have hrn := renew_any hLD3 hPl ep (by rw [hp1]; exact hnb) hns hsp (f2 := (f.bytes, sy)) (by rw [hp1]; exact HT.out.2) hpre (by have := HNB.out; omega) (by show f.bytes.length ≤ sz; have := HNB.out; omega) hn
    have HC : Hid _ := And.intro hRs (And.intro hown (And.intro hch hp1))
    have hkk : ∃ a2' , a2 = some a2' := by
      obtain ⟨ao, cc, e, _, _, _, h4⟩ := HR2.out
      simp only [Value.slice.injEq] at e
      have : 0 < f.bytes.length := by have := HNB.out; omega
      obtain ⟨a, ha, _⟩ := h4 0 this
      exact ⟨a, e.1.trans ha⟩
    obtain ⟨a3, ha3⟩ := hkk
    subst ha3
    clear hla s1 hRs hown hch hLD hLD3 ep hp hPl hpre
    go_wp2_with fail
    refine hrn.mono ?_
    rintro e w4 ⟨rfl, ⟨n4, od4, hL4, hn4, ho4⟩, hc4⟩
    go_wp2_with fail
    go_ret
    obtain ⟨hRs, hown, hch, hp1⟩ := HC.out
    refine ⟨rfl, ⟨P, U, own', n4, od4, sz + (frs f.2.1).length - f.bytes.length, ?_, hRs, hn4, ?_, hown, fun b hb => ?_⟩, ?_⟩
    · unfold lastF; rw [if_neg ht, ← hp1]; exact hL4
    · have := HNB.out; have := HBY.out; omega
    · rcases ho4 b hb with r | r
      · exact .inl r
      · have := hch.size
        exact .inr (Nat.le_trans this r)
    · exact ((hch.mono (fun b _ q => .inl q)).trans ((Chg.of_below (Below.dN w2 q3)).mono (fun b q1 q2 => .inr (by have := hch.size; omega)))).trans (hc4.mono (fun b _ q => .inl (.inr q)))
end
end Go.Proofs.YtcielagfajdbeaaGreatDoor

/- Open of a log that is broken. -/
namespace Go.Proofs.YtcielagfajdbeaaGreatDoor
open Go.RowKit
set_option linter.unusedVariables false
set_option maxRecDepth 100000

section
variable {B d size : Nat} {nm : ByteArray} {F : List SF} {X : List (Nm × Option Nat)} {n : Nat} {od : Nat → Option Role} {st : Nm → Option (List UInt8 × Nat)} {sz : Nat} {w : World}
set_option maxHeartbeats 4000000 in
theorem open_broken (hd : Dk B d n od st sz (alive d) 0 w) (hX : ∀ x ∈ X, Segd nm x) (hN : NamesOf st (X.map (·.1))) (hFX : sgsOf X = F.map (fun f => sg0 f.1)) (hF : Files nm st F) (hF0 : 0 < F.length) (hF1 : F.length ≤ 1000) (hXl : X.length ≤ 1000) (hsp : st (sname nm).data.toList = none) (hn : n ≤ 1048575) (hB : B ≤ w.heap.size) (hnm : 0 < nm.size) (hns : nm.size ≤ 40) (hs1 : 1 ≤ size) (hs2 : size ≤ 9223372036854775807) (hbad : ¬ ∀ i, Good F i) :
    Calls Tryz.prog 10 #[.pointer (some ⟨d, 0, none⟩), .string nm, .int .i64 (size : Int)] w fun r w' => r = .returned (.tuple #[.pointer none, .int .i64 40]) ∧ Below w.heap.size w w' := by
  have hne0 : ¬ nm.toList = [] := fun h => by
    rw [ByteArray.toList_eq] at h
    have h2 : nm.size = nm.data.toList.length := by rw [Array.length_toList]; rfl
    rw [h, List.length_nil] at h2
    omega
  have hne1 : nm.toList.isEmpty = false := by cases hq : nm.toList with
    | nil => exact absurd hq hne0
    | cons a r => rfl
  have h40 : ¬ (40 : Int) < (nm.size : Int) := by omega
  have h1i : ¬ (size : Int) < 1 := by omega
  have hmf : ∀ (fn : Fn) (first cap : Array Value) (w : World), (Instr.makeFunc fn first cap).run Tryz.prog w = .ok (.func fn first cap) w := fun _ _ _ _ => rfl
  have hL := LgI.new w B d size nm (fun _ => []) hB
  have hbA : Below w.heap.size w (w.alloc (.cells #[.pointer (some ⟨d, 0, none⟩), .string nm, .int .i64 (size : Int), .slice none 0 0, .bool false] 71)) := bel_alW w _
  have HF : Hid (Files nm st F) := hF
  clear hF
  go_enter Tryz.func10, Tryz.ntmps10
  go_wp2_with fail
  refine wp_loop_rounds 6 ?_
  rw [rounds_succ]
  go_wp2_with fail
  have hbS : Below w.heap.size w ((w.alloc (.cells #[.pointer (some ⟨d, 0, none⟩), .string nm, .int .i64 (size : Int), .slice none 0 0, .bool false] 71)).alloc (.cells #[.func (.func 32) #[.pointer (some ⟨w.heap.size, 0, none⟩)] #[], .func (.func 33) #[.pointer (some ⟨w.heap.size, 0, none⟩)] #[], .func (.func 34) #[.pointer (some ⟨w.heap.size, 0, none⟩)] #[], .func (.func 35) #[.pointer (some ⟨w.heap.size, 0, none⟩)] #[], .func (.func 36) #[.pointer (some ⟨w.heap.size, 0, none⟩)] #[]] 42)) := hbA.alloc (by simp) _
  have hL1 := hL.below (bel_alW (w.alloc (.cells #[.pointer (some ⟨d, 0, none⟩), .string nm, .int .i64 (size : Int), .slice none 0 0, .bool false] 71)) (.cells #[.func (.func 32) #[.pointer (some ⟨w.heap.size, 0, none⟩)] #[], .func (.func 33) #[.pointer (some ⟨w.heap.size, 0, none⟩)] #[], .func (.func 34) #[.pointer (some ⟨w.heap.size, 0, none⟩)] #[], .func (.func 35) #[.pointer (some ⟨w.heap.size, 0, none⟩)] #[], .func (.func 36) #[.pointer (some ⟨w.heap.size, 0, none⟩)] #[]] 42))
  have hnS := heap_alloc_new (w.alloc (.cells #[.pointer (some ⟨d, 0, none⟩), .string nm, .int .i64 (size : Int), .slice none 0 0, .bool false] 71)) (.cells #[.func (.func 32) #[.pointer (some ⟨w.heap.size, 0, none⟩)] #[], .func (.func 33) #[.pointer (some ⟨w.heap.size, 0, none⟩)] #[], .func (.func 34) #[.pointer (some ⟨w.heap.size, 0, none⟩)] #[], .func (.func 35) #[.pointer (some ⟨w.heap.size, 0, none⟩)] #[], .func (.func 36) #[.pointer (some ⟨w.heap.size, 0, none⟩)] #[]] 42)
  rw [World.size_alloc] at hnS
  have hzS : ((w.alloc (.cells #[.pointer (some ⟨d, 0, none⟩), .string nm, .int .i64 (size : Int), .slice none 0 0, .bool false] 71)).alloc (.cells #[.func (.func 32) #[.pointer (some ⟨w.heap.size, 0, none⟩)] #[], .func (.func 33) #[.pointer (some ⟨w.heap.size, 0, none⟩)] #[], .func (.func 34) #[.pointer (some ⟨w.heap.size, 0, none⟩)] #[], .func (.func 35) #[.pointer (some ⟨w.heap.size, 0, none⟩)] #[], .func (.func 36) #[.pointer (some ⟨w.heap.size, 0, none⟩)] #[]] 42)).heap.size = w.heap.size + 1 + 1 := by simp
  generalize ((w.alloc (.cells #[.pointer (some ⟨d, 0, none⟩), .string nm, .int .i64 (size : Int), .slice none 0 0, .bool false] 71)).alloc (.cells #[.func (.func 32) #[.pointer (some ⟨w.heap.size, 0, none⟩)] #[], .func (.func 33) #[.pointer (some ⟨w.heap.size, 0, none⟩)] #[], .func (.func 34) #[.pointer (some ⟨w.heap.size, 0, none⟩)] #[], .func (.func 35) #[.pointer (some ⟨w.heap.size, 0, none⟩)] #[], .func (.func 36) #[.pointer (some ⟨w.heap.size, 0, none⟩)] #[]] 42)) = W1 at *
  have hd1 := hd.next (Chg.of_below hbS) (fun b hs q => by have := (hd.blo hs).2; omega)
  have hodb : ∀ b, od b ≠ none → b < w.heap.size := fun b hb => (hd.blo hb).2
  have hodS : ∀ b, w.heap.size ≤ b → od b = none := fun b hb => by
    by_cases q : od b = none
    · exact q
    · have := hodb b q; omega
  have hap : ∀ b, (fun b => if b = w.heap.size then some LRole.log else none) b ≠ none → od b = none := fun b hb => by
    have : b = w.heap.size := by
      apply Classical.byContradiction
      intro hn
      exact hb (if_neg hn)
    rw [this]; exact hodS _ (Nat.le_refl _)
  have HCS : Hid (∀ (W : World), W.heap[w.heap.size + 1]? = some (.cells #[.func (.func 32) #[.pointer (some ⟨w.heap.size, 0, none⟩)] #[], .func (.func 33) #[.pointer (some ⟨w.heap.size, 0, none⟩)] #[], .func (.func 34) #[.pointer (some ⟨w.heap.size, 0, none⟩)] #[], .func (.func 35) #[.pointer (some ⟨w.heap.size, 0, none⟩)] #[], .func (.func 36) #[.pointer (some ⟨w.heap.size, 0, none⟩)] #[]] 42 (0, 0)) → (∀ j u, #[Value.func (.func 32) #[.pointer (some ⟨w.heap.size, 0, none⟩)] #[], .func (.func 33) #[.pointer (some ⟨w.heap.size, 0, none⟩)] #[], .func (.func 34) #[.pointer (some ⟨w.heap.size, 0, none⟩)] #[], .func (.func 35) #[.pointer (some ⟨w.heap.size, 0, none⟩)] #[], .func (.func 36) #[.pointer (some ⟨w.heap.size, 0, none⟩)] #[]][j]? = some u → W.cell? ⟨w.heap.size + 1, j, none⟩ = some u)) := fun W hW j u hj => by rw [cell_of_row _ _ _ _ _ _ hW]; exact hj
  refine (tidy_any hL1 hd1 hns hsp).mono ?_
  rintro e w2 ⟨rfl, q2, rfl⟩
  have hL2 := hL1.drN q2
  have hd2 := hd1.drN q2
  have hS2 : (W1.drewN q2).heap[w.heap.size + 1]? = some (.cells #[.func (.func 32) #[.pointer (some ⟨w.heap.size, 0, none⟩)] #[], .func (.func 33) #[.pointer (some ⟨w.heap.size, 0, none⟩)] #[], .func (.func 34) #[.pointer (some ⟨w.heap.size, 0, none⟩)] #[], .func (.func 35) #[.pointer (some ⟨w.heap.size, 0, none⟩)] #[], .func (.func 36) #[.pointer (some ⟨w.heap.size, 0, none⟩)] #[]] 42 (0, 0)) := hnS
  have hb2 : Below w.heap.size w (W1.drewN q2) := below_drewN hbS q2
  have hz2 : (W1.drewN q2).heap.size = w.heap.size + 1 + 1 := hzS
  generalize (W1.drewN q2) = W2 at *
  have s1 := HCS.out W2 hS2 1 _ rfl
  clear hL hL1 hd1 hnS hbS hzS hbA hmf
  go_wp2_with fail
  rw [rounds_succ]
  go_wp2_with fail
  refine (find_any hL2 hd2 hap hX hN (by rw [hFX, List.length_map]; exact hF0) hXl hns (by omega) (by omega)).mono ?_
  rintro e w3 ⟨rfl, ⟨sv3, U3, own3, hL3, hown3⟩, hd3, hc3⟩
  have hown4 : ∀ b, own3 b ≠ none → b = w.heap.size ∨ w.heap.size + 1 + 1 ≤ b := fun b hb => by
    rcases hown3 b hb with q | q
    · left
      apply Classical.byContradiction
      intro hn
      exact q (if_neg hn)
    · exact .inr (by omega)
  have hS3 : w3.heap[w.heap.size + 1]? = some (.cells #[.func (.func 32) #[.pointer (some ⟨w.heap.size, 0, none⟩)] #[], .func (.func 33) #[.pointer (some ⟨w.heap.size, 0, none⟩)] #[], .func (.func 34) #[.pointer (some ⟨w.heap.size, 0, none⟩)] #[], .func (.func 35) #[.pointer (some ⟨w.heap.size, 0, none⟩)] #[], .func (.func 36) #[.pointer (some ⟨w.heap.size, 0, none⟩)] #[]] 42 (0, 0)) := (hc3.block (w.heap.size + 1) (by omega) (fun q => q (if_neg (by omega)))).trans hS2
  have hC3 : Below w.heap.size w w3 := hb2.trans (hc3.below (fun b q => by
    have : b = w.heap.size := by
      apply Classical.byContradiction
      intro hn
      exact q (if_neg hn)
    omega) (by omega))
  have hz3 := hc3.size
  have s2 := HCS.out w3 hS3 2 _ rfl
  have hap3 : ∀ b, own3 b ≠ none → od b = none := fun b hb => hodS b (by rcases hown4 b hb with q | q <;> omega)
  have hPF : (sgsOf X).length = F.length := by rw [hFX, List.length_map]
  have hW3 : WhI B w.heap.size d size nm F own3 n od st sz sv3 w3 0 w3 := by
    refine ⟨sgsOf X, U3, own3, hL3, ⟨hPF, fun i f p ef ep => ?_⟩, hd3, fun b hb => .inl hb, Chg.refl _ _⟩
    rw [hFX, List.getElem?_map, ef] at ep
    obtain rfl := Option.some.inj ep
    exact ⟨rfl, fun q => by omega, fun _ => rfl⟩
  obtain ⟨p0, ep0⟩ : ∃ p, (sgsOf X)[0]? = some p := ⟨_, List.getElem?_eq_getElem (by omega)⟩
  obtain ⟨g, c, ev, _, _, _, _, _⟩ := hL3.seg 0 p0 ep0
  rw [hPF] at ev
  have hwh := whole_any hW3 HF.out hns (fun b hb => by have := hodb b hb; have := hC3.size; omega) hap3 ev hF0 hF1
  have hwhB : Calls Tryz.prog 34 #[.pointer (some ⟨w.heap.size, 0, none⟩)] w3 fun r w' => r = .returned (.int .i64 40) ∧ Below w.heap.size w3 w' := hwh.mono (by
    rintro e w4 (⟨rfl, q, _⟩ | ⟨rfl, _, hc4⟩)
    · exact absurd q hbad
    · exact ⟨rfl, hc4.below (fun b q => by rcases hown4 b q with r | r <;> omega) hC3.size⟩)
  clear hL2 hd2 hS2 s1 hc3 hap hb2 hz2 hL3 ep0 hwh
  go_wp2_with fail
  rw [rounds_succ]
  go_wp2_with fail
  refine (hwhB.mono ?_)
  rintro e w4 ⟨rfl, hb4⟩
  go_wp2_with fail
  go_returns
  exact ⟨rfl, hC3.trans hb4⟩
end
end Go.Proofs.YtcielagfajdbeaaGreatDoor

/- A disk that holds segments' files and no others, as find sees it. -/
namespace Go.Proofs.YtcielagfajdbeaaGreatDoor
open Go.RowKit
set_option linter.unusedVariables false
set_option maxRecDepth 100000

theorem dgL_up : ∀ a, a < 100 → ∀ b, b < 100 → a < b → leB (dgL a) (dgL b) = true := by decide +kernel
theorem le_pre (p x y : List UInt8) (h : x ≤ y) : p ++ x ≤ p ++ y := by
  induction p with
  | nil => exact h
  | cons a t ih => exact List.cons_le_cons_iff.2 (.inr ⟨rfl, ih⟩)
theorem fname_dg (nm : ByteArray) (n : Nat) : (fname nm n).data.toList = (nm ++ ⟨#[46]⟩).data.toList ++ dgL n := by
  rw [fname_list]
  simp [dgL, ByteArray.data_append]
theorem fname_up (nm : ByteArray) {a b : Nat} (hb : b < 100) (h : a < b) : leB (fname nm a).data.toList (fname nm b).data.toList = true := by
  have h1 : dgL a ≤ dgL b := of_decide_eq_true (dgL_up a (by omega) b hb h)
  rw [fname_dg, fname_dg]
  exact decide_eq_true (le_pre _ _ _ h1)
/-- Segments' files, rising. -/
structure Laid (nm : ByteArray) (st : Nm → Option (List UInt8 × Nat)) (G : List SF) : Prop where
  up : ∀ (i j : Nat) (f g : SF), i < j → G[i]? = some f → G[j]? = some g → f.1 < g.1
  lo : ∀ f ∈ G, 1 ≤ f.1
  all : ∀ s, st s ≠ none → ∃ f ∈ G, s = (fname nm f.1).data.toList
  fi : Files nm st G
def namesX (nm : ByteArray) (G : List SF) : List (Nm × Option Nat) := G.map fun f => ((fname nm f.1).data.toList, some f.1)
section
variable {nm : ByteArray} {st : Nm → Option (List UInt8 × Nat)} {G : List SF}
theorem namesX_segd (h : Laid nm st G) : ∀ x ∈ namesX nm G, Segd nm x := by
  intro x hx
  obtain ⟨f, hf, rfl⟩ := List.mem_map.1 hx
  exact ⟨rfl, h.lo f hf, h.fi.nb f hf⟩
theorem namesX_sgs (nm : ByteArray) (G : List SF) : sgsOf (namesX nm G) = G.map (fun f => sg0 f.1) := by
  unfold sgsOf namesX
  rw [List.filterMap_map]
  induction G with
  | nil => rfl
  | cons a t ih => simp at ih ⊢; exact ih
theorem namesX_of (h : Laid nm st G) : NamesOf st ((namesX nm G).map (·.1)) := by
  have e : (namesX nm G).map (·.1) = G.map (fun f => (fname nm f.1).data.toList) := by unfold namesX; rw [List.map_map]; rfl
  rw [e]
  have hpw : ∀ (i j : Nat) (hi : i < G.length) (hj : j < G.length), i < j → G[i].1 < G[j].1 := fun i j hi hj hij => h.up i j _ _ hij (List.getElem?_eq_getElem hi) (List.getElem?_eq_getElem hj)
  refine ⟨fun s => ⟨fun hs => ?_, fun hs => ?_⟩, ?_, ?_⟩
  · obtain ⟨f, hf, rfl⟩ := List.mem_map.1 hs
    obtain ⟨s, hs⟩ := h.fi.at_ f hf
    rw [hs]; simp
  · obtain ⟨f, hf, rfl⟩ := h.all s hs
    exact List.mem_map.2 ⟨f, hf, rfl⟩
  · rw [List.Nodup, List.pairwise_map, List.pairwise_iff_getElem]
    intro i j hi hj hij q
    have h1 := hpw i j hi hj hij
    have h2 := fname_inj nm (h.fi.nb _ (List.getElem_mem hi)) (h.fi.nb _ (List.getElem_mem hj)) q
    omega
  · rw [List.pairwise_map, List.pairwise_iff_getElem]
    intro i j hi hj hij
    exact fname_up nm (h.fi.nb _ (List.getElem_mem hj)) (hpw i j hi hj hij)
theorem Laid.spare (h : Laid nm st G) : st (sname nm).data.toList = none := by
  by_cases q : st (sname nm).data.toList = none
  · exact q
  · obtain ⟨f, hf, e⟩ := h.all _ q
    exact absurd e (sname_ne nm (h.fi.nb f hf))
end
/-- The files of a log into which records were appended. -/
def filesOf (P : List (Sg × Value)) : List SF := P.map fun p => (p.1.1, p.1.2, [])
section
variable {B l d size : Nat} {nm : ByteArray} {rs : List (List UInt8)} {sv : Value} {P : List (Sg × Value)} {U : Nat → List Value} {own : Nat → Option LRole} {n : Nat} {od : Nat → Option Role} {st : Nm → Option (List UInt8 × Nat)} {w : World}
theorem filesOf_at {i : Nat} {f : SF} (e : (filesOf P)[i]? = some f) : ∃ p, P[i]? = some p ∧ f = (p.1.1, p.1.2, []) := by
  unfold filesOf at e
  rw [List.getElem?_map] at e
  cases h : P[i]? with
  | none => rw [h] at e; cases e
  | some p => rw [h] at e; exact ⟨p, rfl, (Option.some.inj e).symm⟩
theorem Rot.laid (h : Rot B l d size nm 1 0 (fun _ => none) rs sv P U own n od st w) (hs : 0 < size) (hrs : rs.length < 98) (hz : (frs rs).length ≤ 16777216) : Laid nm st (filesOf P) := by
  have hmem : ∀ f ∈ filesOf P, ∃ (i : Nat) (p : Sg × Value), P[i]? = some p ∧ f = (p.1.1, p.1.2, []) := fun f hf => by
    obtain ⟨i, e⟩ := List.mem_iff_getElem?.1 hf
    obtain ⟨p, ep, rfl⟩ := filesOf_at e
    exact ⟨i, p, ep, rfl⟩
  refine ⟨fun i j f g hij ef eg => ?_, fun f hf => ?_, fun s hs' => ?_, ⟨fun f hf => ?_, fun f hf => ?_, fun f hf => ?_, fun f hf => ?_, fun f hf => ?_⟩⟩
  · obtain ⟨p, ep, rfl⟩ := filesOf_at ef
    obtain ⟨q, eq, rfl⟩ := filesOf_at eg
    exact h.mono hs i j p q hij ep eq
  · obtain ⟨i, p, ep, rfl⟩ := hmem f hf
    have := h.2.1.at_ i p.1 (sgs_at ep)
    show 1 ≤ p.1.1
    omega
  · by_cases q : ∃ b, b < 100 ∧ s = (fname nm b).data.toList
    · obtain ⟨b, hb, rfl⟩ := q
      obtain ⟨i, p, ep, rfl⟩ := h.2.2.2.1 b hb hs'
      exact ⟨(p.1.1, p.1.2, []), List.mem_iff_getElem?.2 ⟨i, by unfold filesOf; rw [List.getElem?_map, ep]; rfl⟩, rfl⟩
    · rw [h.2.2.2.2 s (fun b hb e => q ⟨b, hb, e⟩)] at hs'
      exact absurd rfl hs'
  · obtain ⟨i, p, ep, rfl⟩ := hmem f hf
    obtain ⟨s, hs2⟩ := h.1.fl i p ep
    exact ⟨s, by show st (fname nm p.1.1).data.toList = some (frs p.1.2 ++ [], s); rw [List.append_nil]; exact hs2⟩
  · obtain ⟨i, p, ep, rfl⟩ := hmem f hf
    exact h.1.nb i p ep
  · obtain ⟨i, p, ep, rfl⟩ := hmem f hf
    exact M.tkf_nil
  · obtain ⟨i, p, ep, rfl⟩ := hmem f hf
    have := (seg_le h.2.1 i p.1 (sgs_at ep)).1
    show (frs p.1.2 ++ []).length ≤ _
    rw [List.append_nil]; omega
  · obtain ⟨i, p, ep, rfl⟩ := hmem f hf
    have := (seg_le h.2.1 i p.1 (sgs_at ep)).2
    show p.1.2.length ≤ _
    omega
end
end Go.Proofs.YtcielagfajdbeaaGreatDoor

/- The files of a log of which one was turned or taken out: mathematics alone. -/
namespace Go.Proofs.YtcielagfajdbeaaGreatDoor
open Go.RowKit
set_option linter.unusedVariables false
set_option maxRecDepth 100000

section
variable {nm : ByteArray} {st : Nm → Option (List UInt8 × Nat)} {G : List SF}
/-- Another content in one file. -/
theorem Laid.turn (h : Laid nm st G) {k : Nat} {f : SF} (e : G[k]? = some f) (rs : List (List UInt8)) (t : List UInt8) (s : Nat) (ht : M.tkf t = none) (hl : (frs rs ++ t).length ≤ 16777216) (hr : rs.length ≤ 1048576) :
    Laid nm (setF st (fname nm f.1).data.toList (some (frs rs ++ t, s))) (G.set k (f.1, rs, t)) := by
  have hkl := (List.getElem?_eq_some_iff.1 e).1
  have hget : ∀ (i : Nat) (g : SF), (G.set k (f.1, rs, t))[i]? = some g → ∃ g', G[i]? = some g' ∧ g.1 = g'.1 := fun i g eg => by
    by_cases hi : i = k
    · subst hi
      rw [List.getElem?_set_self hkl] at eg
      obtain rfl := Option.some.inj eg
      exact ⟨f, e, rfl⟩
    · rw [List.getElem?_set_ne (fun q => hi q.symm)] at eg
      exact ⟨g, eg, rfl⟩
  have hmem : ∀ g ∈ G.set k (f.1, rs, t), g = (f.1, rs, t) ∨ (g ∈ G ∧ g.1 ≠ f.1) := fun g hg => by
    obtain ⟨i, eg⟩ := List.mem_iff_getElem?.1 hg
    by_cases hi : i = k
    · subst hi
      rw [List.getElem?_set_self hkl] at eg
      exact .inl (Option.some.inj eg).symm
    · rw [List.getElem?_set_ne (fun q => hi q.symm)] at eg
      refine .inr ⟨List.mem_iff_getElem?.2 ⟨i, eg⟩, fun q => ?_⟩
      rcases Nat.lt_or_ge i k with a | a
      · have := h.up i k g f a eg e; omega
      · have := h.up k i f g (by omega) e eg; omega
  have hf := List.mem_of_getElem? e
  refine ⟨fun i j a b hij ea eb => ?_, fun g hg => ?_, fun s' hs' => ?_, ⟨fun g hg => ?_, fun g hg => ?_, fun g hg => ?_, fun g hg => ?_, fun g hg => ?_⟩⟩
  · obtain ⟨a', ea', h1⟩ := hget i a ea
    obtain ⟨b', eb', h2⟩ := hget j b eb
    rw [h1, h2]
    exact h.up i j a' b' hij ea' eb'
  · rcases hmem g hg with rfl | ⟨q, _⟩
    · exact h.lo f hf
    · exact h.lo g q
  · by_cases q : s' = (fname nm f.1).data.toList
    · exact ⟨(f.1, rs, t), List.mem_iff_getElem?.2 ⟨k, by rw [List.getElem?_set_self hkl]⟩, q⟩
    · rw [setF_other _ _ q] at hs'
      obtain ⟨g, hg, rfl⟩ := h.all s' hs'
      obtain ⟨i, eg⟩ := List.mem_iff_getElem?.1 hg
      have hi : i ≠ k := fun hi => by subst hi; rw [e] at eg; obtain rfl := Option.some.inj eg; exact q rfl
      exact ⟨g, List.mem_iff_getElem?.2 ⟨i, by rw [List.getElem?_set_ne (fun q => hi q.symm)]; exact eg⟩, rfl⟩
  · rcases hmem g hg with rfl | ⟨q, q2⟩
    · exact ⟨s, by rw [setF_same]; rfl⟩
    · obtain ⟨s', hs'⟩ := h.fi.at_ g q
      exact ⟨s', by rw [setF_other _ _ (fun he => q2 (fname_inj nm (h.fi.nb g q) (h.fi.nb f hf) he))]; exact hs'⟩
  · rcases hmem g hg with rfl | ⟨q, _⟩
    · exact h.fi.nb f hf
    · exact h.fi.nb g q
  · rcases hmem g hg with rfl | ⟨q, _⟩
    · exact ht
    · exact h.fi.no g q
  · rcases hmem g hg with rfl | ⟨q, _⟩
    · exact hl
    · exact h.fi.len g q
  · rcases hmem g hg with rfl | ⟨q, _⟩
    · exact hr
    · exact h.fi.rl g q
/-- A file less. -/
theorem Laid.gone (h : Laid nm st G) {k : Nat} {f : SF} (e : G[k]? = some f) : Laid nm (setF st (fname nm f.1).data.toList none) (G.eraseIdx k) := by
  have hget : ∀ (i : Nat) (g : SF), (G.eraseIdx k)[i]? = some g → G[if i < k then i else i + 1]? = some g := fun i g eg => by
    rw [List.getElem?_eraseIdx] at eg
    split at eg
    · rename_i q; rw [if_pos q]; exact eg
    · rename_i q; rw [if_neg q]; exact eg
  have hmem : ∀ g ∈ G.eraseIdx k, g ∈ G ∧ g.1 ≠ f.1 := fun g hg => by
    obtain ⟨i, eg⟩ := List.mem_iff_getElem?.1 hg
    have eg := hget i g eg
    refine ⟨List.mem_iff_getElem?.2 ⟨_, eg⟩, fun q => ?_⟩
    split at eg
    · rename_i a
      have := h.up i k g f a eg e; omega
    · rename_i a
      have := h.up k (i + 1) f g (by omega) e eg; omega
  refine ⟨fun i j a b hij ea eb => ?_, fun g hg => h.lo g (hmem g hg).1, fun s' hs' => ?_, ⟨fun g hg => ?_, fun g hg => h.fi.nb g (hmem g hg).1, fun g hg => h.fi.no g (hmem g hg).1, fun g hg => h.fi.len g (hmem g hg).1, fun g hg => h.fi.rl g (hmem g hg).1⟩⟩
  · have ea := hget i a ea
    have eb := hget j b eb
    exact h.up _ _ a b (by split <;> split <;> omega) ea eb
  · by_cases q : s' = (fname nm f.1).data.toList
    · rw [q, setF_same] at hs'; exact absurd rfl hs'
    · rw [setF_other _ _ q] at hs'
      obtain ⟨g, hg, rfl⟩ := h.all s' hs'
      obtain ⟨i, eg⟩ := List.mem_iff_getElem?.1 hg
      have hi : i ≠ k := fun hi => by subst hi; rw [e] at eg; obtain rfl := Option.some.inj eg; exact q rfl
      refine ⟨g, List.mem_iff_getElem?.2 ⟨if i < k then i else i - 1, ?_⟩, rfl⟩
      rw [List.getElem?_eraseIdx]
      by_cases a : i < k
      · rw [if_pos a, if_pos a]; exact eg
      · rw [if_neg a, if_neg (by omega), show i - 1 + 1 = i by omega]; exact eg
  · obtain ⟨s', hs'⟩ := h.fi.at_ g (hmem g hg).1
    exact ⟨s', by rw [setF_other _ _ (fun he => (hmem g hg).2 (fname_inj nm (h.fi.nb g (hmem g hg).1) (h.fi.nb f (List.mem_of_getElem? e)) he))]; exact hs'⟩
end
theorem tkf_80 : M.tkf [128] = none := by decide +kernel
section
variable {size : Nat} {rs : List (List UInt8)} {P : List (Sg × Value)}
theorem bad_turn (hc : Chn size rs (sgs P)) {k : Nat} {f : SF} (e : (filesOf P)[k]? = some f) (hk : k + 1 < P.length) (rs' : List (List UInt8)) (t : List UInt8) (ht : t ≠ []) : ¬ ∀ i, Good ((filesOf P).set k (f.1, rs', t)) i := by
  intro hg
  have hl : (filesOf P).length = P.length := by unfold filesOf; simp
  obtain ⟨g, eg⟩ : ∃ g, (filesOf P)[k + 1]? = some g := ⟨_, List.getElem?_eq_getElem (by omega)⟩
  have := hg k (f.1, rs', t) g (by rw [List.getElem?_set_self (by omega)]) (by rw [List.getElem?_set_ne (by omega)]; exact eg)
  exact ht this.1
theorem bad_gone (hc : Chn size rs (sgs P)) (hs : 0 < size) {k : Nat} (hk0 : 0 < k) (hk : k + 1 < P.length) : ¬ ∀ i, Good ((filesOf P).eraseIdx k) i := by
  intro hg
  have hl : (filesOf P).length = P.length := by unfold filesOf; simp
  obtain ⟨a, ea⟩ : ∃ p, P[k - 1]? = some p := ⟨_, List.getElem?_eq_getElem (by omega)⟩
  obtain ⟨b, eb⟩ : ∃ p, P[k]? = some p := ⟨_, List.getElem?_eq_getElem (by omega)⟩
  obtain ⟨c, ec⟩ : ∃ p, P[k + 1]? = some p := ⟨_, List.getElem?_eq_getElem (by omega)⟩
  have h1 := hc.chain (k - 1) a.1 b.1 (sgs_at ea) (by rw [show k - 1 + 1 = k by omega]; exact sgs_at eb)
  have h2 := hc.mono hs k (k + 1) b.1 c.1 (by omega) (sgs_at eb) (sgs_at ec)
  have fa : (filesOf P)[k - 1]? = some (a.1.1, a.1.2, []) := by unfold filesOf; rw [List.getElem?_map, ea]; rfl
  have fc : (filesOf P)[k + 1]? = some (c.1.1, c.1.2, []) := by unfold filesOf; rw [List.getElem?_map, ec]; rfl
  have := hg (k - 1) (a.1.1, a.1.2, []) (c.1.1, c.1.2, []) (by rw [List.getElem?_eraseIdx, if_pos (by omega)]; exact fa) (by rw [List.getElem?_eraseIdx, if_neg (by omega), show k - 1 + 1 + 1 = k + 1 by omega]; exact fc)
  have h3 : c.1.1 = a.1.1 + a.1.2.length := this.2
  unfold sgNext at h1
  omega
end
end Go.Proofs.YtcielagfajdbeaaGreatDoor

/- Open of a log that stands on the disk. -/
namespace Go.Proofs.YtcielagfajdbeaaGreatDoor
open Go.RowKit
set_option linter.unusedVariables false
set_option maxRecDepth 100000

section
variable {B l d size : Nat} {nm : ByteArray} {F : List SF} {X : List (Nm × Option Nat)} {n : Nat} {od : Nat → Option Role} {st : Nm → Option (List UInt8 × Nat)} {sz : Nat} {w : World} {sv : Value} {P : List (Sg × Value)} {U : Nat → List Value} {own : Nat → Option LRole} {n' : Nat} {od' : Nat → Option Role} {sz' m : Nat}
theorem wi_of2 {f : SF} (h : LD B l d size nm sv P U own n' od' (lastF nm st f) sz' w) (hR : Reads F (m + 1) P) (hm : F.length = m + 1) (hup : ∀ (i j : Nat) (f g : SF), i < j → F[i]? = some f → F[j]? = some g → f.1 < g.1) (hfi : Files nm st F) (hsp : st (sname nm).data.toList = none) (hgood : ∀ i, Good F i) (ef : F[m]? = some f) (hns : nm.size ≤ 40) :
    WI B l d size nm sv P U own n' od' (lastF nm st f) sz' w ∧ sgs P = F.map (fun f => (f.1, f.2.1)) := by
  have hat : ∀ (i : Nat) p, P[i]? = some p → ∃ g, F[i]? = some g ∧ p.1 = (g.1, g.2.1) := fun i p ep => by
    have hl := (List.getElem?_eq_some_iff.1 ep).1
    obtain ⟨g, eg⟩ : ∃ g, F[i]? = some g := ⟨_, List.getElem?_eq_getElem (by rw [← hR.1]; exact hl)⟩
    obtain ⟨x1, x2, _⟩ := hR.2 i g p eg ep
    have x2 := x2 (by have := hR.1; omega)
    refine ⟨g, eg, ?_⟩
    obtain ⟨⟨pb, pr⟩, pv⟩ := p
    simp only at x1 x2
    rw [x1, x2]
  refine ⟨⟨h.lg, h.dk, h.ap, fun i p ep => ?_, fun i p ep => ?_, by have := hR.1; omega, hns⟩, ?_⟩
  · obtain ⟨g, eg, hp⟩ := hat i p ep
    rw [hp]
    have hgm := List.mem_of_getElem? eg
    obtain ⟨s, hs⟩ := hfi.at_ g hgm
    show ∃ s, lastF nm st f (fname nm g.1).data.toList = some (frs g.2.1, s)
    by_cases hi : i = m
    · subst hi
      rw [ef] at eg
      obtain rfl := Option.some.inj eg
      unfold lastF
      by_cases ht : f.2.2 = []
      · rw [if_pos ht]
        refine ⟨s, ?_⟩
        rw [hs]
        unfold SF.bytes
        rw [ht, List.append_nil]
      · rw [if_neg ht, renF_at]
        exact ⟨_, rfl⟩
    · have hil := (List.getElem?_eq_some_iff.1 eg).1
      obtain ⟨g1, eg1⟩ : ∃ g, F[i + 1]? = some g := ⟨_, List.getElem?_eq_getElem (by omega)⟩
      have hgd := (hgood i g g1 eg eg1).1
      have hs2 : st (fname nm g.1).data.toList = some (frs g.2.1, s) := by rw [hs]; unfold SF.bytes; rw [hgd, List.append_nil]
      unfold lastF
      by_cases ht : f.2.2 = []
      · rw [if_pos ht]; exact ⟨s, hs2⟩
      · rw [if_neg ht, renF_other hsp (fun q => by
          have h1 := fname_inj nm (hfi.nb g hgm) (hfi.nb f (List.mem_of_getElem? ef)) q
          have h2 := hup i m g f (by omega) eg ef
          omega)]
        exact ⟨s, hs2⟩
  · obtain ⟨g, eg, hp⟩ := hat i p ep
    rw [hp]
    exact hfi.nb g (List.mem_of_getElem? eg)
  · apply List.ext_getElem?
    intro i
    rw [List.getElem?_map, List.getElem?_map]
    cases hPi : P[i]? with
    | none =>
      have : F[i]? = none := by rw [List.getElem?_eq_none_iff] at hPi ⊢; rw [← hR.1]; exact hPi
      rw [this]; rfl
    | some p =>
      obtain ⟨g, eg, hp⟩ := hat i p hPi
      rw [eg]
      show some p.1 = some (g.1, g.2.1)
      rw [hp]
set_option maxHeartbeats 4000000 in
theorem open_ok (hd : Dk B d n od st sz (alive d) 0 w) (hX : ∀ x ∈ X, Segd nm x) (hN : NamesOf st (X.map (·.1))) (hFX : sgsOf X = F.map (fun f => sg0 f.1)) (hup : ∀ (i j : Nat) (f g : SF), i < j → F[i]? = some f → F[j]? = some g → f.1 < g.1) (hfi : Files nm st F) (hF0 : 0 < F.length) (hF1 : F.length ≤ 1000) (hXl : X.length ≤ 1000) (hsp : st (sname nm).data.toList = none) (hn : n ≤ 1000000) (hB : B ≤ w.heap.size) (hnm : 0 < nm.size) (hns : nm.size ≤ 40) (hs1 : 1 ≤ size) (hs2 : size ≤ 9223372036854775807) (hgood : ∀ i, Good F i) {f : SF} (ef : F[F.length - 1]? = some f) (hz : sz + f.bytes.length ≤ 16777216) (hfz : f.bytes.length ≤ sz) :
    Calls Tryz.prog 10 #[.pointer (some ⟨d, 0, none⟩), .string nm, .int .i64 (size : Int)] w fun r w' => ∃ l sv P U own n' od' sz', r = .returned (.tuple #[.pointer (some ⟨l, 0, none⟩), .int .i64 0]) ∧ WI B l d size nm sv P U own n' od' (syF nm P (lastF nm st f)) sz' w' ∧ sgs P = F.map (fun f => (f.1, f.2.1)) ∧ n' ≤ n + 2 ∧ (sz' ≤ sz ∧ (frs f.2.1).length ≤ sz') ∧ Chg (fun b => od b ≠ none) w w' ∧ ∀ b, od' b ≠ none → od b ≠ none ∨ w.heap.size ≤ b := by
  have hne0 : ¬ nm.toList = [] := fun h => by
    rw [ByteArray.toList_eq] at h
    have h2 : nm.size = nm.data.toList.length := by rw [Array.length_toList]; rfl
    rw [h, List.length_nil] at h2
    omega
  have hne1 : nm.toList.isEmpty = false := by cases hq : nm.toList with
    | nil => exact absurd hq hne0
    | cons a r => rfl
  have h40 : ¬ (40 : Int) < (nm.size : Int) := by omega
  have h1i : ¬ (size : Int) < 1 := by omega
  have hmf : ∀ (fn : Fn) (first cap : Array Value) (w : World), (Instr.makeFunc fn first cap).run Tryz.prog w = .ok (.func fn first cap) w := fun _ _ _ _ => rfl
  have hL := LgI.new w B d size nm (fun _ => []) hB
  have hbA : Below w.heap.size w (w.alloc (.cells #[.pointer (some ⟨d, 0, none⟩), .string nm, .int .i64 (size : Int), .slice none 0 0, .bool false] 71)) := bel_alW w _
  have HF : Hid (Files nm st F) := hfi
  have HUP : Hid (∀ (i j : Nat) (f g : SF), i < j → F[i]? = some f → F[j]? = some g → f.1 < g.1) := hup
  clear hfi hup
  go_enter Tryz.func10, Tryz.ntmps10
  go_wp2_with fail
  refine wp_loop_rounds 6 ?_
  rw [rounds_succ]
  go_wp2_with fail
  have hbS : Below w.heap.size w ((w.alloc (.cells #[.pointer (some ⟨d, 0, none⟩), .string nm, .int .i64 (size : Int), .slice none 0 0, .bool false] 71)).alloc (.cells #[.func (.func 32) #[.pointer (some ⟨w.heap.size, 0, none⟩)] #[], .func (.func 33) #[.pointer (some ⟨w.heap.size, 0, none⟩)] #[], .func (.func 34) #[.pointer (some ⟨w.heap.size, 0, none⟩)] #[], .func (.func 35) #[.pointer (some ⟨w.heap.size, 0, none⟩)] #[], .func (.func 36) #[.pointer (some ⟨w.heap.size, 0, none⟩)] #[]] 42)) := hbA.alloc (by simp) _
  have hL1 := hL.below (bel_alW (w.alloc (.cells #[.pointer (some ⟨d, 0, none⟩), .string nm, .int .i64 (size : Int), .slice none 0 0, .bool false] 71)) (.cells #[.func (.func 32) #[.pointer (some ⟨w.heap.size, 0, none⟩)] #[], .func (.func 33) #[.pointer (some ⟨w.heap.size, 0, none⟩)] #[], .func (.func 34) #[.pointer (some ⟨w.heap.size, 0, none⟩)] #[], .func (.func 35) #[.pointer (some ⟨w.heap.size, 0, none⟩)] #[], .func (.func 36) #[.pointer (some ⟨w.heap.size, 0, none⟩)] #[]] 42))
  have hnS := heap_alloc_new (w.alloc (.cells #[.pointer (some ⟨d, 0, none⟩), .string nm, .int .i64 (size : Int), .slice none 0 0, .bool false] 71)) (.cells #[.func (.func 32) #[.pointer (some ⟨w.heap.size, 0, none⟩)] #[], .func (.func 33) #[.pointer (some ⟨w.heap.size, 0, none⟩)] #[], .func (.func 34) #[.pointer (some ⟨w.heap.size, 0, none⟩)] #[], .func (.func 35) #[.pointer (some ⟨w.heap.size, 0, none⟩)] #[], .func (.func 36) #[.pointer (some ⟨w.heap.size, 0, none⟩)] #[]] 42)
  rw [World.size_alloc] at hnS
  have hzS : ((w.alloc (.cells #[.pointer (some ⟨d, 0, none⟩), .string nm, .int .i64 (size : Int), .slice none 0 0, .bool false] 71)).alloc (.cells #[.func (.func 32) #[.pointer (some ⟨w.heap.size, 0, none⟩)] #[], .func (.func 33) #[.pointer (some ⟨w.heap.size, 0, none⟩)] #[], .func (.func 34) #[.pointer (some ⟨w.heap.size, 0, none⟩)] #[], .func (.func 35) #[.pointer (some ⟨w.heap.size, 0, none⟩)] #[], .func (.func 36) #[.pointer (some ⟨w.heap.size, 0, none⟩)] #[]] 42)).heap.size = w.heap.size + 1 + 1 := by simp
  generalize ((w.alloc (.cells #[.pointer (some ⟨d, 0, none⟩), .string nm, .int .i64 (size : Int), .slice none 0 0, .bool false] 71)).alloc (.cells #[.func (.func 32) #[.pointer (some ⟨w.heap.size, 0, none⟩)] #[], .func (.func 33) #[.pointer (some ⟨w.heap.size, 0, none⟩)] #[], .func (.func 34) #[.pointer (some ⟨w.heap.size, 0, none⟩)] #[], .func (.func 35) #[.pointer (some ⟨w.heap.size, 0, none⟩)] #[], .func (.func 36) #[.pointer (some ⟨w.heap.size, 0, none⟩)] #[]] 42)) = W1 at *
  have hd1 := hd.next (Chg.of_below hbS) (fun b hs q => by have := (hd.blo hs).2; omega)
  have hodb : ∀ b, od b ≠ none → b < w.heap.size := fun b hb => (hd.blo hb).2
  have hodS : ∀ b, w.heap.size ≤ b → od b = none := fun b hb => by
    by_cases q : od b = none
    · exact q
    · have := hodb b q; omega
  have hap : ∀ b, (fun b => if b = w.heap.size then some LRole.log else none) b ≠ none → od b = none := fun b hb => by
    have : b = w.heap.size := by
      apply Classical.byContradiction
      intro hn
      exact hb (if_neg hn)
    rw [this]; exact hodS _ (Nat.le_refl _)
  have HCS : Hid (∀ (W : World), W.heap[w.heap.size + 1]? = some (.cells #[.func (.func 32) #[.pointer (some ⟨w.heap.size, 0, none⟩)] #[], .func (.func 33) #[.pointer (some ⟨w.heap.size, 0, none⟩)] #[], .func (.func 34) #[.pointer (some ⟨w.heap.size, 0, none⟩)] #[], .func (.func 35) #[.pointer (some ⟨w.heap.size, 0, none⟩)] #[], .func (.func 36) #[.pointer (some ⟨w.heap.size, 0, none⟩)] #[]] 42 (0, 0)) → (∀ j u, #[Value.func (.func 32) #[.pointer (some ⟨w.heap.size, 0, none⟩)] #[], .func (.func 33) #[.pointer (some ⟨w.heap.size, 0, none⟩)] #[], .func (.func 34) #[.pointer (some ⟨w.heap.size, 0, none⟩)] #[], .func (.func 35) #[.pointer (some ⟨w.heap.size, 0, none⟩)] #[], .func (.func 36) #[.pointer (some ⟨w.heap.size, 0, none⟩)] #[]][j]? = some u → W.cell? ⟨w.heap.size + 1, j, none⟩ = some u)) := fun W hW j u hj => by rw [cell_of_row _ _ _ _ _ _ hW]; exact hj
  refine (tidy_any hL1 hd1 hns hsp).mono ?_
  rintro e w2 ⟨rfl, q2, rfl⟩
  have hL2 := hL1.drN q2
  have hd2 := hd1.drN q2
  have hS2 : (W1.drewN q2).heap[w.heap.size + 1]? = some (.cells #[.func (.func 32) #[.pointer (some ⟨w.heap.size, 0, none⟩)] #[], .func (.func 33) #[.pointer (some ⟨w.heap.size, 0, none⟩)] #[], .func (.func 34) #[.pointer (some ⟨w.heap.size, 0, none⟩)] #[], .func (.func 35) #[.pointer (some ⟨w.heap.size, 0, none⟩)] #[], .func (.func 36) #[.pointer (some ⟨w.heap.size, 0, none⟩)] #[]] 42 (0, 0)) := hnS
  have hb2 : Below w.heap.size w (W1.drewN q2) := below_drewN hbS q2
  have hz2 : (W1.drewN q2).heap.size = w.heap.size + 1 + 1 := hzS
  generalize (W1.drewN q2) = W2 at *
  have s1 := HCS.out W2 hS2 1 _ rfl
  clear hL hL1 hd1 hnS hbS hzS hbA hmf
  go_wp2_with fail
  rw [rounds_succ]
  go_wp2_with fail
  refine (find_any hL2 hd2 hap hX hN (by rw [hFX, List.length_map]; exact hF0) hXl hns (by omega) (by omega)).mono ?_
  rintro e w3 ⟨rfl, ⟨sv3, U3, own3, hL3, hown3⟩, hd3, hc3⟩
  have hown4 : ∀ b, own3 b ≠ none → b = w.heap.size ∨ w.heap.size + 1 + 1 ≤ b := fun b hb => by
    rcases hown3 b hb with q | q
    · left
      apply Classical.byContradiction
      intro hn
      exact q (if_neg hn)
    · exact .inr (by omega)
  have hS3 : w3.heap[w.heap.size + 1]? = some (.cells #[.func (.func 32) #[.pointer (some ⟨w.heap.size, 0, none⟩)] #[], .func (.func 33) #[.pointer (some ⟨w.heap.size, 0, none⟩)] #[], .func (.func 34) #[.pointer (some ⟨w.heap.size, 0, none⟩)] #[], .func (.func 35) #[.pointer (some ⟨w.heap.size, 0, none⟩)] #[], .func (.func 36) #[.pointer (some ⟨w.heap.size, 0, none⟩)] #[]] 42 (0, 0)) := (hc3.block (w.heap.size + 1) (by omega) (fun q => q (if_neg (by omega)))).trans hS2
  have hC3 : Below w.heap.size w w3 := hb2.trans (hc3.below (fun b q => by
    have : b = w.heap.size := by
      apply Classical.byContradiction
      intro hn
      exact q (if_neg hn)
    omega) (by omega))
  have hz3 := hc3.size
  have hz3' : w.heap.size + 1 + 1 ≤ w3.heap.size := by omega
  have s2 := HCS.out w3 hS3 2 _ rfl
  have hap3 : ∀ b, own3 b ≠ none → od b = none := fun b hb => hodS b (by rcases hown4 b hb with q | q <;> omega)
  have hPF : (sgsOf X).length = F.length := by rw [hFX, List.length_map]
  have hW3 : WhI B w.heap.size d size nm F own3 n od st sz sv3 w3 0 w3 := by
    refine ⟨sgsOf X, U3, own3, hL3, ⟨hPF, fun i f p ef ep => ?_⟩, hd3, fun b hb => .inl hb, Chg.refl _ _⟩
    rw [hFX, List.getElem?_map, ef] at ep
    obtain rfl := Option.some.inj ep
    exact ⟨rfl, fun q => by omega, fun _ => rfl⟩
  obtain ⟨p0, ep0⟩ : ∃ p, (sgsOf X)[0]? = some p := ⟨_, List.getElem?_eq_getElem (by omega)⟩
  obtain ⟨g, c, ev, _, _, _, _, _⟩ := hL3.seg 0 p0 ep0
  rw [hPF] at ev
  have hwh := whole_any hW3 HF.out hns (fun b hb => by have := hodb b hb; have := hC3.size; omega) hap3 ev hF0 hF1
  have hwhG : Calls Tryz.prog 34 #[.pointer (some ⟨w.heap.size, 0, none⟩)] w3 fun r w' => r = .returned (.int .i64 0) ∧ WhI B w.heap.size d size nm F own3 n od st sz sv3 w3 (F.length - 1) w' := hwh.mono (by
    rintro e w4 (⟨rfl, _, q⟩ | ⟨_, q, _⟩)
    · exact ⟨rfl, q⟩
    · exact absurd hgood q)
  clear hL2 hd2 hS2 s1 hc3 hap hb2 hz2 hL3 ep0 hwh
  go_wp2_with fail
  rw [rounds_succ]
  go_wp2_with fail
  refine hwhG.mono ?_
  rintro e w4 ⟨rfl, hW4⟩
  have hc34 := hW4.chg
  have hS4 : w4.heap[w.heap.size + 1]? = some (.cells #[.func (.func 32) #[.pointer (some ⟨w.heap.size, 0, none⟩)] #[], .func (.func 33) #[.pointer (some ⟨w.heap.size, 0, none⟩)] #[], .func (.func 34) #[.pointer (some ⟨w.heap.size, 0, none⟩)] #[], .func (.func 35) #[.pointer (some ⟨w.heap.size, 0, none⟩)] #[], .func (.func 36) #[.pointer (some ⟨w.heap.size, 0, none⟩)] #[]] 42 (0, 0)) := (hc34.block (w.heap.size + 1) (by omega) (fun q => by rcases hown4 _ q with r | r <;> omega)).trans hS3
  have s3 := HCS.out w4 hS4 3 _ rfl
  have hrl := readLast_any hW4 HF.out hns (fun b hb => by have := hodb b hb; have := hC3.size; omega) hap3 ev (by omega) ef hsp hz hfz (by omega)
  clear hwhG hW3 s2
  go_wp2_with fail
  rw [rounds_succ]
  go_wp2_with fail
  refine hrl.mono ?_
  rintro e w5 ⟨rfl, ⟨P5, U5, own5, n5, od5, sz5, hL5, hR5, hn5, hz5, hown5, hod5⟩, hc5⟩
  obtain ⟨hWI5, hsg5⟩ := wi_of2 hL5 hR5 (by omega) HUP.out HF.out hsp hgood ef hns
  have hS5 : w5.heap[w.heap.size + 1]? = some (.cells #[.func (.func 32) #[.pointer (some ⟨w.heap.size, 0, none⟩)] #[], .func (.func 33) #[.pointer (some ⟨w.heap.size, 0, none⟩)] #[], .func (.func 34) #[.pointer (some ⟨w.heap.size, 0, none⟩)] #[], .func (.func 35) #[.pointer (some ⟨w.heap.size, 0, none⟩)] #[], .func (.func 36) #[.pointer (some ⟨w.heap.size, 0, none⟩)] #[]] 42 (0, 0)) := (hc5.block (w.heap.size + 1) (by omega) (fun q => q.elim (fun q => by rcases hown4 _ q with r | r <;> omega) (fun q => by have := hodb _ q; omega))).trans hS3
  have s4 := HCS.out w5 hS5 4 _ rfl
  have hw53 := hc5.size
  have hC5 : Chg (fun b => od b ≠ none) w w5 := ((Chg.of_below hC3).mono (fun b q1 q2 => by omega)).trans (hc5.mono (fun b _ q => q.elim (fun q => .inr (by rcases hown4 b q with r | r <;> omega)) .inl))
  clear hrl hL5 hR5
  go_wp2_with fail
  rw [rounds_succ]
  go_wp2_with fail
  refine (sall_any hWI5).mono ?_
  rintro e w6 ⟨rfl, ⟨od6, hWI6, ho6⟩, hc6⟩
  have hC3s := hC3.size
  have hO6 : ∀ b, od6 b ≠ none → od b ≠ none ∨ w.heap.size ≤ b := fun b q => by
    rcases ho6 b q with r | r
    · rcases hod5 b r with r | r
      · exact .inl r
      · exact .inr (by omega)
    · exact .inr (by have := hC5.size; omega)
  have hC6 : Chg (fun b => od b ≠ none) w w6 := hC5.trans (hc6.mono (fun b _ q => q.elim (fun q => .inr (by
      rcases hown5 b q with r | r
      · rcases hown4 b r with r | r <;> omega
      · have := hC3.size; omega)) (fun q => by
      rcases hod5 b q with r | r
      · exact .inl r
      · exact .inr (by have := hC3.size; omega))))
  go_wp2_with fail
  rw [rounds_succ]
  go_wp2_with fail
  go_returns
  exact ⟨_, _, _, _, _, _, _, _, rfl, hWI6, hsg5, hn5, hz5, hC6, hO6⟩
end
end Go.Proofs.YtcielagfajdbeaaGreatDoor

/- Another content in a segment's file, and the log opened again. -/
namespace Go.Proofs.YtcielagfajdbeaaGreatDoor
open Go.RowKit
set_option linter.unusedVariables false
set_option maxRecDepth 100000

section
variable {B l d : Nat} {rs : List (List UInt8)} {sv : Value} {P : List (Sg × Value)} {U : Nat → List Value} {own : Nat → Option LRole} {n : Nat} {od : Nat → Option Role} {st : Nm → Option (List UInt8 × Nat)} {w : World} {nm : ByteArray} {size : Nat}
/-- What the log answers that is opened behind such a turn. -/
def Opened (B l d k m : Nat) (W : World) (r : Ending) (w' : World) : Prop :=
  (k + 1 < m ∧ r = .returned (.tuple #[.pointer none, .int .i64 40]) ∨ k + 1 = m ∧ ∃ l, r = .returned (.tuple #[.pointer (some ⟨l, 0, none⟩), .int .i64 0]) ∧ (Calls Tryz.prog 23 #[.pointer (some ⟨l, 0, none⟩)] w' fun e w2 => e = .returned (.int .u64 ((k + 1 : Nat) : Int)) ∧ ∃ q, w2 = w'.drewN q) ∧ ∀ q, Calls Tryz.prog 20 #[.pointer (some ⟨l, 0, none⟩)] (w'.drewN q) fun e w2 => e = .returned (.int .u64 1) ∧ w2 = w'.drewN q) ∧ Below B W w'
theorem good_turn (hc : Chn size rs (sgs P)) {k : Nat} {f : SF} (e : (filesOf P)[k]? = some f) (hk : k + 1 = P.length) (rs' : List (List UInt8)) (t : List UInt8) : ∀ i, Good ((filesOf P).set k (f.1, rs', t)) i := by
  intro i a b ea eb
  have hl : (filesOf P).length = P.length := by unfold filesOf; simp
  have hil : i + 1 < P.length := by have := (List.getElem?_eq_some_iff.1 eb).1; rw [List.length_set] at this; omega
  rw [List.getElem?_set_ne (by omega)] at ea
  obtain ⟨p, ep, rfl⟩ := filesOf_at ea
  have hb1 : ∃ q, P[i + 1]? = some q ∧ b.1 = q.1.1 := by
    by_cases hi : i + 1 = k
    · subst hi
      rw [List.getElem?_set_self (by omega)] at eb
      obtain rfl := Option.some.inj eb
      obtain ⟨q, eq, rfl⟩ := filesOf_at e
      exact ⟨q, eq, rfl⟩
    · rw [List.getElem?_set_ne (fun q => hi q.symm)] at eb
      obtain ⟨q, eq, rfl⟩ := filesOf_at eb
      exact ⟨q, eq, rfl⟩
  obtain ⟨q, eq, hb⟩ := hb1
  have := hc.chain i p.1 q.1 (sgs_at ep) (sgs_at eq)
  refine ⟨rfl, ?_⟩
  rw [hb, this]
  rfl
set_option maxHeartbeats 2000000 in
theorem turned_open (h : Rot B l d 1 nm 1 0 (fun _ => none) rs sv P U own n od st w) (hlst : Lst (sgs P)) (hrs : rs.length ≤ 30) (hz : (frs rs).length ≤ 100000) (hnm : 0 < nm.size) (hns : nm.size ≤ 40) {k : Nat} {p : Sg × Value} (ep : P[k]? = some p) {W : World} (hW : Below w.heap.size w W) {vb : Value} {t : List UInt8} (hvb : Ow w.heap.size W vb t) (ht : M.tkf t = none) (ht0 : t ≠ []) (htl : t.length ≤ 200) :
    Calls Tryz.prog 28 #[.pointer (some ⟨d, 0, none⟩), .string (fname nm (k + 1))] W fun e w8 => e = .returned (.int .i64 0) ∧ Calls Tryz.prog 21 #[.pointer (some ⟨d, 0, none⟩), .string (fname nm (k + 1)), vb] w8 fun e w9 => e = .returned (.int .i64 0) ∧ Calls Tryz.prog 10 #[.pointer (some ⟨d, 0, none⟩), .string nm, .int .i64 1] w9 fun r w' => Opened B l d k rs.length W r w' := by
  have hI := h.1.below hW
  have hnb := h.1.nb k p ep
  have hls := fname_size nm p.1.1 hnb
  obtain ⟨s, hst⟩ := h.1.fl k p ep
  have hle := (seg_le h.2.1 k p.1 (sgs_at ep)).1
  have hpl : (sgs P).length = P.length := by simp
  have hlen := one_len h.2.1 hlst
  rw [hpl] at hlen
  have hpk := one_at h.2.1 hlst k p.1 (sgs_at ep)
  have hkl := (List.getElem?_eq_some_iff.1 ep).1
  have hlaid := h.laid (by omega) (by omega) (by omega)
  have ef : (filesOf P)[k]? = some (p.1.1, p.1.2, []) := by unfold filesOf; rw [List.getElem?_map, ep]; rfl
  have hl2 := hlaid.turn ef [] t 0 ht (by simp [frs]; omega) (by simp)
  have hfn : frs ([] : List (List UInt8)) ++ t = t := by simp [frs]
  rw [hfn] at hl2
  have hfl : ((filesOf P).set k (p.1.1, [], t)).length = P.length := by unfold filesOf; simp
  rw [← hpk.1]
  refine (remove_thereW hI.dk (fname nm p.1.1) (by unfold maxLen; omega) _ hst (by simp only []; omega) (by omega)).mono ?_
  rintro e w8 ⟨rfl, ⟨od8, hd8, ho8⟩, hc8⟩
  refine ⟨rfl, ?_⟩
  have hB8 := Nat.le_trans hI.leB hc8.size
  have hb8 : Below B W w8 := hc8.below (fun b q => (hI.dk.blo q).1) hI.leB
  have hv8 : Ow w.heap.size w8 vb t := hvb.keptC hc8 (fun b e q => by
    have h1 := (h.1.dk.blo q).2
    rcases hvb.2 with ⟨q2, _⟩ | ⟨g, cap, cur, e2, hg, _⟩
    · rw [q2] at e; cases e
    · rw [e2] at e
      have : g = b := by simpa [Value.ownBlock] using e
      omega)
  refine (write_new hd8 (fname nm p.1.1) (by omega) (by omega) (setF_same _ _ _) hv8.rd (by omega) (by have := h.2.2.1; omega)).mono ?_
  rintro e w9 ⟨rfl, ⟨od9, hd9, ho9⟩, hc9⟩
  refine ⟨rfl, ?_⟩
  rw [setF_setF] at hd9
  have hB9 := Nat.le_trans hB8 hc9.size
  have hb9 : Below B W w9 := hb8.trans (hc9.below (fun b q => (hd8.blo q).1) hB8)
  have hXl : (namesX nm ((filesOf P).set k (p.1.1, [], t))).length ≤ 1000 := by unfold namesX; rw [List.length_map]; omega
  have hn := h.2.2.1
  by_cases hk : k + 1 < P.length
  · have hbad := bad_turn h.2.1 ef hk [] t ht0
    refine (open_broken (size := 1) (F := (filesOf P).set k (p.1.1, [], t)) (X := namesX nm ((filesOf P).set k (p.1.1, [], t))) hd9 (namesX_segd hl2) (namesX_of hl2) (namesX_sgs _ _) hl2.fi (by omega) (by omega) hXl hl2.spare (by omega) hB9 hnm hns (by omega) (by omega) hbad).mono ?_
    rintro r w' ⟨rfl, hb⟩
    exact ⟨.inl ⟨by omega, rfl⟩, hb9.trans (hb.mono hB9)⟩
  · have hk1 : k + 1 = P.length := by omega
    have hgood := good_turn h.2.1 ef hk1 [] t
    have el : ((filesOf P).set k (p.1.1, [], t))[((filesOf P).set k (p.1.1, [], t)).length - 1]? = some (p.1.1, [], t) := by
      rw [hfl, show P.length - 1 = k by omega, List.getElem?_set_self (by unfold filesOf; simp; omega)]
    have hbl : SF.bytes (p.1.1, [], t) = t := hfn
    refine (open_ok (size := 1) (F := (filesOf P).set k (p.1.1, [], t)) (X := namesX nm ((filesOf P).set k (p.1.1, [], t))) hd9 (namesX_segd hl2) (namesX_of hl2) (namesX_sgs _ _) hl2.up hl2.fi (by omega) (by omega) hXl hl2.spare (by omega) hB9 hnm hns (by omega) (by omega) hgood el (by rw [hbl]; omega) (by rw [hbl]; omega)).mono ?_
    rintro r w' ⟨l', sv', P', U', own', n', od', sz', rfl, hWI, hsg, _, _, hch, _⟩
    have hPl : P'.length = P.length := by
      have := congrArg List.length hsg
      simpa [filesOf] using this
    refine ⟨.inr ⟨by omega, l', rfl, ?_, fun q => ?_⟩, hb9.trans (hch.below (fun b q => (hd9.blo q).1) hB9)⟩
    · obtain ⟨p', ep'⟩ : ∃ p', P'[k]? = some p' := ⟨_, List.getElem?_eq_getElem (by omega)⟩
      have e1 := sgs_at ep'
      rw [hsg, List.getElem?_map, List.getElem?_set_self (by unfold filesOf; simp; omega)] at e1
      have e2 : p'.1 = (p.1.1, []) := (Option.some.inj e1).symm
      have e3 : sgNext p'.1 = k + 1 := by rw [e2, ← hpk.1]; rfl
      have := lnext_any hWI.lg (by omega) p' ep' (by omega)
      rw [e3] at this
      exact this
    · obtain ⟨p', ep'⟩ : ∃ p', P'[0]? = some p' := ⟨_, List.getElem?_eq_getElem (by omega)⟩
      have e1 := sgs_at ep'
      rw [hsg, List.getElem?_map] at e1
      have e3 : p'.1.1 = 1 := by
        by_cases hk0 : k = 0
        · subst hk0
          rw [List.getElem?_set_self (by unfold filesOf; simp; omega)] at e1
          have e2 : p'.1 = (p.1.1, []) := (Option.some.inj e1).symm
          rw [e2]; exact hpk.1
        · rw [List.getElem?_set_ne hk0] at e1
          obtain ⟨p0, ep0⟩ : ∃ p0, P[0]? = some p0 := ⟨_, List.getElem?_eq_getElem (by omega)⟩
          unfold filesOf at e1
          rw [List.getElem?_map, ep0] at e1
          have e2 : p'.1 = (p0.1.1, p0.1.2) := (Option.some.inj e1).symm
          rw [e2]; exact (one_at h.2.1 hlst 0 p0.1 (sgs_at ep0)).1
      have := first_any (hWI.lg.drN q) p' ep'
      rw [e3] at this
      exact this
end
end Go.Proofs.YtcielagfajdbeaaGreatDoor

/- A log beside a file of others: bytes written behind its last segment, and the log opened again. -/
namespace Go.Proofs.YtcielagfajdbeaaGreatDoor
open Go.RowKit
set_option linter.unusedVariables false
set_option maxRecDepth 100000

/-- Any bytes are frames and something that begins with none. -/
theorem parse_any : ∀ (n : Nat) (b : List UInt8), b.length ≤ n → ∃ rs t, b = frs rs ++ t ∧ M.tkf t = none ∧ rs.length * 5 ≤ b.length
  | 0, b, h => ⟨[], b, rfl, by have : b = [] := List.eq_nil_of_length_eq_zero (by omega)
                               rw [this]; exact M.tkf_nil, by simp⟩
  | n + 1, b, h => by
    by_cases hc : (M.tf b).2.2 = 0
    · have hf := M.tf_form b hc
      have hl := congrArg List.length hf
      rw [List.length_append] at hl
      have hp := frame5 (M.tf b).1
      obtain ⟨rs, t, e, ht, hr⟩ := parse_any n (M.tf b).2.1 (by omega)
      refine ⟨(M.tf b).1 :: rs, t, ?_, ht, by simp; omega⟩
      rw [frs_consL, List.append_assoc, ← e, hf]
    · exact ⟨[], b, rfl, by unfold M.tkf; rw [if_neg hc], by simp⟩
theorem tf_no {t : List UInt8} (h : M.tkf t = none) : (M.tf t).2.2 ≠ 0 := fun q => by
  unfold M.tkf at h
  rw [if_pos q] at h
  cases h

def LGs : Nm := [108, 111, 103, 115]
def NML : ByteArray := ⟨#[108, 111, 103]⟩
theorem lgs_ne {b : Nat} (hb : b < 100) : (fname NML b).data.toList ≠ LGs := fun q => by
  have h1 := fname_size NML b hb
  have h2 := congrArg List.length q
  have h3 : (fname NML b).data.toList.length = (fname NML b).size := by rw [Array.length_toList]; rfl
  have h4 : NML.size = 3 := rfl
  have h5 : LGs.length = 4 := rfl
  omega
theorem lgs_sp : LGs ≠ (sname NML).data.toList := by decide
theorem lgs_up {b : Nat} (hb : b < 100) : leB (fname NML b).data.toList LGs = true := by
  rw [fname_dg]
  have e : (NML ++ ⟨#[46]⟩ : ByteArray).data.toList = [108, 111, 103, 46] := by decide
  rw [e]
  exact decide_eq_true (by
    show [108, 111, 103, 46] ++ dgL b ≤ LGs
    exact List.cons_le_cons_iff.2 (.inr ⟨rfl, List.cons_le_cons_iff.2 (.inr ⟨rfl, List.cons_le_cons_iff.2 (.inr ⟨rfl, List.cons_le_cons_iff.2 (.inl (by decide))⟩)⟩)⟩))
/-- The names, with that file behind them. -/
def namesL (G : List SF) : List (Nm × Option Nat) := namesX NML G ++ [(LGs, none)]
def exL (tail : List UInt8) : Nm → Option (List UInt8 × Nat) := setF (fun _ => none) LGs (some (tail, 0))
section
variable {st : Nm → Option (List UInt8 × Nat)} {G : List SF}
theorem namesL_segd (h : Laid NML (setF st LGs none) G) : ∀ x ∈ namesL G, Segd NML x := by
  intro x hx
  rcases List.mem_append.1 hx with q | q
  · exact namesX_segd h x q
  · obtain rfl := List.mem_singleton.1 q
    show Lib.hasPrefix LGs _ = false
    decide +kernel
theorem namesL_sgs (G : List SF) : sgsOf (namesL G) = G.map (fun f => sg0 f.1) := by
  rw [← namesX_sgs NML G]
  unfold sgsOf namesL
  rw [List.filterMap_append]
  simp
theorem namesL_of (h : Laid NML (setF st LGs none) G) {tail : List UInt8 × Nat} (hl : st LGs = some tail) : NamesOf st ((namesL G).map (·.1)) := by
  have h0 := namesX_of h
  have hm : ∀ s ∈ (namesX NML G).map (·.1), ∃ b, b < 100 ∧ s = (fname NML b).data.toList := fun s hs => by
    obtain ⟨x, hx, rfl⟩ := List.mem_map.1 hs
    obtain ⟨f, hf, rfl⟩ := List.mem_map.1 hx
    exact ⟨f.1, h.fi.nb f hf, rfl⟩
  have e : (namesL G).map (·.1) = (namesX NML G).map (·.1) ++ [LGs] := by unfold namesL; rw [List.map_append]; rfl
  rw [e]
  refine ⟨fun s => ?_, ?_, ?_⟩
  · rw [List.mem_append, List.mem_singleton, h0.mem s]
    by_cases q : s = LGs
    · rw [q, hl]; simp
    · rw [setF_other _ _ q]; simp [q]
  · rw [List.nodup_append]
    refine ⟨h0.nodup, by simp, fun a ha b hb q => ?_⟩
    obtain ⟨n, hn, rfl⟩ := hm a ha
    obtain rfl := List.mem_singleton.1 hb
    exact lgs_ne hn q
  · rw [List.pairwise_append]
    refine ⟨h0.up, by simp, fun a ha b hb => ?_⟩
    obtain ⟨n, hn, rfl⟩ := hm a ha
    obtain rfl := List.mem_singleton.1 hb
    exact lgs_up hn
theorem Laid.filesL (h : Laid NML (setF st LGs none) G) : Files NML st G :=
  ⟨fun f hf => by
    obtain ⟨s, hs⟩ := h.fi.at_ f hf
    rw [setF_other _ _ (lgs_ne (h.fi.nb f hf))] at hs
    exact ⟨s, hs⟩, h.fi.nb, h.fi.no, h.fi.len, h.fi.rl⟩
theorem Laid.spareL (h : Laid NML (setF st LGs none) G) : st (sname NML).data.toList = none := by
  have := h.spare
  rwa [setF_other _ _ (fun q => lgs_sp q.symm)] at this
end
section
variable {B l d size : Nat} {N z0 : Nat} {tail : List UInt8} {rs : List (List UInt8)} {sv : Value} {P : List (Sg × Value)} {U : Nat → List Value} {own : Nat → Option LRole} {n : Nat} {od : Nat → Option Role} {st : Nm → Option (List UInt8 × Nat)} {w : World}
theorem Rot.laidL (h : Rot B l d size NML N z0 (exL tail) rs sv P U own n od st w) (hs : 0 < size) (hrs : rs.length < 98) (hz : (frs rs).length ≤ 16777216) : Laid NML (setF st LGs none) (filesOf P) := by
  have hmem : ∀ f ∈ filesOf P, ∃ (i : Nat) (p : Sg × Value), P[i]? = some p ∧ f = (p.1.1, p.1.2, []) := fun f hf => by
    obtain ⟨i, e⟩ := List.mem_iff_getElem?.1 hf
    obtain ⟨p, ep, rfl⟩ := filesOf_at e
    exact ⟨i, p, ep, rfl⟩
  refine ⟨fun i j f g hij ef eg => ?_, fun f hf => ?_, fun s hs' => ?_, ⟨fun f hf => ?_, fun f hf => ?_, fun f hf => ?_, fun f hf => ?_, fun f hf => ?_⟩⟩
  · obtain ⟨p, ep, rfl⟩ := filesOf_at ef
    obtain ⟨q, eq, rfl⟩ := filesOf_at eg
    exact h.mono hs i j p q hij ep eq
  · obtain ⟨i, p, ep, rfl⟩ := hmem f hf
    have := h.2.1.at_ i p.1 (sgs_at ep)
    show 1 ≤ p.1.1
    omega
  · by_cases hlg : s = LGs
    · rw [hlg, setF_same] at hs'; exact absurd rfl hs'
    · rw [setF_other _ _ hlg] at hs'
      by_cases q : ∃ b, b < 100 ∧ s = (fname NML b).data.toList
      · obtain ⟨b, hb, rfl⟩ := q
        obtain ⟨i, p, ep, rfl⟩ := h.2.2.2.1 b hb hs'
        exact ⟨(p.1.1, p.1.2, []), List.mem_iff_getElem?.2 ⟨i, by unfold filesOf; rw [List.getElem?_map, ep]; rfl⟩, rfl⟩
      · rw [h.2.2.2.2 s (fun b hb e => q ⟨b, hb, e⟩)] at hs'
        unfold exL at hs'
        rw [setF_other _ _ hlg] at hs'
        exact absurd rfl hs'
  · obtain ⟨i, p, ep, rfl⟩ := hmem f hf
    obtain ⟨s, hs2⟩ := h.1.fl i p ep
    exact ⟨s, by show setF st LGs none (fname NML p.1.1).data.toList = some (frs p.1.2 ++ [], s); rw [List.append_nil, setF_other _ _ (lgs_ne (h.1.nb i p ep))]; exact hs2⟩
  · obtain ⟨i, p, ep, rfl⟩ := hmem f hf
    exact h.1.nb i p ep
  · obtain ⟨i, p, ep, rfl⟩ := hmem f hf
    exact M.tkf_nil
  · obtain ⟨i, p, ep, rfl⟩ := hmem f hf
    have := (seg_le h.2.1 i p.1 (sgs_at ep)).1
    show (frs p.1.2 ++ []).length ≤ _
    rw [List.append_nil]; omega
  · obtain ⟨i, p, ep, rfl⟩ := hmem f hf
    have := (seg_le h.2.1 i p.1 (sgs_at ep)).2
    show p.1.2.length ≤ _
    omega
theorem Rot.lgs (h : Rot B l d size NML N z0 (exL tail) rs sv P U own n od st w) : st LGs = some (tail, 0) := by
  rw [h.2.2.2.2 LGs (fun b hb q => lgs_ne hb q.symm)]
  unfold exL
  rw [setF_same]
end
theorem setF_commW (st : Nm → Option (List UInt8 × Nat)) {a b : Nm} (h : a ≠ b) (x : Option (List UInt8 × Nat)) : setF (setF st b none) a x = setF (setF st a x) b none := by
  funext k
  unfold setF
  by_cases h1 : k = a
  · subst h1; simp [h]
  · simp [h1]
theorem syF_other (nm : ByteArray) : ∀ (P : List (Sg × Value)) (st : Nm → Option (List UInt8 × Nat)) (s : Nm), (∀ p ∈ P, s ≠ (fname nm p.1.1).data.toList) → syF nm P st s = st s
  | [], st, s, h => rfl
  | p :: P, st, s, h => by
    show syF nm P (setF st _ _) s = _
    rw [syF_other nm P _ s (fun q hq => h q (List.mem_cons_of_mem _ hq)), setF_other _ _ (h p (List.mem_cons_self ..))]
theorem lastF_other {nm : ByteArray} {st : Nm → Option (List UInt8 × Nat)} {f : SF} (hsp : st (sname nm).data.toList = none) {s : Nm} (h : s ≠ (fname nm f.1).data.toList) : lastF nm st f s = st s := by
  unfold lastF
  split
  · rfl
  · exact renF_other hsp h
end Go.Proofs.YtcielagfajdbeaaGreatDoor

/- The calls of WalAgain: that file written, Sync, the tail written, Open. -/
namespace Go.Proofs.YtcielagfajdbeaaGreatDoor
open Go.RowKit
set_option linter.unusedVariables false
set_option maxRecDepth 100000

section
variable {B l d size : Nat} {N z0 : Nat} {tail : List UInt8} {rs : List (List UInt8)} {sv : Value} {P : List (Sg × Value)} {U : Nat → List Value} {own : Nat → Option LRole} {n : Nat} {od : Nat → Option Role} {st : Nm → Option (List UInt8 × Nat)} {sz : Nat} {w : World}
theorem write_logs (h : RotE B l d size NML 1 0 (fun _ => none) [] w) {vb : Value} (hr : Rd w vb tail) (ht : tail.length ≤ 1048576) :
    Calls Tryz.prog 21 #[.pointer (some ⟨d, 0, none⟩), .string ⟨#[108, 111, 103, 115]⟩, vb] w fun e w' => e = .returned (.int .i64 0) ∧ RotE B l d size NML 2 tail.length (exL tail) [] w' ∧ Below B w w' := by
  obtain ⟨sv, P, U, own, n, od, st, h⟩ := h
  have hI := h.1
  have hno : st LGs = none := h.2.2.2.2 LGs (fun b hb q => lgs_ne hb q.symm)
  have hn := h.2.2.1
  refine (write_new hI.dk ⟨#[108, 111, 103, 115]⟩ (by decide) (by decide) hno hr (by simp [frs]; omega) (by simp at hn; omega)).mono ?_
  rintro e w' ⟨rfl, ⟨od', hd', ho'⟩, hc'⟩
  obtain ⟨k1, k2, _⟩ := hI.kept ho' hc'
  have hd2 : Dk B d (n + 1) od' (setF st LGs (some (tail, 0))) (tail.length + (frs []).length) (alive d) 0 w' := by
    have e0 : 0 + (frs ([] : List (List UInt8))).length + tail.length = tail.length + (frs ([] : List (List UInt8))).length := by omega
    rw [← e0]; exact hd'
  refine ⟨rfl, ⟨sv, P, U, own, n + 1, od', setF st LGs (some (tail, 0)), ⟨k1, hd2, k2, fun i p e => ?_, hI.nb, hI.ne, hI.ns⟩, h.2.1, by simp at hn ⊢; omega, fun b hb q => ?_, fun f hf => ?_⟩, hc'.below (fun b q => (hI.dk.blo q).1) hI.leB⟩
  · obtain ⟨s, hs⟩ := hI.fl i p e
    exact ⟨s, by rw [setF_other _ _ (lgs_ne (hI.nb i p e))]; exact hs⟩
  · rw [setF_other _ _ (lgs_ne hb)] at q
    exact h.2.2.2.1 b hb q
  · unfold exL
    by_cases q : f = LGs
    · rw [q, setF_same, setF_same]
    · rw [setF_other _ _ q, setF_other _ _ q]; exact h.2.2.2.2 f hf
theorem sync_rot {nm : ByteArray} {ex : Nm → Option (List UInt8 × Nat)} (h : Rot B l d size nm N z0 ex rs sv P U own n od st w) :
    Calls Tryz.prog 13 #[.pointer (some ⟨l, 0, none⟩)] w fun r w' => r = .returned (.int .i64 0) ∧ (∃ od' st', Rot B l d size nm N z0 ex rs sv P U own n od' st' w') ∧ Below B w w' := by
  obtain ⟨k, p, hk, e, hnx⟩ := h.last
  have hI := h.1
  refine (lsync_any hI hk e).mono ?_
  rintro r w' ⟨rfl, ⟨od', hI'⟩, hc⟩
  refine ⟨rfl, ⟨od', _, hI', h.2.1, h.2.2.1, fun b hb q => ?_, fun f hf => ?_⟩, hI.chg hc⟩
  · by_cases hbp : b = p.1.1
    · exact ⟨k, p, e, hbp.symm⟩
    · rw [setF_other _ _ (fun q => hbp (fname_inj nm hb (hI.nb k p e) q))] at q
      exact h.2.2.2.1 b hb q
  · rw [setF_other _ _ (hf p.1.1 (hI.nb k p e))]
    exact h.2.2.2.2 f hf
/-- A disk with a log's files, the last with a tail, and that file. -/
structure Ag (B d : Nat) (tail : List UInt8) (F : List SF) (n : Nat) (od : Nat → Option Role) (st : Nm → Option (List UInt8 × Nat)) (sz : Nat) (w : World) : Prop where
  dk : Dk B d n od st sz (alive d) 0 w
  la : Laid NML (setF st LGs none) F
  lg : st LGs = some (tail, 0)
  gd : ∀ i, Good F i
  f0 : 0 < F.length
  f1 : F.length ≤ 100
theorem Ag.next {F : List SF} {S : Nat → Prop} {w' : World} (h : Ag B d tail F n od st sz w) (hc : Chg S w w') (hs : ∀ b, od b ≠ none → ¬ S b) : Ag B d tail F n od st sz w' :=
  ⟨h.dk.next hc (fun b q => hs b q), h.la, h.lg, h.gd, h.f0, h.f1⟩
theorem Ag.below {F : List SF} {w' : World} (h : Ag B d tail F n od st sz w) (hb : Below w.heap.size w w') : Ag B d tail F n od st sz w' :=
  ⟨h.dk.next (Chg.of_below hb) (fun b hs q => by have := (h.dk.blo hs).2; omega), h.la, h.lg, h.gd, h.f0, h.f1⟩
theorem again_start (h : Rot B l d size NML 2 tail.length (exL tail) rs sv P U own n od st w) (hs : 0 < size) (hrs : rs.length ≤ 40) (hz : (frs rs).length ≤ 100000) {k : Nat} {p : Sg × Value} (hk : P.length = k + 1) (ep : P[k]? = some p) {W : World} (hW : Below w.heap.size w W) {vb : Value} (hvb : Rd W vb tail) (htl : tail.length ≤ 1048576) {trs : List (List UInt8)} {t : List UInt8} (hp : tail = frs trs ++ t) (ht : M.tkf t = none) (htr : trs.length * 5 ≤ tail.length) :
    Calls Tryz.prog 21 #[.pointer (some ⟨d, 0, none⟩), .string (fname NML p.1.1), vb] W fun e w' => e = .returned (.int .i64 0) ∧ (∃ od' st', Ag B d tail ((filesOf P).set k (p.1.1, p.1.2 ++ trs, t)) n od' st' (tail.length + (frs rs).length + tail.length) w' ∧ ∀ b, od' b ≠ none → b < w.heap.size ∨ W.heap.size ≤ b) ∧ Chg (fun b => od b ≠ none) W w' := by
  have hI := h.1.below hW
  have hnb := h.1.nb k p ep
  have hls := fname_size NML p.1.1 hnb
  have h3 : NML.size = 3 := rfl
  obtain ⟨s, hst⟩ := h.1.fl k p ep
  have hle := seg_le h.2.1 k p.1 (sgs_at ep)
  have hpl : (sgs P).length = P.length := by simp
  have hlen := h.2.1.len hs
  have hlaid := h.laidL hs (by omega) (by omega)
  have ef : (filesOf P)[k]? = some (p.1.1, p.1.2, []) := by unfold filesOf; rw [List.getElem?_map, ep]; rfl
  have hfe : frs (p.1.2 ++ trs) ++ t = frs p.1.2 ++ tail := by rw [frs_app, List.append_assoc, ← hp]
  have hl2 := hlaid.turn ef (p.1.2 ++ trs) t s ht (by rw [hfe, List.length_append]; omega) (by rw [List.length_append]; have := htr; omega)
  rw [hfe, setF_commW st (lgs_ne hnb)] at hl2
  refine (write_there hI.dk (fname NML p.1.1) (by omega) (by omega) _ hst hvb (by omega) (by simp only []; omega)).mono ?_
  rintro e w' ⟨rfl, ⟨od', hd', ho'⟩, hc'⟩
  refine ⟨rfl, ⟨od', _, ⟨hd', hl2, ?_, good_turn h.2.1 ef (by omega) _ _, ?_, ?_⟩, fun b q => (ho' b q).imp (fun r => (h.1.dk.blo r).2) id⟩, hc'⟩
  · rw [setF_other _ _ (fun q => lgs_ne hnb q.symm)]; exact h.lgs
  · unfold filesOf; simp; omega
  · unfold filesOf; simp; omega
theorem again_open {F : List SF} (h : Ag B d tail F n od st sz w) {f : SF} (ef : F[F.length - 1]? = some f) (hz : sz + f.bytes.length ≤ 16777216) (hfz : f.bytes.length ≤ sz) (hn : n ≤ 100000) (hB : B ≤ w.heap.size) :
    Calls Tryz.prog 10 #[.pointer (some ⟨d, 0, none⟩), .string ⟨#[108, 111, 103]⟩, .int .i64 40] w fun r w' => ∃ l sv P U own n' od' st' sz', r = .returned (.tuple #[.pointer (some ⟨l, 0, none⟩), .int .i64 0]) ∧ WI B l d 40 NML sv P U own n' od' st' sz' w' ∧ sgs P = F.map (fun f => (f.1, f.2.1)) ∧ Ag B d tail (filesOf P) n' od' st' sz' w' ∧ n' ≤ n + 2 ∧ (sz' ≤ sz ∧ (frs f.2.1).length ≤ sz') ∧ Chg (fun b => od b ≠ none) w w' ∧ ∀ b, od' b ≠ none → od b ≠ none ∨ w.heap.size ≤ b := by
  have hfl := h.la.filesL
  have hXl : (namesL F).length ≤ 1000 := by have := h.f1; unfold namesL namesX; simp; omega
  refine (open_ok (size := 40) (nm := NML) (F := F) (X := namesL F) h.dk (namesL_segd h.la) (namesL_of h.la h.lg) (namesL_sgs F) h.la.up hfl h.f0 (by have := h.f1; omega) hXl h.la.spareL (by omega) hB (by decide) (by decide) (by omega) (by omega) h.gd ef hz hfz).mono ?_
  rintro r w' ⟨l', sv', P', U', own', n', od', sz', rfl, hWI, hsg, hn', hz', hch, hod⟩
  have hPl : P'.length = F.length := by
    have := congrArg List.length hsg
    simpa using this
  have hat : ∀ (i : Nat) p, P'[i]? = some p → ∃ g, F[i]? = some g ∧ p.1 = (g.1, g.2.1) := fun i p ep => by
    have e1 := sgs_at ep
    rw [hsg, List.getElem?_map] at e1
    cases hF : F[i]? with
    | none => rw [hF] at e1; cases e1
    | some g => rw [hF] at e1; exact ⟨g, rfl, (Option.some.inj e1).symm⟩
  have hback : ∀ g ∈ F, ∃ p ∈ P', p.1 = (g.1, g.2.1) := fun g hg => by
    obtain ⟨i, ei⟩ := List.mem_iff_getElem?.1 hg
    obtain ⟨p, ep⟩ : ∃ p, P'[i]? = some p := ⟨_, List.getElem?_eq_getElem (by have := (List.getElem?_eq_some_iff.1 ei).1; omega)⟩
    obtain ⟨g', eg', hp⟩ := hat i p ep
    rw [ei] at eg'
    obtain rfl := Option.some.inj eg'
    exact ⟨p, List.mem_of_getElem? ep, hp⟩
  have hmem : ∀ f ∈ filesOf P', ∃ (i : Nat) (p : Sg × Value) (g : SF), P'[i]? = some p ∧ F[i]? = some g ∧ p.1 = (g.1, g.2.1) ∧ f = (g.1, g.2.1, []) := fun f hf => by
    obtain ⟨i, e⟩ := List.mem_iff_getElem?.1 hf
    obtain ⟨p, ep, rfl⟩ := filesOf_at e
    obtain ⟨g, eg, hp⟩ := hat i p ep
    exact ⟨i, p, g, ep, eg, hp, by rw [hp]⟩
  have hfile : ∀ (i : Nat) f, (filesOf P')[i]? = some f → ∃ g, F[i]? = some g ∧ f = (g.1, g.2.1, []) := fun i f e => by
    obtain ⟨p, ep, rfl⟩ := filesOf_at e
    obtain ⟨g, eg, hp⟩ := hat i p ep
    exact ⟨g, eg, by rw [hp]⟩
  have hfm := List.mem_of_getElem? ef
  have hsp := h.la.spareL
  refine ⟨l', sv', P', U', own', n', od', _, sz', rfl, hWI, hsg, ⟨hWI.dk, ⟨fun i j a b hij ea eb => ?_, fun a ha => ?_, fun s hs => ?_, ⟨fun a ha => ?_, fun a ha => ?_, fun a ha => ?_, fun a ha => ?_, fun a ha => ?_⟩⟩, ?_, fun i a b ea eb => ?_, ?_, ?_⟩, hn', hz', hch, hod⟩
  · obtain ⟨a', ea', rfl⟩ := hfile i a ea
    obtain ⟨b', eb', rfl⟩ := hfile j b eb
    exact h.la.up i j a' b' hij ea' eb'
  · obtain ⟨_, _, g, _, eg, _, rfl⟩ := hmem a ha
    exact h.la.lo g (List.mem_of_getElem? eg)
  · have hlg : s ≠ LGs := fun q => by rw [q, setF_same] at hs; exact hs rfl
    rw [setF_other _ _ hlg] at hs
    have key : ∃ g ∈ F, s = (fname NML g.1).data.toList := by
      by_cases q : ∃ p ∈ P', s = (fname NML p.1.1).data.toList
      · obtain ⟨p, hp, rfl⟩ := q
        obtain ⟨i, ei⟩ := List.mem_iff_getElem?.1 hp
        obtain ⟨g, eg, hpg⟩ := hat i p ei
        exact ⟨g, List.mem_of_getElem? eg, by rw [hpg]⟩
      · rw [syF_other NML P' _ s (fun p hp e => q ⟨p, hp, e⟩)] at hs
        by_cases q2 : s = (fname NML f.1).data.toList
        · exact ⟨f, hfm, q2⟩
        · rw [lastF_other hsp q2] at hs
          exact h.la.all s (by rw [setF_other _ _ hlg]; exact hs)
    obtain ⟨g, hg, rfl⟩ := key
    obtain ⟨p, hp, hpg⟩ := hback g hg
    exact ⟨(p.1.1, p.1.2, []), List.mem_map.2 ⟨p, hp, rfl⟩, by rw [hpg]⟩
  · obtain ⟨i, p, g, ep, eg, hp, rfl⟩ := hmem a ha
    obtain ⟨s, hs⟩ := hWI.fl i p ep
    rw [hp] at hs
    refine ⟨s, ?_⟩
    rw [setF_other _ _ (lgs_ne (hfl.nb g (List.mem_of_getElem? eg)))]
    show _ = some (frs g.2.1 ++ [], s)
    rw [List.append_nil]; exact hs
  · obtain ⟨_, _, g, _, eg, _, rfl⟩ := hmem a ha
    exact hfl.nb g (List.mem_of_getElem? eg)
  · obtain ⟨_, _, g, _, eg, _, rfl⟩ := hmem a ha
    exact M.tkf_nil
  · obtain ⟨_, _, g, _, eg, _, rfl⟩ := hmem a ha
    have := hfl.len g (List.mem_of_getElem? eg)
    unfold SF.bytes at this ⊢
    rw [List.length_append] at this ⊢
    simp only [List.length_nil]
    omega
  · obtain ⟨_, _, g, _, eg, _, rfl⟩ := hmem a ha
    exact hfl.rl g (List.mem_of_getElem? eg)
  · rw [syF_other NML P' _ LGs (fun p hp q => by
      obtain ⟨i, ei⟩ := List.mem_iff_getElem?.1 hp
      exact lgs_ne (hWI.nb i p ei) q.symm), lastF_other hsp (fun q => lgs_ne (hfl.nb f hfm) q.symm)]
    exact h.lg
  · obtain ⟨a', ea', rfl⟩ := hfile i a ea
    obtain ⟨b', eb', rfl⟩ := hfile (i + 1) b eb
    exact ⟨rfl, (h.gd i a' b' ea' eb').2⟩
  · unfold filesOf; rw [List.length_map, hPl]; exact h.f0
  · unfold filesOf; rw [List.length_map, hPl]; exact h.f1
end
end Go.Proofs.YtcielagfajdbeaaGreatDoor

/- The rounds of WalAgain. -/
namespace Go.Proofs.YtcielagfajdbeaaGreatDoor
open Go.RowKit
set_option linter.unusedVariables false
set_option maxRecDepth 100000

/-- What the loop of the appends keeps. -/
def RotA (B l d : Nat) (tail : List UInt8) (rs : List (List UInt8)) (w1 : World) (j : Nat) (W : World) : Prop :=
  j ≤ rs.length ∧ j ≤ 40 ∧ RotE B l d 40 NML 2 tail.length (exL tail) (rs.take j) W ∧ (∀ r ∈ rs.take j, r.length ≤ 100) ∧ Below B w1 W
/-- What the loop over the tail's frames keeps. -/
def TlI (C : Nat) (v8 : Value) (L0 : List UInt8) (trs : List (List UInt8)) (t : List UInt8) (w0 w8 : World) (j : Nat) (vb vr : Value) (W : World) : Prop :=
  j ≤ trs.length ∧ Ow C W vb (L0 ++ frs (trs.take j)) ∧ Rd W vr (frs (trs.drop j) ++ t) ∧ (∀ x, vb.ownBlock = some x → v8.ownBlock = some x ∨ w8.heap.size ≤ x) ∧ Chg (fun x => v8.ownBlock = some x) w8 W ∧ Below w0.heap.size w0 W
/-- What the loop over the Opens keeps. -/
def AgW (B d : Nat) (tail : List UInt8) (G : List Sg) (C : Nat) (vb : Value) (L : List UInt8) (w0 : World) (j : Nat) (W : World) : Prop :=
  ∃ F n od st sz, Ag B d tail F n od st sz W ∧ F.map (fun f => (f.1, f.2.1)) = G ∧ n ≤ 1000 + 2 * j ∧ sz ≤ 4000000 ∧ (∀ f, F[F.length - 1]? = some f → f.bytes.length ≤ sz) ∧ Ow C W vb L ∧ (∀ x, vb.ownBlock = some x → od x = none) ∧ Below w0.heap.size w0 W ∧ B ≤ W.heap.size
section
variable {B d : Nat} {tail : List UInt8} {G : List Sg} {C : Nat} {vb : Value} {L : List UInt8} {w0 : World} {j : Nat} {W W' : World}
theorem AgW.below (h : AgW B d tail G C vb L w0 j W) (hb : Below W.heap.size W W') : AgW B d tail G C vb L w0 j W' := by
  obtain ⟨F, n, od, st, sz, h1, h2, h3, h4, h5, h6, h7, h8, h9⟩ := h
  exact ⟨F, n, od, st, sz, h1.below hb, h2, h3, h4, h5, h6.below hb (Nat.le_refl _), h7, h8.trans (hb.mono h8.size), Nat.le_trans h9 hb.size⟩
/-- One Open, and what is asked of it. -/
theorem again_round (h : AgW B d tail G C vb L w0 j W) (hj : j < 2) (hwB : w0.heap.size ≤ B) {m : Nat} (hm : G.length = m + 1) {g0 gm : Sg} (e0 : G[0]? = some g0) (em : G[m]? = some gm) (h0 : g0.1 = 1) (hnx : sgNext gm < 18446744073709551616) (hL : L = frs gm.2) (hG : G.length ≤ 100) (hLl : L.length ≤ 16777216) :
    Calls Tryz.prog 10 #[.pointer (some ⟨d, 0, none⟩), .string ⟨#[108, 111, 103]⟩, .int .i64 40] W fun r w' => ∃ l, r = .returned (.tuple #[.pointer (some ⟨l, 0, none⟩), .int .i64 0]) ∧ (Calls Tryz.prog 23 #[.pointer (some ⟨l, 0, none⟩)] w' fun e w2 => e = .returned (.int .u64 (sgNext gm : Int)) ∧ ∃ q, w2 = w'.drewN q) ∧ (∀ q, Calls Tryz.prog 20 #[.pointer (some ⟨l, 0, none⟩)] (w'.drewN q) fun e w2 => e = .returned (.int .u64 1) ∧ w2 = w'.drewN q) ∧ (∀ q, Calls Tryz.prog 22 #[.pointer (some ⟨l, 0, none⟩)] (w'.drewN q) fun e w2 => ∃ g c, e = .returned (.slice (some ⟨g, 0, none⟩) G.length c) ∧ G.length ≤ c ∧ c ≤ 9223372036854775807 ∧ Below w'.heap.size w' w2 ∧ Calls Tryz.prog 25 #[.pointer (some ⟨d, 0, none⟩), .string (fname NML gm.1)] w2 fun e w3 => ∃ v, e = .returned (.tuple #[v, .int .i64 0]) ∧ Rd w3 v L ∧ Rd w3 vb L ∧ AgW B d tail G C vb L w0 (j + 1) w3) := by
  obtain ⟨F, n, od, st, sz, h1, h2, h3, h4, h5, h6, h7, h8, h9⟩ := h
  obtain ⟨f, ef⟩ : ∃ f, F[F.length - 1]? = some f := ⟨_, List.getElem?_eq_getElem (by have := h1.f0; omega)⟩
  have hfz := h5 f ef
  refine (again_open h1 ef (by omega) hfz (by omega) h9).mono ?_
  rintro r w' ⟨l, sv, P, U, own, n', od', st', sz', rfl, hWI, hsg, hAg, hn', ⟨hz', hz2⟩, hch, hod⟩
  rw [h2] at hsg
  have hPl : P.length = G.length := by have := congrArg List.length hsg; simpa using this
  have hat : ∀ (i : Nat) g, G[i]? = some g → ∃ p, P[i]? = some p ∧ p.1 = g := fun i g e => by
    rw [← hsg] at e
    exact at_sgs e
  obtain ⟨p0, ep0, hp0⟩ := hat 0 g0 e0
  obtain ⟨pm, epm, hpm⟩ := hat m gm em
  have hbw : Below w0.heap.size w0 w' := h8.trans ((hch.below (fun b q => (h1.dk.blo q).1) h9).mono hwB)
  have hB' := Nat.le_trans h9 hch.size
  have hvb : ∀ x, vb.ownBlock = some x → x < W.heap.size := fun x e => (World.ownsRow.lt h6 x e).2
  have hOw : Ow C w' vb L := h6.keptC hch (fun b e q => q (h7 b e))
  have hod7 : ∀ x, vb.ownBlock = some x → od' x = none := fun x e => by
    by_cases q : od' x = none
    · exact q
    · rcases hod x q with r | r
      · exact absurd (h7 x e) r
      · have := hvb x e; omega
  have hA : AgW B d tail G C vb L w0 (j + 1) w' := by
    refine ⟨filesOf P, n', od', st', sz', hAg, ?_, by omega, by omega, fun f' ef' => ?_, hOw, hod7, hbw, hB'⟩
    · rw [← hsg]; unfold filesOf; rw [List.map_map]; rfl
    · obtain ⟨p, ep, rfl⟩ := filesOf_at ef'
      have hl : (filesOf P).length - 1 = F.length - 1 := by
        have := congrArg List.length h2
        unfold filesOf
        simp at this ⊢
        omega
      rw [hl] at ep
      have e1 := sgs_at ep
      rw [hsg, ← h2, List.getElem?_map, ef] at e1
      have e2 : p.1 = (f.1, f.2.1) := (Option.some.inj e1).symm
      show (frs p.1.2 ++ []).length ≤ sz'
      rw [List.append_nil, e2]
      exact hz2
  refine ⟨l, rfl, ?_, fun q => ?_, fun q => ?_⟩
  · have := lnext_any hWI.lg (by omega) pm epm (by rw [hpm]; exact hnx)
    rw [hpm] at this
    exact this
  · have := first_any (hWI.lg.drN q) p0 ep0
    rw [hp0, h0] at this
    exact this
  · refine (segments_any (hWI.lg.drN q) (by omega)).mono ?_
    rintro e w2 ⟨v, rfl, ho, hb⟩
    obtain ⟨g, c, rfl, v1, v2, _, _⟩ := begins_cell ho (by omega)
    have hb2 : Below w'.heap.size w' w2 := Below.tr (Below.dN w' q) hb
    unfold maxLen at v2
    refine ⟨g, c, by rw [hPl], by omega, v2, hb2, ?_⟩
    have hA2 := hA.below hb2
    obtain ⟨s, hs⟩ := hWI.fl m pm epm
    rw [hpm, ← hL] at hs
    have hd2 : Dk B d n' od' st' sz' (alive d) 0 w2 := (hAg.below hb2).dk
    have hnb := hWI.nb m pm epm
    rw [hpm] at hnb
    refine (read_alive hd2 (fname NML gm.1) (by unfold maxLen; rw [fname_size NML gm.1 hnb]; decide) _ hs (by simp only []; omega)).mono ?_
    rintro e w3 ⟨v, rfl, hv, hb3⟩
    have hA3 := hA2.below hb3
    refine ⟨v, rfl, hv.rd, ?_, hA3⟩
    obtain ⟨_, _, _, _, _, _, _, _, _, _, q6, _⟩ := hA3
    exact q6.rd
end
end Go.Proofs.YtcielagfajdbeaaGreatDoor
