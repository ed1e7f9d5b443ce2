/- What becomes of a disk in memory where a file is taken out of the map, and where one that lies in memory is put into it. -/
import Derived.Test.YtkgpgfpclcibmaaG1
import Derived.Shelf.SlIter.Nil
import Derived.Shelf.SortM.Plain
import Derived.Shelf.SortM.SortNone
import Derived.Test.YtkgpgfpclcibmaaProg
import Derived.Sort.KeysCollected
namespace Go.Proofs.Ytkgpgfpclcibmaa
open Go.RowKit
set_option linter.unusedVariables false
set_option maxRecDepth 100000

/-- The roles without those of one file. -/
def strike (own : Nat → Option Role) (nm : Nm) : Nat → Option Role := fun b =>
  match own b with
  | some (.file k) => if k = nm then none else some (.file k)
  | some (.data k) => if k = nm then none else some (.data k)
  | r => r
theorem strike_keep {own : Nat → Option Role} {nm : Nm} {b : Nat} {r : Role} (h : own b = some r) (h1 : r ≠ .file nm) (h2 : r ≠ .data nm) : strike own nm b = some r := by
  unfold strike
  rw [h]
  cases r with
  | disk => rfl
  | map => rfl
  | file k => simp only []; rw [if_neg (fun q => h1 (by rw [q]))]
  | data k => simp only []; rw [if_neg (fun q => h2 (by rw [q]))]
theorem strike_sub {own : Nat → Option Role} {nm : Nm} {b : Nat} (h : strike own nm b ≠ none) : own b ≠ none := by
  intro q
  apply h
  unfold strike
  rw [q]
theorem strike_file {own : Nat → Option Role} {nm : Nm} {b : Nat} (h : own b = some (.file nm)) : strike own nm b = none := by
  unfold strike; rw [h]; simp
theorem strike_data {own : Nat → Option Role} {nm : Nm} {b : Nat} (h : own b = some (.data nm)) : strike own nm b = none := by
  unfold strike; rw [h]; simp

section
variable {B d n m : Nat} {D : DataW Unit} {fb : Nm → Nat} {fv : Nm → Value} {own : Nat → Option Role} {st : Nm → Option (List UInt8 × Nat)} {sz : Nat} {may : Value} {left : Int} {w w' : World}

theorem DkI.del (h : DkI B d n m D fb fv own st sz may left w) (nm : Nm) (hc : Chg (fun b => b = m) w w') (hm : w'.ownsMap Try.prog 9 flE m n (D.del (.string nm))) :
    DkI B d n m (D.del (.string nm)) fb fv (strike own nm) (setF st nm none) sz may left w' := by
  have hnm : ∀ b r, own b = some r → r ≠ .map → b ≠ m := fun b r hr hrn q => by
    subst q; rw [h.om] at hr; exact hrn (Option.some.inj hr).symm
  have kp : ∀ b r, own b = some r → r ≠ .map → w'.heap[b]? = w.heap[b]? := fun b r hr h1 => hc.block b (h.lo b (by rw [hr]; simp)).2 (hnm b r hr h1)
  have hx : ∀ x f, setF st nm none x = some f → x ≠ nm ∧ st x = some f := fun x f e => by
    by_cases q : x = nm
    · subst q; rw [setF_same] at e; cases e
    · rw [setF_other _ _ q] at e; exact ⟨q, e⟩
  refine ⟨by rw [kp d _ h.od (by simp)]; exact h.cell, hm, fun x f e => ?_, fun x e => ?_, fun x f e => ?_, strike_keep h.od (by simp) (by simp), strike_keep h.om (by simp) (by simp), fun x f e => ?_, fun x f b e q => ?_, fun b hb => ?_⟩
  · obtain ⟨q, e'⟩ := hx x f e
    rw [Maps.atKey_del_other (by simpa using q)]; exact h.has x f e'
  · by_cases q : x = nm
    · subst q; exact Maps.has_del_same
    · rw [setF_other _ _ q] at e
      rw [Maps.has_del_other (by simpa using q)]; exact h.hasnt x e
  · obtain ⟨q, e'⟩ := hx x f e
    obtain ⟨q1, q2, q3⟩ := h.file x f e'
    exact ⟨by rw [kp _ _ (h.ofl x f e') (by simp)]; exact q1, q2.keptC hc (fun b hb2 => hnm b _ (h.ov x f b e' hb2) (by simp)), q3⟩
  · obtain ⟨q, e'⟩ := hx x f e
    exact strike_keep (h.ofl x f e') (by simpa using q) (by simp)
  · obtain ⟨q2, e'⟩ := hx x f e
    exact strike_keep (h.ov x f b e' q) (by simp) (by simpa using q2)
  · have := h.lo b (strike_sub hb)
    exact ⟨this.1, Nat.lt_of_lt_of_le this.2 hc.size⟩

theorem DkI.link (h : DkI B d n m D fb fv own st sz may left w) {nm : Nm} (e : st nm = none) {g : Nat} {v : Value} {bytes : List UInt8} {s : Nat} (hg : own g = none) (hgB : B ≤ g)
    (hcell : w.heap[g]? = some (.cells #[v, .int .i64 (s : Int)] 126 (0, 0))) (ho : Ow B w v bytes) (hv : ∀ b, v.ownBlock = some b → own b = none ∧ b ≠ g) (hs : s ≤ bytes.length)
    (hc : Chg (fun b => b = m) w w') (hm : w'.ownsMap Try.prog 9 flE m (n + 1) (D.put (.string nm) (.lit (.int .u64 (g : Int))))) :
    DkI B d (n + 1) m (D.put (.string nm) (.lit (.int .u64 (g : Int)))) (fun x => if x = nm then g else fb x) (fun x => if x = nm then v else fv x) (fun b => if b = g then some (.file nm) else if v.ownBlock = some b then some (.data nm) else own b) (setF st nm (some (bytes, s))) sz may left w' := by
  have hnm : ∀ b r, own b = some r → r ≠ .map → b ≠ m := fun b r hr hrn q => by
    subst q; rw [h.om] at hr; exact hrn (Option.some.inj hr).symm
  have kp : ∀ b r, own b = some r → r ≠ .map → w'.heap[b]? = w.heap[b]? := fun b r hr h1 => hc.block b (h.lo b (by rw [hr]; simp)).2 (hnm b r hr h1)
  have hom : ∀ b, own b = none → b ≠ m := fun b q q2 => by rw [q2, h.om] at q; cases q
  have hk : ∀ b r, own b = some r → (if b = g then some (Role.file nm) else if v.ownBlock = some b then some (.data nm) else own b) = some r := fun b r hr => by
    rw [if_neg (fun q => by rw [q, hg] at hr; cases hr), if_neg (fun q => by rw [(hv b q).1] at hr; cases hr)]; exact hr
  have hgl : g < w.heap.size := (Array.getElem?_eq_some_iff.1 hcell).1
  have hx : ∀ x f, x ≠ nm → setF st nm (some (bytes, s)) x = some f → st x = some f := fun x f q e => by rw [setF_other _ _ q] at e; exact e
  have ho' : Ow B w' v bytes := ho.keptC hc (fun b hb => hom b (hv b hb).1)
  refine ⟨by rw [kp d _ h.od (by simp)]; exact h.cell, hm, fun x f e1 => ?_, fun x e1 => ?_, fun x f e1 => ?_, hk d _ h.od, hk m _ h.om, fun x f e1 => ?_, fun x f b e1 q => ?_, fun b hb => ?_⟩
  · by_cases q : x = nm
    · subst q
      simp only [if_true]
      exact Maps.atKey_put_same h.map.isMap (by trivial) _ _
    · simp only [if_neg q]
      rw [Maps.atKey_put_other (by simpa using q)]; exact h.has x f (hx x f q e1)
  · by_cases q : x = nm
    · subst q; rw [setF_same] at e1; cases e1
    · rw [setF_other _ _ q] at e1
      rw [Maps.has_put_other (by simpa using q)]; exact h.hasnt x e1
  · by_cases q : x = nm
    · subst q
      rw [setF_same] at e1
      obtain rfl := Option.some.inj e1
      simp only [if_true]
      exact ⟨by rw [hc.block g hgl (hom g hg)]; exact hcell, ho', hs⟩
    · simp only [if_neg q]
      obtain ⟨q1, q2, q3⟩ := h.file x f (hx x f q e1)
      exact ⟨by rw [kp _ _ (h.ofl x f (hx x f q e1)) (by simp)]; exact q1, q2.keptC hc (fun b hb2 => hnm b _ (h.ov x f b (hx x f q e1) hb2) (by simp)), q3⟩
  · by_cases q : x = nm
    · subst q; simp
    · simp only [if_neg q]; exact hk _ _ (h.ofl x f (hx x f q e1))
  · by_cases q2 : x = nm
    · subst q2
      simp only [if_true] at q
      rw [if_neg (hv b q).2, if_pos q]
    · simp only [if_neg q2] at q; exact hk b _ (h.ov x f b (hx x f q2 e1) q)
  · by_cases q : b = g
    · subst q; exact ⟨hgB, Nat.lt_of_lt_of_le hgl hc.size⟩
    · rw [if_neg q] at hb
      by_cases q2 : v.ownBlock = some b
      · exact World.ownsRow.lt ho' b q2
      · rw [if_neg q2] at hb
        exact ⟨(h.lo b hb).1, Nat.lt_of_lt_of_le (h.lo b hb).2 hc.size⟩
end
end Go.Proofs.Ytkgpgfpclcibmaa

/- The walk of Write on a living disk, where it answers OK. -/
namespace Go.Proofs.Ytkgpgfpclcibmaa
open Go.RowKit
set_option linter.unusedVariables false
set_option maxRecDepth 100000

section
variable {B d n : Nat} {own : Nat → Option Role} {st : Nm → Option (List UInt8 × Nat)} {sz : Nat} {left : Int} {w : World}

set_option maxHeartbeats 1000000 in
theorem write_there (h : Dk B d n own st sz (alive d) left w) (s : ByteArray) (hs1 : 1 ≤ s.size) (hs2 : s.size ≤ 64) (f : List UInt8 × Nat) (e : st s.data.toList = some f) {vb : Value} {l : List UInt8} (hr : Rd w vb l) (hz : sz + l.length ≤ 16777216) (hf : f.1.length ≤ 16777216) :
    Calls Try.prog 31 #[.pointer (some ⟨d, 0, none⟩), .string s, vb] w fun e w' => e = .returned (.int .i64 0) ∧ (∃ own', Dk B d n own' (setF st s.data.toList (some (f.1 ++ l, f.2))) (sz + l.length) (alive d) left w' ∧ ∀ b, own' b ≠ none → own b ≠ none ∨ w.heap.size ≤ b) ∧ Chg (fun b => own b ≠ none) w w' := by
  have hml : s.size ≤ maxLen := by unfold maxLen; omega
  have hrf := fun q => refuseWrite_any (h.drN q) s l.length (by omega) (by omega)
  have hw0 : wErr s l.length sz = 0 := by unfold wErr; rw [if_neg (by simp; omega), if_neg (by omega)]
  simp only [hw0] at hrf
  clear hw0
  obtain ⟨m, D, fb, fv, h⟩ := h
  have c0 : w.cell? ⟨d, 0, none⟩ = some (.map (some m)) := by rw [cell_of_row _ _ _ _ _ _ h.cell]; rfl
  have c2 : w.cell? ⟨d, 2, none⟩ = some (.func (.func 35) #[.pointer (some ⟨d, 0, none⟩)] #[]) := by rw [cell_of_row _ _ _ _ _ _ h.cell]; rfl
  have hrun := fun q => (h.drN q).look s hml f e
  obtain ⟨fa, fc, efv, hln, f0, f1, hfz, hrd⟩ := h.fcell e
  have hB : B ≤ w.heap.size := by have := h.lo d (by rw [h.od]; simp); omega
  have how : Ow B w (.slice fa f.1.length fc) f.1 := by rw [← efv]; exact (h.file _ f e).2.1
  have hgrew := fun q w3 (hg : (w.drewN q).grownBy w3 (Value.slice fa f.1.length fc).ownBlock) => (h.drN q).grew e (w3 := w3) (by rw [efv]; exact hg)
  have hwrote := fun q w3 v3 (hg : (w.drewN q).grownBy w3 (Value.slice fa f.1.length fc).ownBlock) (ho : Ow B w3 v3 (f.1 ++ l)) (hv : v3.ownBlock = (Value.slice fa f.1.length fc).ownBlock ∨ v3.ownBlock = some (w.drewN q).heap.size) => (h.drN q).wrote e (w3 := w3) (v3 := v3) (l := l) (by rw [efv]; exact hg) ho (by rw [efv]; exact hv)
  have H : Hid _ := And.intro hgrew hwrote
  clear h hfz efv hgrew hwrote
  have hr' := hr
  obtain ⟨av, cv, rfl, _, hcv, _, _⟩ := hr
  unfold maxLen at hcv
  generalize hnm : s.data.toList = nm at *
  generalize hg : fb nm = g at *
  go_enter Try.func31, Try.ntmps31
  go_wp2_with fail
  go_quiet (first | (go_at_call 72; refine Calls.quiet_of (v := .int .i64 0) (hrf _)) | (go_at_call 35; refine Calls.quiet_of_same (v := .int .i64 0) (alive_any _ _ _ _)) | fail)
  go_wp2_with (first | (at_builtin; refine wpList_appN rfl _ _ rfl B _ f.1 rfl (how.below (Below.dN w nq) (Nat.le_refl _)) _ l rfl (hr'.drewN nq) hB (by omega) ?_; intro v3 w3 ho3 hg3 hw3; obtain ⟨a3, c3, ev3, _⟩ := ho3.rd; obtain ⟨⟨u0, q0⟩, q1, q2⟩ := H.out.1 nq w3 hg3; have q3 := fun v => (q2 v).1; have q4 := fun v => (q2 v).2; clear q2; subst ev3) | fail)
  go_ret
  obtain ⟨⟨own', x1, x2⟩, x3⟩ := H.out.2 nq w3 _ hg3 ho3 hw3
  simp only [List.length_append, Int.natCast_add] at x1 x3
  have := (Chg.of_below (Below.dN w nq)).mono (S' := fun b => own b ≠ none) (fun b hb q => by omega)
  exact ⟨rfl, ⟨own', x1, x2⟩, this.trans (x3.mono (fun b _ q => Or.inl q))⟩

set_option maxHeartbeats 1000000 in
theorem write_new (h : Dk B d n own st sz (alive d) left w) (s : ByteArray) (hs1 : 1 ≤ s.size) (hs2 : s.size ≤ 64) (e : st s.data.toList = none) {vb : Value} {l : List UInt8} (hr : Rd w vb l) (hz : sz + l.length ≤ 16777216) (hn : n ≤ 1099511627776) :
    Calls Try.prog 31 #[.pointer (some ⟨d, 0, none⟩), .string s, vb] w fun e w' => e = .returned (.int .i64 0) ∧ (∃ own', Dk B d (n + 1) own' (setF st s.data.toList (some (l, 0))) (sz + l.length) (alive d) left w' ∧ ∀ b, own' b ≠ none → own b ≠ none ∨ w.heap.size ≤ b) ∧ Chg (fun b => own b ≠ none) w w' := by
  have hml : s.size ≤ maxLen := by unfold maxLen; omega
  have hrf := fun q => refuseWrite_any (h.drN q) s l.length (by omega) (by omega)
  have hw0 : wErr s l.length sz = 0 := by unfold wErr; rw [if_neg (by simp; omega), if_neg (by omega)]
  simp only [hw0] at hrf
  clear hw0
  obtain ⟨m, D, fb, fv, h⟩ := h
  have hdlt := (h.lo d (by rw [h.od]; simp)).2
  have hmlt := (h.lo m (by rw [h.om]; simp)).2
  have hdm : d ≠ m := fun q => by have := h.od; rw [q, h.om] at this; cases this
  have c0 : w.cell? ⟨d, 0, none⟩ = some (.map (some m)) := by rw [cell_of_row _ _ _ _ _ _ h.cell]; rfl
  have c0' : ∀ q o, ((w.drewN q).alloc o).cell? ⟨d, 0, none⟩ = some (.map (some m)) := fun q o => by rw [World.cell?_of_block (w := w) (Below.heap_alloc (w.drewN q) o d hdlt)]; exact c0
  have c2 : w.cell? ⟨d, 2, none⟩ = some (.func (.func 35) #[.pointer (some ⟨d, 0, none⟩)] #[]) := by rw [cell_of_row _ _ _ _ _ _ h.cell]; rfl
  have hrun := fun q => (h.drN q).look_no s hml e
  have hB : B ≤ w.heap.size := by have := h.lo d (by rw [h.od]; simp); omega
  have hmap := fun q o => (h.drN q).map.alloc o
  have HM : Hid _ := hmap
  clear hmap
  have H : Hid _ := h
  clear h
  have hkey := WideMaps.keyOf_string_mk (P := Try.prog) (k := 9) Try.underlying9 hml
  have hr' := hr
  obtain ⟨av, cv, rfl, _, hcv, _, _⟩ := hr
  unfold maxLen at hcv
  have hnlen : s.data.toList.length ≤ maxLen := by rw [Array.length_toList]; exact hml
  have hnm : n < maxLen := by unfold maxLen; omega
  go_enter Try.func31, Try.ntmps31
  go_wp2_with fail
  go_quiet (first | (go_at_call 72; refine Calls.quiet_of (v := .int .i64 0) (hrf _)) | (go_at_call 35; refine Calls.quiet_of_same (v := .int .i64 0) (alive_any _ _ _ _)) | fail)
  go_wp2_with (first | (at_mapUpdate; refine wpList_mapUpdate_own _ rfl _ _ _ 75 rfl 9 124 Try.strKeyed Try.underlying75 flE m n D rfl (HM.out nq _) hnm _ _ _ rfl rfl hkey (.lit (.int .u64 (w.heap.size : Int))) [] rfl ?_; intro w2 hown2 hg2; obtain ⟨_, f0, _, hB2, hrd2⟩ := H.out.put1 e hnlen nq hown2 hg2; have hr2 := hrd2 _ _ hr'; have H2 : Hid _ := H.out.first e hnlen nq hown2 hg2; clear hrd2 hown2 hg2 hr' HM) | (at_builtin; refine wpList_appN rfl _ _ rfl B (.slice none 0 0) [] rfl (Ow.nil _ _) _ l rfl hr2 hB2 (by simp; omega) ?_; intro v3 w3 ho3 hg3 hw3; obtain ⟨a3, c3, ev3, _⟩ := ho3.rd; obtain ⟨⟨⟨u0, q0⟩, q1, q2⟩, x0⟩ := H2.out w3 hg3; have q3 := fun v => (q2 v).1; have q4 := fun v => (q2 v).2; have HX : Hid _ := x0 v3 l ho3 hw3; clear q2 x0; subst ev3) | fail)
  go_ret
  obtain ⟨⟨own', x1, x2⟩, x3⟩ := HX.out
  simp only [List.length_append, List.length_nil, Nat.zero_add, Int.natCast_add] at x1 x3
  exact ⟨rfl, ⟨own', x1, x2⟩, x3⟩
end
end Go.Proofs.Ytkgpgfpclcibmaa

/- The library's own 'slices.Sorted(maps.Keys(m))' at this program: contracts of the shelf, laid by its commands in plain words. -/
namespace Go.Proofs.Ytkgpgfpclcibmaa
open Go.RowKit Go.Maps Go.Sort Go.Shelf

def Try.keys94_ren : Go.Shelf.Ren := ⟨fun | 7 => 94 | 10 => 99 | n => n, fun | 23 => 75 | 26 => 9 | 3 => 124 | 28 => 139 | 0 => 0 | 27 => 138 | 33 => 136 | 4 => 4 | n => n, fun | n => n⟩
theorem Try.keys94 : Go.Proofs.SlLaysZ.n7 Try.prog Try.keys94_ren := {
  mixed := by kernel_rfl
  f7 := ⟨Try.f94.name, by decide, Try.func94.trans (congrArg some (by kernel_rfl))⟩
  f10 := ⟨Try.f99.name, by decide, Try.func99.trans (congrArg some (by kernel_rfl))⟩
  t0 := Try.underlying0
  a0 := Try.isAgg0
  z0 := Try.sizeOf0
  v0 := Try.zeroValue0
  t4 := Try.underlying4
  a4 := Try.isAgg4
  z4 := Try.sizeOf4
  v4 := Try.zeroValue4
  t23 := Try.underlying75
  a23 := Try.isAgg75
  z23 := Try.sizeOf75
  v23 := Try.zeroValue75
  t26 := Try.underlying9
  a26 := Try.isAgg9
  z26 := Try.sizeOf9
  v26 := Try.zeroValue9
  t27 := Try.underlying138
  a27 := Try.isAgg138
  z27 := Try.sizeOf138
  v27 := Try.zeroValue138
  t28 := Try.underlying139
  a28 := Try.isAgg139
  z28 := Try.sizeOf139
  v28 := Try.zeroValue139
  t33 := Try.underlying136
  a33 := Try.isAgg136
  z33 := Try.sizeOf136
  v33 := Try.zeroValue136 }
def Try.sorted93_ren : Go.Shelf.Ren := ⟨fun | 6 => 93 | 8 => 97 | 9 => 98 | 11 => 100 | 13 => 102 | 12 => 101 | 23 => 112 | 24 => 113 | 14 => 103 | 15 => 104 | 16 => 105 | 17 => 106 | 18 => 107 | 19 => 108 | 20 => 109 | 21 => 110 | 22 => 111 | 25 => 114 | 26 => 115 | 27 => 116 | 28 => 117 | 29 => 118 | 30 => 119 | 31 => 120 | n => n, fun | 26 => 9 | 28 => 139 | 24 => 96 | 0 => 0 | 3 => 3 | 37 => 141 | 48 => 155 | 50 => 157 | 4 => 4 | 40 => 148 | 39 => 147 | 45 => 115 | 5 => 5 | 9 => 9 | 51 => 158 | 55 => 162 | 57 => 164 | 58 => 104 | 33 => 136 | n => n, fun | n => n⟩
theorem Try.sorted93 : Go.Proofs.SlLaysZ.n6 Try.prog Try.sorted93_ren := {
  mixed := by kernel_rfl
  f6 := ⟨Try.f93.name, by decide, Try.func93.trans (congrArg some (by kernel_rfl))⟩
  f8 := ⟨Try.f97.name, by decide, Try.func97.trans (congrArg some (by kernel_rfl))⟩
  f11 := ⟨Try.f100.name, by decide, Try.func100.trans (congrArg some (by kernel_rfl))⟩
  t0 := Try.underlying0
  a0 := Try.isAgg0
  z0 := Try.sizeOf0
  v0 := Try.zeroValue0
  t24 := Try.underlying96
  a24 := Try.isAgg96
  z24 := Try.sizeOf96
  v24 := Try.zeroValue96
  t26 := Try.underlying9
  a26 := Try.isAgg9
  z26 := Try.sizeOf9
  v26 := Try.zeroValue9
  t28 := Try.underlying139
  a28 := Try.isAgg139
  z28 := Try.sizeOf139
  v28 := Try.zeroValue139
  i26 := by kernel_rfl }
def Try.sort98_ren : Go.Shelf.Ren := ⟨fun | 6 => 98 | 8 => 102 | 9 => 101 | 19 => 112 | 20 => 113 | 21 => 103 | 22 => 104 | 23 => 105 | 24 => 106 | 25 => 107 | 26 => 108 | 27 => 109 | 28 => 110 | 29 => 111 | 36 => 114 | 31 => 115 | 32 => 116 | 37 => 117 | 38 => 118 | 39 => 119 | 41 => 120 | n => n, fun | 27 => 96 | 29 => 9 | 3 => 3 | 32 => 141 | 26 => 96 | 0 => 0 | 44 => 155 | 46 => 157 | 4 => 4 | 36 => 148 | 35 => 147 | 41 => 115 | 5 => 5 | 9 => 9 | 53 => 158 | 57 => 162 | 63 => 164 | 64 => 104 | n => n, fun | n => n⟩
theorem Try.sort98 : Go.Proofs.SlLaysM.n6 Try.prog Try.sort98_ren := {
  mixed := by kernel_rfl
  f6 := ⟨Try.f98.name, by decide, Try.func98.trans (congrArg some (by kernel_rfl))⟩
  f8 := Try.func102.trans (congrArg some (by kernel_rfl))
  f9 := ⟨Try.f101.name, by decide, Try.func101.trans (congrArg some (by kernel_rfl))⟩
  f19 := Try.func112.trans (congrArg some (by kernel_rfl))
  f20 := Try.func113.trans (congrArg some (by kernel_rfl))
  f21 := ⟨Try.f103.name, by decide, Try.func103.trans (congrArg some (by kernel_rfl))⟩
  f22 := ⟨Try.f104.name, by decide, Try.func104.trans (congrArg some (by kernel_rfl))⟩
  f23 := ⟨Try.f105.name, by decide, Try.func105.trans (congrArg some (by kernel_rfl))⟩
  f24 := ⟨Try.f106.name, by decide, Try.func106.trans (congrArg some (by kernel_rfl))⟩
  f25 := ⟨Try.f107.name, by decide, Try.func107.trans (congrArg some (by kernel_rfl))⟩
  f26 := ⟨Try.f108.name, by decide, Try.func108.trans (congrArg some (by kernel_rfl))⟩
  f27 := ⟨Try.f109.name, by decide, Try.func109.trans (congrArg some (by kernel_rfl))⟩
  f28 := ⟨Try.f110.name, by decide, Try.func110.trans (congrArg some (by kernel_rfl))⟩
  f29 := ⟨Try.f111.name, by decide, Try.func111.trans (congrArg some (by kernel_rfl))⟩
  f31 := Try.func115.trans (congrArg some (by kernel_rfl))
  f32 := Try.func116.trans (congrArg some (by kernel_rfl))
  f36 := ⟨Try.f114.name, by decide, Try.func114.trans (congrArg some (by kernel_rfl))⟩
  f37 := ⟨Try.f117.name, by decide, Try.func117.trans (congrArg some (by kernel_rfl))⟩
  f38 := ⟨Try.f118.name, by decide, Try.func118.trans (congrArg some (by kernel_rfl))⟩
  f39 := ⟨Try.f119.name, by decide, Try.func119.trans (congrArg some (by kernel_rfl))⟩
  f41 := ⟨Try.f120.name, by decide, Try.func120.trans (congrArg some (by kernel_rfl))⟩
  t0 := Try.underlying0
  a0 := Try.isAgg0
  z0 := Try.sizeOf0
  v0 := Try.zeroValue0
  t3 := Try.underlying3
  a3 := Try.isAgg3
  z3 := Try.sizeOf3
  v3 := Try.zeroValue3
  t4 := Try.underlying4
  a4 := Try.isAgg4
  z4 := Try.sizeOf4
  v4 := Try.zeroValue4
  t5 := Try.underlying5
  a5 := Try.isAgg5
  z5 := Try.sizeOf5
  v5 := Try.zeroValue5
  t9 := Try.underlying9
  a9 := Try.isAgg9
  z9 := Try.sizeOf9
  v9 := Try.zeroValue9
  t26 := Try.underlying96
  a26 := Try.isAgg96
  z26 := Try.sizeOf96
  v26 := Try.zeroValue96
  t27 := Try.underlying96
  a27 := Try.isAgg96
  z27 := Try.sizeOf96
  v27 := Try.zeroValue96
  t29 := Try.underlying9
  a29 := Try.isAgg9
  z29 := Try.sizeOf9
  v29 := Try.zeroValue9
  t32 := Try.underlying141
  a32 := Try.isAgg141
  z32 := Try.sizeOf141
  v32 := Try.zeroValue141
  t35 := Try.underlying147
  a35 := Try.isAgg147
  z35 := Try.sizeOf147
  v35 := Try.zeroValue147
  t36 := Try.underlying148
  a36 := Try.isAgg148
  z36 := Try.sizeOf148
  v36 := Try.zeroValue148
  t41 := Try.underlying115
  a41 := Try.isAgg115
  z41 := Try.sizeOf115
  v41 := Try.zeroValue115
  t44 := Try.underlying155
  a44 := Try.isAgg155
  z44 := Try.sizeOf155
  v44 := Try.zeroValue155
  t46 := Try.underlying157
  a46 := Try.isAgg157
  z46 := Try.sizeOf157
  v46 := Try.zeroValue157
  t53 := Try.underlying158
  a53 := Try.isAgg158
  z53 := Try.sizeOf158
  v53 := Try.zeroValue158
  t57 := Try.underlying162
  a57 := Try.isAgg162
  z57 := Try.sizeOf162
  v57 := Try.zeroValue162
  t63 := Try.underlying164
  a63 := Try.isAgg164
  z63 := Try.sizeOf164
  v63 := Try.zeroValue164
  t64 := Try.underlying104
  a64 := Try.isAgg104
  z64 := Try.sizeOf104
  v64 := Try.zeroValue104 }

theorem Try.sorts93 (m : Nat) : AnyZ.SortsIn Try.prog Try.sorted93_ren Fence.wide m :=
  ⟨fun blk off cap ss W hH hblk hsz => callsIn_wide.2 (AnyM.slices_Sort_string Try.sort98 blk off cap ss W hH hblk hsz),
   fun p cap W => callsIn_wide.2 (AnyM.slices_Sort_string_none Try.sort98 p cap W)⟩

theorem Try.maps_Keys_94 (mb : Option Nat) (W : World) : CallsIn Fence.wide 5 Try.prog 94 #[.map mb] W fun e w' => e = .returned (.func (.func 99) #[] #[.pointer (some ⟨W.heap.size, 0, none⟩)]) ∧ w' = W.alloc (.cells #[.map mb] 75) :=
  AnyZ.keys_in Try.keys94 Fence.wide 5 trivial rfl mb W

set_option maxHeartbeats 1000000 in
theorem Try.slices_Sorted_keys_93_94 {H : Type} (b nn : Nat) (D0 : DataW H) (R : Value → Option (DataW H × List MemPlace)) (w : World) (hown : w.ownsMap Try.prog 9 R b nn D0) (hmax : Maps.size D0 ≤ maxLen) (hbytes : Maps.size D0 * 16 ≤ 140737488355328) :
    CallsIn Fence.wide 5 Try.prog 93 #[.func (.func 99) #[] #[.pointer (some ⟨w.heap.size, 0, none⟩)]] (w.alloc (.cells #[.map (some b)] 75)) fun e w' => ∃ (v : Value) (ss : List (List UInt8)), e = .returned v ∧ ss.Perm (strKeys D0) ∧
      w'.ownsRow (w.alloc (.cells #[.map (some b)] 75)).heap.size 9 1 v ss.length ((ss.mergeSort (fun x y => decide (x ≤ y))).map encStr) ∧ (v = .slice none 0 0 ↔ ss = []) ∧ Below (w.alloc (.cells #[.map (some b)] 75)).heap.size (w.alloc (.cells #[.map (some b)] 75)) w' := by
  have hbl := hown.lt
  have hseq : SeqGives Fence.wide 2 Try.prog 99 #[.pointer (some ⟨w.heap.size, 0, none⟩)] encStr (fun ss => ss.Perm (strKeys D0)) (Maps.size D0) (w.alloc (.cells #[.map (some b)] 75)) :=
    AnyZ.keys_gives (ρ := Try.keys94_ren) { Try.keys94 with } Fence.wide _ trivial rfl (by omega) w.heap.size b nn D0 _ (by simp) (by simp) (by
      obtain ⟨es, clock, hb, Ft, hs, hD⟩ := hown
      exact ⟨es, clock, (Below.heap_alloc _ _ b hbl).trans hb, Ft, hs, hD⟩)
  exact AnyZ.sorted_in Try.sorted93 Fence.wide 5 trivial trivial trivial trivial rfl (by omega) (Try.sorts93 _) (enters_of Try.func98 (by kernel_rfl) rfl) 99 #[.pointer (some ⟨w.heap.size, 0, none⟩)] trivial (enters_of Try.func99 (by kernel_rfl) rfl) _ _ hmax hbytes _ hseq
end Go.Proofs.Ytkgpgfpclcibmaa

/- The names of a disk's files, sorted. -/
namespace Go.Proofs.Ytkgpgfpclcibmaa
open Go.RowKit Go.Maps
set_option linter.unusedVariables false
set_option maxRecDepth 100000

section
variable {B d n m : Nat} {D : DataW Unit} {fb : Nm → Nat} {fv : Nm → Value} {own : Nat → Option Role} {st : Nm → Option (List UInt8 × Nat)} {sz : Nat} {may : Value} {left : Int} {w : World}

/-- L is the names of all files, rising. -/
structure NamesOf (st : Nm → Option (List UInt8 × Nat)) (L : List Nm) : Prop where
  mem : ∀ nm, nm ∈ L ↔ st nm ≠ none
  nodup : L.Nodup
  up : L.Pairwise (fun x y => leB x y = true)

theorem DkI.has_iff (h : DkI B d n m D fb fv own st sz may left w) (nm : Nm) : Maps.has D (.string nm) = true ↔ st nm ≠ none := by
  constructor
  · intro q e
    rw [h.hasnt nm e] at q; cases q
  · intro q
    obtain ⟨f, hf⟩ := Option.ne_none_iff_exists'.1 q
    have ha := h.has nm f hf
    by_cases q2 : Maps.has D (.string nm) = true
    · exact q2
    · have := Maps.atKey_of_not_has (D := D) (k := .string nm) (by simpa using q2) (.nil : DataW Unit)
      rw [this] at ha; cases ha

theorem DkI.sorted (h : DkI B d n m D fb fv own st sz may left w) {L : List Nm} (hL : NamesOf st L) {ss : List (List UInt8)} (hp : ss.Perm (strKeys D)) : ss.mergeSort leB = L ∧ ss.length = L.length := by
  obtain ⟨es, e, hk⟩ := h.map.keysOf
  obtain ⟨es2, e2, ht⟩ := h.map.tidy Try.strKeyed
  rw [e] at e2
  injection e2 with e2
  subst e2
  have hks : ∀ p ∈ es, ∃ x, p.1 = .string x := fun p hp' => by
    obtain ⟨v, hv⟩ := hk p hp'
    obtain ⟨x, _, hx, _⟩ := Maps.keyOf_str Try.underlying9 hv
    exact ⟨x, hx⟩
  have hperm : L.Perm (strKeys D) := by
    rw [e]
    exact perm_strKeys ht hks hL.nodup (fun x => by rw [hL.mem x, ← h.has_iff x, e])
  have hsl : ss.Perm L := hp.trans hperm.symm
  refine ⟨?_, hsl.length_eq⟩
  rw [mergeSort_of_perm hsl]
  exact List.mergeSort_of_pairwise hL.up

theorem names_any (h : Dk B d n own st sz may left w) {L : List Nm} (hL : NamesOf st L) (hn : n ≤ 1099511627776) :
    Calls Try.prog 74 #[.pointer (some ⟨d, 0, none⟩)] w fun e w' => ∃ v, e = .returned v ∧ w'.ownsRow w.heap.size 9 1 v L.length (L.map encStr) ∧ Below w.heap.size w w' := by
  obtain ⟨m, D, fb, fv, h⟩ := h
  have c0 : w.cell? ⟨d, 0, none⟩ = some (.map (some m)) := by rw [cell_of_row _ _ _ _ _ _ h.cell]; rfl
  have hsz := h.map.size_le
  have hk := fun W => callsIn_wide.1 (Try.maps_Keys_94 (some m) W)
  have hs := callsIn_wide.1 (Try.slices_Sorted_keys_93_94 m n D flE w h.map (by unfold maxLen; omega) (by omega))
  go_enter Try.func74, Try.ntmps74
  go_wp2_with fail
  refine (hk _).mono ?_
  rintro e w1 ⟨rfl, rfl⟩
  go_wp2_with fail
  refine hs.mono ?_
  rintro e w2 ⟨v, ss, rfl, hp, hrow, _, hb⟩
  obtain ⟨q1, q2⟩ := h.sorted hL hp
  go_wp2_with fail
  go_ret
  refine ⟨_, rfl, ?_, ((Below.refl w.heap.size w).alloc (Nat.le_refl _) _).trans (hb.mono (by simp))⟩
  have q1' : ss.mergeSort (fun x y => decide (x ≤ y)) = L := q1
  rw [q1', q2] at hrow
  obtain ⟨r1, r2⟩ := hrow
  refine ⟨r1, ?_⟩
  rcases r2 with r2 | ⟨g, cap, cur, hv, hg, r⟩
  · exact .inl r2
  · exact .inr ⟨g, cap, cur, hv, by simp at hg; omega, r⟩
end
end Go.Proofs.Ytkgpgfpclcibmaa

/- What Crash leaves of a disk. -/
namespace Go.Proofs.Ytkgpgfpclcibmaa
open Go.RowKit Go.Maps
set_option linter.unusedVariables false
set_option maxRecDepth 100000

/-- The slice value v reads as these integers. -/
def RdI (w : World) (v : Value) (ks : List Int) : Prop :=
  ∃ ao c, v = .slice ao ks.length c ∧ ks.length ≤ c ∧ c ≤ maxLen ∧ ∀ i, (h : i < ks.length) → ∃ a, ao = some a ∧ w.cell? (a.add i) = some (.int .i64 ks[i])
theorem RdI.keptC {S : Nat → Prop} {w w' : World} {v : Value} {ks : List Int} (h : RdI w v ks) (hg : Chg S w w') (hne : ∀ b, v.ownBlock = some b → ¬ S b) : RdI w' v ks := by
  obtain ⟨ao, c, rfl, h1, h2, h4⟩ := h
  refine ⟨ao, c, rfl, h1, h2, fun i hi => ?_⟩
  obtain ⟨a, rfl, hc⟩ := h4 i hi
  have hlt := World.block_lt_of_cell? w _ hc
  rw [add_block] at hlt
  refine ⟨a, rfl, ?_⟩
  rw [World.cell?_of_block (w := w) (by rw [add_block]; exact hg.block a.block hlt (hne a.block rfl))]
  exact hc

/-- All bytes of the files that are named. -/
def sumB (st : Nm → Option (List UInt8 × Nat)) : List Nm → Nat
  | [] => 0
  | nm :: r => (match st nm with | some f => f.1.length | none => 0) + sumB st r
def keepAt (ks : List Int) (t : Nat) : Int := ks.getD t 0
/-- What a crash leaves, file by file. -/
def crashF : List Nm → List Int → Nat → (Nm → Option (List UInt8 × Nat)) → Nat → (Nm → Option (List UInt8 × Nat)) × Nat
  | [], _, _, st, sz => (st, sz)
  | nm :: r, ks, t, st, sz =>
    match st nm with
    | none => crashF r ks t st sz
    | some f => if f.2 = f.1.length then crashF r ks t st sz
      else crashF r ks (t + 1) (setF st nm (some (f.1.take (f.2 + stays (keepAt ks t) (f.1.length - f.2)), f.2 + stays (keepAt ks t) (f.1.length - f.2)))) (sz - (f.1.length - f.2 - stays (keepAt ks t) (f.1.length - f.2)))

theorem sumB_out (st : Nm → Option (List UInt8 × Nat)) (nm : Nm) (x : Option (List UInt8 × Nat)) : ∀ L : List Nm, nm ∉ L → sumB (setF st nm x) L = sumB st L
  | [], _ => rfl
  | k :: r, h => by
    have h1 : k ≠ nm := fun q => h (by rw [q]; exact List.mem_cons_self ..)
    simp only [sumB, setF_other _ _ h1, sumB_out st nm x r (fun q => h (List.mem_cons_of_mem _ q))]
theorem sumB_set (st : Nm → Option (List UInt8 × Nat)) (nm : Nm) (f g : List UInt8 × Nat) (e : st nm = some f) : ∀ L : List Nm, L.Nodup → nm ∈ L → sumB (setF st nm (some g)) L + f.1.length = sumB st L + g.1.length
  | [], _, h => by cases h
  | k :: r, hn, h => by
    have hn' := List.nodup_cons.1 hn
    by_cases q : k = nm
    · subst q
      simp only [sumB, setF_same, e, sumB_out st k _ r hn'.1]
      omega
    · have := sumB_set st nm f g e r hn'.2 (by rcases List.mem_cons.1 h with q2 | q2; exact absurd q2.symm q; exact q2)
      simp only [sumB, setF_other _ _ q]
      omega

section
variable {B d n m : Nat} {D : DataW Unit} {fb : Nm → Nat} {fv : Nm → Value} {own : Nat → Option Role} {st : Nm → Option (List UInt8 × Nat)} {sz : Nat} {may : Value} {left : Int} {w : World}

theorem DkI.name_le (h : DkI B d n m D fb fv own st sz may left w) {nm : Nm} (e : st nm ≠ none) : nm.length ≤ maxLen := by
  have hh := (h.has_iff nm).2 e
  obtain ⟨es, e1, hk⟩ := h.map.keysOf
  rw [e1, Maps.has_eq, List.any_eq_true] at hh
  obtain ⟨p, hp, hs⟩ := hh
  obtain ⟨v, hv⟩ := hk p hp
  obtain ⟨x, _, hx, hl⟩ := Maps.keyOf_str Try.underlying9 hv
  rw [hx] at hs
  have : x = nm := by simpa [Lit.sameKey] using hs
  rw [← this]; exact hl

theorem Dk.cell1 (h : Dk B d n own st sz may left w) : w.cell? ⟨d, 1, none⟩ = some (.int .i64 (sz : Int)) ∧ w.frozen? ⟨d, 1, none⟩ = false := by
  obtain ⟨m, D, fb, fv, h⟩ := h
  exact ⟨by rw [cell_of_row _ _ _ _ _ _ h.cell]; rfl, frozen_of_row _ _ _ _ _ h.cell⟩
theorem Dk.setSize (h : Dk B d n own st sz may left w) (k : Nat) : Dk B d n own st k may left (w.setCell ⟨d, 1, none⟩ (.int .i64 (k : Int))) ∧ Chg (fun b => own b ≠ none) w (w.setCell ⟨d, 1, none⟩ (.int .i64 (k : Int))) := by
  obtain ⟨m, D, fb, fv, h⟩ := h
  exact ⟨⟨m, D, fb, fv, h.setDisk ((Chg.refl (fun b => b = d) w).put d 1 _ rfl) (by rw [heap_setCell_same _ _ 1 _ _ _ h.cell]; rfl)⟩, (Chg.refl _ w).put d 1 _ (by rw [h.od]; simp)⟩

theorem own_cell0 {w : World} {B : Nat} {e : TypeId} {n : Nat} {v : Value} {xs : List Value} (h : w.ownsRow B e 1 v n xs) (i : Nat) (hi : i < n) : ∃ g c, v = .slice (some ⟨g, 0, none⟩) n c ∧ w.cell? ⟨g, i, none⟩ = xs[i]? := by
  rcases h.2 with ⟨_, e0⟩ | ⟨g, cap, cur, e, _⟩
  · omega
  · subst e
    exact ⟨g, cap, rfl, h.cellAt i (by omega)⟩
theorem encStr_string (l : List UInt8) : ∃ s : ByteArray, encStr l = .string s ∧ s.data.toList = l ∧ s.size = l.length := ⟨⟨l.toArray⟩, rfl, by simp, by simp [ByteArray.size]⟩

/-- What stands between two rounds. -/
structure CrashI (B d n : Nat) (own : Nat → Option Role) (st : Nm → Option (List UInt8 × Nat)) (may : Value) (left : Int) (L : List Nm) (ks : List Int) (fin : (Nm → Option (List UInt8 × Nat)) × Nat) (w1 : World) (k t : Nat) (own' : Nat → Option Role) (st' : Nm → Option (List UInt8 × Nat)) (sz' : Nat) (wr : World) : Prop where
  dk : Dk B d n own' st' sz' may left wr
  ext : ∀ b, own' b ≠ none → own b ≠ none ∨ w1.heap.size ≤ b
  chg : Chg (fun b => own b ≠ none) w1 wr
  fin : crashF (L.drop k) ks t st' sz' = fin
  dom : ∀ nm, st' nm ≠ none ↔ st nm ≠ none
  sum : sumB st' L = sz'
  small : ∀ nm f, st' nm = some f → f.1.length ≤ 16777216
  top : sz' ≤ 1099511627776

theorem CrashI.drN {L : List Nm} {ks : List Int} {fin : (Nm → Option (List UInt8 × Nat)) × Nat} {w1 wr : World} {k t : Nat} {own' : Nat → Option Role} {st' : Nm → Option (List UInt8 × Nat)} {sz' : Nat}
    (h : CrashI B d n own st may left L ks fin w1 k t own' st' sz' wr) (q : Nat) : CrashI B d n own st may left L ks fin w1 k t own' st' sz' (wr.drewN q) :=
  ⟨h.dk.drN q, h.ext, h.chg.dN q, h.fin, h.dom, h.sum, h.small, h.top⟩

/-- A file all of which is synced. -/
theorem CrashI.skip {L : List Nm} {ks : List Int} {fin : (Nm → Option (List UInt8 × Nat)) × Nat} {w1 wr : World} {k t : Nat} {own' : Nat → Option Role} {st' : Nm → Option (List UInt8 × Nat)} {sz' : Nat}
    (h : CrashI B d n own st may left L ks fin w1 k t own' st' sz' wr) (hk : k < L.length) {f : List UInt8 × Nat} (e : st' L[k] = some f) (hf : f.2 = f.1.length) : CrashI B d n own st may left L ks fin w1 (k + 1) t own' st' sz' wr := by
  refine ⟨h.dk, h.ext, h.chg, ?_, h.dom, h.sum, h.small, h.top⟩
  have := h.fin
  rw [List.drop_eq_getElem_cons hk, crashF, e] at this
  simp only [hf, if_true] at this
  exact this

/-- A file that is torn. -/
theorem CrashI.tear {L : List Nm} {ks : List Int} {fin : (Nm → Option (List UInt8 × Nat)) × Nat} {w1 wr w2 : World} {k t : Nat} {own' own2 : Nat → Option Role} {st' : Nm → Option (List UInt8 × Nat)} {sz' : Nat}
    (h : CrashI B d n own st may left L ks fin w1 k t own' st' sz' wr) (hL : L.Nodup) (hk : k < L.length) {f : List UInt8 × Nat} (e : st' L[k] = some f) (hf : f.2 < f.1.length)
    (hd : Dk B d n own2 (setF st' L[k] (some (f.1.take (f.2 + stays (keepAt ks t) (f.1.length - f.2)), f.2 + stays (keepAt ks t) (f.1.length - f.2)))) (sz' - (f.1.length - f.2 - stays (keepAt ks t) (f.1.length - f.2))) may left w2)
    (hx : ∀ b, own2 b ≠ none → own' b ≠ none ∨ wr.heap.size ≤ b) (hc : Chg (fun b => own' b ≠ none) wr w2) :
    CrashI B d n own st may left L ks fin w1 (k + 1) (t + 1) own2 (setF st' L[k] (some (f.1.take (f.2 + stays (keepAt ks t) (f.1.length - f.2)), f.2 + stays (keepAt ks t) (f.1.length - f.2)))) (sz' - (f.1.length - f.2 - stays (keepAt ks t) (f.1.length - f.2))) w2 := by
  have s1 := h.chg.size
  have hst : stays (keepAt ks t) (f.1.length - f.2) ≤ f.1.length - f.2 := by unfold stays; omega
  refine ⟨hd, fun b hb => ?_, h.chg.trans (hc.mono (fun b _ q => h.ext b q)), ?_, fun nm => ?_, ?_, fun nm g hg => ?_, by have := h.top; omega⟩
  · rcases hx b hb with q | q
    · exact h.ext b q
    · exact .inr (by omega)
  · have := h.fin
    rw [List.drop_eq_getElem_cons hk, crashF, e] at this
    simp only [if_neg (show ¬ f.2 = f.1.length by omega)] at this
    exact this
  · by_cases q : nm = L[k]
    · rw [q, setF_same, ← h.dom]; simp [e]
    · rw [setF_other _ _ q]; exact h.dom nm
  · have := sumB_set st' L[k] f (f.1.take (f.2 + stays (keepAt ks t) (f.1.length - f.2)), f.2 + stays (keepAt ks t) (f.1.length - f.2)) e L hL (List.getElem_mem hk)
    simp only [List.length_take] at this
    rw [h.sum] at this
    omega
  · by_cases q : nm = L[k]
    · rw [q, setF_same] at hg
      obtain rfl := Option.some.inj hg
      have := h.small _ f e
      simp only [List.length_take]; omega
    · rw [setF_other _ _ q] at hg; exact h.small nm g hg
end
end Go.Proofs.Ytkgpgfpclcibmaa

/- SameTexts and SameInts of two lists that read alike. -/
namespace Go.Proofs.Ytkgpgfpclcibmaa
open Go.RowKit
set_option linter.unusedVariables false
set_option maxRecDepth 100000

/-- The slice value v reads as these texts. -/
def RdS (w : World) (v : Value) (L : List Nm) : Prop :=
  ∃ ao c, v = .slice ao L.length c ∧ L.length ≤ c ∧ c ≤ maxLen ∧ ∀ i, (h : i < L.length) → ∃ a, ao = some a ∧ w.cell? (a.add i) = some (.string ⟨L[i].toArray⟩)
theorem RdS.of {w : World} {B : Nat} {v : Value} {L : List Nm} (h : w.ownsRow B 9 1 v L.length (L.map encStr)) : RdS w v L := by
  rcases h.2 with ⟨q, q0⟩ | ⟨g, cap, cur, q, hB, hg, q1, q2, q3, q4⟩
  · refine ⟨none, 0, by rw [q, q0], by omega, by simp, fun i hi => by omega⟩
  · refine ⟨some ⟨g, 0, none⟩, cap, q, q1, q2, fun i hi => ⟨_, rfl, ?_⟩⟩
    have := h.cells (g := g) (by rw [q]; rfl) i (encStr L[i]) (by simp [hi])
    exact this
theorem RdS.nil (w : World) : RdS w (.slice none 0 0) [] := ⟨none, 0, rfl, by simp, by simp, fun i hi => by simp at hi⟩
theorem RdS.below {w w' : World} {v : Value} {L : List Nm} (h : RdS w v L) (hb : Below w.heap.size w w') : RdS w' v L := by
  obtain ⟨ao, c, h0, h1, h2, h4⟩ := h
  refine ⟨ao, c, h0, h1, h2, fun i hi => ?_⟩
  obtain ⟨a, e, hc⟩ := h4 i hi
  exact ⟨a, e, by rw [hb.cell (World.block_lt_of_cell? w _ hc)]; exact hc⟩
theorem RdI.below {w w' : World} {v : Value} {ks : List Int} (h : RdI w v ks) (hb : Below w.heap.size w w') : RdI w' v ks := by
  obtain ⟨ao, c, h0, h1, h2, h4⟩ := h
  refine ⟨ao, c, h0, h1, h2, fun i hi => ?_⟩
  obtain ⟨a, e, hc⟩ := h4 i hi
  exact ⟨a, e, by rw [hb.cell (World.block_lt_of_cell? w _ hc)]; exact hc⟩

theorem sameTexts_any {va vb : Value} {L : List Nm} {w : World} (ha : RdS w va L) (hb : RdS w vb L) :
    Calls Try.prog 49 #[va, vb] w fun e w' => e = .returned (.bool true) ∧ ∃ n, w' = w.drewN n := by
  obtain ⟨aa, ca, rfl, a1, a2, a4⟩ := ha
  obtain ⟨ab, cb, rfl, b1, b2, b4⟩ := hb
  unfold maxLen at a2 b2
  go_enter Try.func49, Try.ntmps49
  go_wp2_with fail
  go_loopw [5] (fun i wr => ∃ k : Nat, k ≤ L.length ∧ i = .int .i64 k ∧ ∃ m, wr = w.drewN m) (fun i _ => L.length - (intOf i).toNat)
  case atStart => exact ⟨0, Nat.zero_le _, rfl, 0, rfl⟩
  case round =>
    obtain ⟨k, hk, rfl, m, rfl⟩ := hrel
    by_cases hlt : k < L.length
    · obtain ⟨xa, rfl, h1⟩ := a4 k hlt
      obtain ⟨xb, rfl, h2⟩ := b4 k hlt
      generalize L[k] = nm at *
      clear a4 b4
      go_wp2_with fail
      go_quiet (fail)
      go_wp2_with fail
      exact ⟨⟨k + 1, by omega, by go_num, m + nq, by simp [World.drewN]⟩, by simp [intOf]; omega⟩
    · obtain rfl : k = L.length := by omega
      clear a4 b4
      go_wp2_with fail
      go_ret
      exact ⟨rfl, _, rfl⟩
theorem sameInts_any {va vb : Value} {L : List Int} {w : World} (ha : RdI w va L) (hb : RdI w vb L) :
    Calls Try.prog 48 #[va, vb] w fun e w' => e = .returned (.bool true) ∧ ∃ n, w' = w.drewN n := by
  obtain ⟨aa, ca, rfl, a1, a2, a4⟩ := ha
  obtain ⟨ab, cb, rfl, b1, b2, b4⟩ := hb
  unfold maxLen at a2 b2
  go_enter Try.func48, Try.ntmps48
  go_wp2_with fail
  go_loopw [5] (fun i wr => ∃ k : Nat, k ≤ L.length ∧ i = .int .i64 k ∧ ∃ m, wr = w.drewN m) (fun i _ => L.length - (intOf i).toNat)
  case atStart => exact ⟨0, Nat.zero_le _, rfl, 0, rfl⟩
  case round =>
    obtain ⟨k, hk, rfl, m, rfl⟩ := hrel
    by_cases hlt : k < L.length
    · obtain ⟨xa, rfl, h1⟩ := a4 k hlt
      obtain ⟨xb, rfl, h2⟩ := b4 k hlt
      generalize L[k] = nm at *
      clear a4 b4
      go_wp2_with fail
      go_quiet (fail)
      go_wp2_with fail
      exact ⟨⟨k + 1, by omega, by go_num, m + nq, by simp [World.drewN]⟩, by simp [intOf]; omega⟩
    · obtain rfl : k = L.length := by omega
      clear a4 b4
      go_wp2_with fail
      go_ret
      exact ⟨rfl, _, rfl⟩
end Go.Proofs.Ytkgpgfpclcibmaa

/- The walk of Crash. -/
namespace Go.Proofs.Ytkgpgfpclcibmaa
open Go.RowKit Go.Maps
set_option linter.unusedVariables false
set_option maxRecDepth 100000

section
variable {B d n : Nat} {own : Nat → Option Role} {st : Nm → Option (List UInt8 × Nat)} {sz : Nat} {may : Value} {left : Int} {w : World}

set_option maxHeartbeats 2000000 in
theorem crash_any (h : Dk B d n own st sz may left w) {L : List Nm} (hL : NamesOf st L) (hn : n ≤ 1099511627776) (hsum : sumB st L = sz) (hsm : ∀ nm f, st nm = some f → f.1.length ≤ 16777216) (hsz : sz ≤ 1099511627776) (hlen : L.length ≤ 1099511627776)
    {vk : Value} {ks : List Int} (hk : RdI w vk ks) (hko : ∀ b, vk.ownBlock = some b → own b = none) (hki : ∀ k ∈ ks, -9223372036854775808 ≤ k ∧ k ≤ 9223372036854775807) :
    Calls Try.prog 33 #[.pointer (some ⟨d, 0, none⟩), vk] w fun e w' => (∃ v, e = .returned v) ∧
      (∃ own', Dk B d n own' (crashF L ks 0 st sz).1 (crashF L ks 0 st sz).2 (alive d) left w' ∧ ∀ b, own' b ≠ none → own b ≠ none ∨ w.heap.size ≤ b) ∧ Chg (fun b => own b ≠ none) w w' := by
  have hnames := names_any h hL hn
  have hlo : ∀ b, own b ≠ none → b < w.heap.size := fun b hb => by obtain ⟨_, _, _, _, h⟩ := h; exact (h.lo b hb).2
  generalize hfin : crashF L ks 0 st sz = fin
  have HF : Hid _ := hfin
  clear hfin
  obtain ⟨ak, ck, rfl, k1, k2, k4⟩ := id hk
  unfold maxLen at k2
  clear k4
  go_enter Try.func33, Try.ntmps33
  go_wp2_with fail
  refine hnames.mono ?_
  rintro e w1 ⟨nv, rfl, hrow, hb1⟩
  have hc1 : Chg (fun b => own b ≠ none) w w1 := (Chg.of_below hb1).mono (fun b hb q => by omega)
  have hI0 : CrashI B d n own st may left L ks fin w1 0 0 own st sz w1 := ⟨h.next (Chg.of_below hb1) (fun b hb q => by have := hlo b hb; omega), fun b hb => .inl hb, Chg.refl _ _, HF.out, fun _ => Iff.rfl, hsum, hsm, hsz⟩
  have hk1 := hk.keptC hc1 (fun b hb q => q (hko b hb))
  obtain ⟨an, cn, rfl⟩ : ∃ a c, nv = .slice a L.length c := by
    rcases hrow.2 with ⟨q, q0⟩ | ⟨g, cap, cur, q, _⟩
    · rw [q, q0]; exact ⟨_, _, rfl⟩
    · exact ⟨_, _, q⟩
  go_wp2_with fail
  go_loopw [4, 6, 7, 8, 12] (fun torn _ _ _ i wr => ∃ (k t : Nat) (own' : Nat → Option Role) (st' : Nm → Option (List UInt8 × Nat)) (sz' : Nat), k ≤ L.length ∧ t ≤ k ∧ torn = .int .i64 t ∧ i = .int .i64 k ∧ CrashI B d n own st may left L ks fin w1 k t own' st' sz' wr) (fun _ _ _ _ i _ => L.length - (intOf i).toNat)
  case atStart => exact ⟨0, 0, own, st, sz, Nat.zero_le _, Nat.le_refl _, rfl, rfl, hI0⟩
  case round =>
    obtain ⟨k, t, own', st', sz', hkL, htk, rfl, rfl, hI⟩ := hrel
    clear hI0
    by_cases hlt : k < L.length
    · obtain ⟨f, ef⟩ := Option.ne_none_iff_exists'.1 ((hI.dom L[k]).2 ((hL.mem _).1 (List.getElem_mem hlt)))
      have hrr := ownsRow_keptC hrow hI.chg (fun b e q => by have := (World.ownsRow.lt hrow b e).1; have := hlo b q; omega)
      obtain ⟨gn, cn', q1, q2⟩ := own_cell0 hrr k hlt
      simp only [Value.slice.injEq, true_and] at q1
      obtain ⟨rfl, rfl⟩ := q1
      rw [List.getElem?_map, List.getElem?_eq_getElem hlt] at q2
      obtain ⟨s, es, hs2, hs3⟩ := encStr_string L[k]
      simp only [Option.map_some, es] at q2
      clear hrr
      obtain ⟨m, D, fb, fv, hD⟩ := hI.dk
      have c0 : wr.cell? ⟨d, 0, none⟩ = some (.map (some m)) := by rw [cell_of_row _ _ _ _ _ _ hD.cell]; rfl
      have c1 : wr.cell? ⟨d, 1, none⟩ = some (.int .i64 (sz' : Int)) := by rw [cell_of_row _ _ _ _ _ _ hD.cell]; rfl
      have hnl := hD.name_le (show st' L[k] ≠ none by rw [ef]; simp)
      have hrun := hD.look s (by rw [hs3]; exact hnl) f (by rw [hs2]; exact ef)
      rw [hs2] at hrun
      obtain ⟨fa, fc, efv, hln, f0, f1, hfz, hrd⟩ := hD.fcell ef
      have hsync := (hD.file _ f ef).2.2
      have hfs := hI.small _ f ef
      have hsz' := hI.top
      clear hfz efv hrd
      by_cases hfeq : f.2 = f.1.length
      · have hb : (((f.2 : Nat) : Int) == ((f.1.length : Nat) : Int)) = true := by simp [hfeq]
        have HI : Hid _ := hI.skip hlt ef hfeq
        clear hI hD hfeq
        generalize fb L[k] = g at *
        go_wp2_with fail
        go_quiet (fail)
        go_wp2_with fail
        exact ⟨⟨k + 1, t, own', st', sz', by omega, by omega, rfl, by go_num, HI.out.drN nq⟩, by simp [intOf]; omega⟩
      · have hb : (((f.2 : Nat) : Int) == ((f.1.length : Nat) : Int)) = false := by simp; omega
        have hflt : f.2 < f.1.length := by omega
        have hkr := hk1.keptC hI.chg (fun b hb q => q (hko b hb))
        have hst : stays (keepAt ks t) (f.1.length - f.2) ≤ f.1.length - f.2 := by unfold stays; omega
        have hle : f.1.length ≤ sz' := by
          have := sumB_set st' L[k] f ([], 0) ef L hL.nodup (List.getElem_mem hlt)
          rw [hI.sum] at this
          simp at this
          omega
        have hki' : -9223372036854775808 ≤ keepAt ks t ∧ keepAt ks t ≤ 9223372036854775807 := by
          unfold keepAt
          by_cases q : t < ks.length
          · rw [show ks.getD t 0 = ks[t] by simp [q]]; exact hki _ (List.getElem_mem q)
          · rw [show ks.getD t 0 = 0 by simp [Nat.not_lt.1 q]]; omega
        have htear := fun q => tear_any (hD.drN q) ef hflt hfs (keepAt ks t) hki'
        have hstep := fun own2 w2 hd hx hc => hI.tear hL.nodup hlt ef hflt (own2 := own2) (w2 := w2) hd hx hc
        have HST : Hid _ := hstep
        clear hstep
        have hIc := hI.chg
        clear hD hfeq
        generalize hgf : fb L[k] = g at *
        generalize hrm : stays (keepAt ks t) (f.1.length - f.2) = q at *
        by_cases ht : t < ks.length
        · have hka : keepAt ks t = ks[t] := by unfold keepAt; simp [ht]
          rw [hka] at htear
          obtain ⟨ao, cc, eao, _, _, hkc⟩ := hkr
          obtain ⟨ka, eka, hkcell⟩ := hkc t ht
          simp only [Value.slice.injEq, true_and] at eao
          obtain ⟨rfl, rfl⟩ := eao
          subst eka
          clear hkc hka
          go_wp2_with fail
          go_quiet (fail)
          go_wp2_with fail
          go_region_with (first | (go_at_call 75; refine (htear _).mono ?_; rintro e w2 ⟨rfl, ⟨own2, hd2, hx2⟩, hc2⟩; obtain ⟨x1, x2⟩ := hd2.cell1) | fail)
          all_goals go_wp2_with fail
          all_goals
            obtain ⟨y1, y2⟩ := hd2.setSize (sz' - (f.1.length - f.2 - q))
            have ez : ((sz' : Int) - ((f.1.length - f.2 - q : Nat) : Int)) = ((sz' - (f.1.length - f.2 - q) : Nat) : Int) := by omega
            have hc0 : Chg (fun b => own' b ≠ none) wr (wr.drewN (nq + 1)) := (Chg.of_below (Below.dN wr (nq + 1))).mono (fun b hb q => by omega)
            have hc3 : Chg (fun b => own' b ≠ none) wr w2 := hc0.trans (hc2.mono (fun b _ q => Or.inl q))
            have hs3 := hc3.size
            rw [ez]
            exact ⟨⟨k + 1, t + 1, own2, _, _, by omega, by omega, by go_num, by go_num, HST.out own2 _ y1 hx2 (hc3.trans (y2.mono (fun b _ q => hx2 b q)))⟩, by simp [intOf]; omega⟩
        · have hka : keepAt ks t = 0 := by unfold keepAt; simp [Nat.not_lt.1 ht]
          rw [hka] at htear
          clear hka hkr
          go_wp2_with fail
          go_quiet (fail)
          go_wp2_with fail
          go_region_with (first | (go_at_call 75; refine (htear _).mono ?_; rintro e w2 ⟨rfl, ⟨own2, hd2, hx2⟩, hc2⟩; obtain ⟨x1, x2⟩ := hd2.cell1) | fail)
          all_goals go_wp2_with fail
          all_goals
            obtain ⟨y1, y2⟩ := hd2.setSize (sz' - (f.1.length - f.2 - q))
            have ez : ((sz' : Int) - ((f.1.length - f.2 - q : Nat) : Int)) = ((sz' - (f.1.length - f.2 - q) : Nat) : Int) := by omega
            have hc0 : Chg (fun b => own' b ≠ none) wr (wr.drewN (nq + 1)) := (Chg.of_below (Below.dN wr (nq + 1))).mono (fun b hb q => by omega)
            have hc3 : Chg (fun b => own' b ≠ none) wr w2 := hc0.trans (hc2.mono (fun b _ q => Or.inl q))
            have hs3 := hc3.size
            rw [ez]
            exact ⟨⟨k + 1, t + 1, own2, _, _, by omega, by omega, by go_num, by go_num, HST.out own2 _ y1 hx2 (hc3.trans (y2.mono (fun b _ q => hx2 b q)))⟩, by simp [intOf]; omega⟩
    · obtain rfl : k = L.length := by omega
      obtain ⟨m, D, fb, fv, hD⟩ := hI.dk
      have hcd := hD.cell
      have c2 : wr.cell? ⟨d, 2, none⟩ = some may := by rw [cell_of_row _ _ _ _ _ _ hcd]; rfl
      have f2 : wr.frozen? ⟨d, 2, none⟩ = false := frozen_of_row _ _ _ _ _ hcd
      have HI : Hid _ := And.intro hI hD
      clear hI hD
      go_wp2_with fail
      go_end0
      have hfn := HI.out.1.fin
      rw [List.drop_of_length_le (Nat.le_refl _)] at hfn
      simp only [crashF] at hfn
      have hs := hc1.size
      have hset : Dk B d n own' st' sz' (alive d) left (wr.setCell ⟨d, 2, none⟩ (alive d)) := ⟨m, D, fb, fv, HI.out.2.setDisk ((Chg.refl (fun b => b = d) wr).put d 2 _ rfl) (by rw [heap_setCell_same _ _ 2 _ _ _ hcd]; rfl)⟩
      have hdo : own d ≠ none := by obtain ⟨_, _, _, _, h⟩ := h; rw [h.od]; simp
      refine ⟨⟨_, rfl⟩, ⟨own', ?_, fun b hb => ?_⟩, ?_⟩
      · rw [← hfn]; exact hset
      · rcases HI.out.1.ext b hb with q | q
        · exact .inl q
        · exact .inr (by omega)
      · exact (hc1.trans (HI.out.1.chg.mono (fun b _ q => .inl q))).put d 2 _ hdo
end
end Go.Proofs.Ytkgpgfpclcibmaa

/- A program that is one: the first line of each statement about disks. -/
namespace Go.Proofs.Ytkgpgfpclcibmaa
open Go.RowKit Go.Maps
set_option linter.unusedVariables false
set_option maxRecDepth 100000

abbrev St := Nm → Option (List UInt8 × Nat)
def none0 : St := fun _ => none
theorem setF_at (st : St) (s : ByteArray) (x : Option (List UInt8 × Nat)) : setF st s.data.toList x s.data.toList = x := setF_same _ _ _

theorem Below.al (w : World) (o : Obj) : Below w.heap.size w (w.alloc o) := (Below.refl _ _).alloc (Nat.le_refl _) o
theorem Ow.drewN {B : Nat} {w : World} {v : Value} {l : List UInt8} (h : Ow B w v l) (n : Nat) : Ow B (w.drewN n) v l := h.below (below_drewN (Below.refl _ _) n) (Nat.le_refl _)

section
variable {B d n : Nat} {own : Nat → Option Role} {st : Nm → Option (List UInt8 × Nat)} {sz : Nat} {may : Value} {left : Int} {w w' : World}

theorem Dk.below (h : Dk B d n own st sz may left w) (hb : Below w.heap.size w w') : Dk B d n own st sz may left w' :=
  h.next (Chg.of_below hb) (fun b hb' q => by obtain ⟨_, _, _, _, h⟩ := h; have := (h.lo b hb').2; omega)
theorem Dk.lt (h : Dk B d n own st sz may left w) : ∀ b, own b ≠ none → B ≤ b ∧ b < w.heap.size := by obtain ⟨_, _, _, _, h⟩ := h; exact h.lo
theorem Dk.leB (h : Dk B d n own st sz may left w) : B ≤ w.heap.size := by
  obtain ⟨_, _, _, _, h⟩ := h
  have := h.lo d (by rw [h.od]; simp)
  omega
theorem Dk.chg (h : Dk B d n own st sz may left w) (hc : Chg (fun b => own b ≠ none) w w') : Below B w w' := hc.below (fun b hb => (h.lt b hb).1) h.leB
end

theorem rd_lit2 (w : World) (a b : Int) (x y : UInt8) (ha : a = (x.toNat : Int)) (hb : b = (y.toNat : Int)) (t : TypeId) : Rd (w.alloc (.cells #[.int .u8 a, .int .u8 b] t)) (.slice (some ⟨w.heap.size, 0, none⟩) 2 2) [x, y] := by
  subst ha; subst hb
  refine Rd.mk rfl (by simp) (by simp [maxLen]) (fun i hi => ?_)
  have hi' : i = 0 ∨ i = 1 := by simp at hi; omega
  rcases hi' with rfl | rfl
  · rw [Addr.add_lit, World.cell?_alloc_at _ _ _ _ rfl]; rfl
  · rw [Addr.add_lit, World.cell?_alloc_at _ _ _ _ rfl]; rfl
theorem rd_lit3 (w : World) (a b c : Int) (x y z : UInt8) (ha : a = (x.toNat : Int)) (hb : b = (y.toNat : Int)) (hc : c = (z.toNat : Int)) (t : TypeId) : Rd (w.alloc (.cells #[.int .u8 a, .int .u8 b, .int .u8 c] t)) (.slice (some ⟨w.heap.size, 0, none⟩) 3 3) [x, y, z] := by
  subst ha; subst hb; subst hc
  refine Rd.mk rfl (by simp) (by simp [maxLen]) (fun i hi => ?_)
  have hi' : i = 0 ∨ i = 1 ∨ i = 2 := by simp at hi; omega
  rcases hi' with rfl | rfl | rfl
  · rw [Addr.add_lit, World.cell?_alloc_at _ _ _ _ rfl]; rfl
  · rw [Addr.add_lit, World.cell?_alloc_at _ _ _ _ rfl]; rfl
  · rw [Addr.add_lit, World.cell?_alloc_at _ _ _ _ rfl]; rfl
theorem rdI_lit1 (w : World) (x : Int) (t : TypeId) : RdI (w.alloc (.cells #[.int .i64 x] t)) (.slice (some ⟨w.heap.size, 0, none⟩) 1 1) [x] := by
  refine ⟨_, _, rfl, by simp, by simp [maxLen], fun i hi => ⟨_, rfl, ?_⟩⟩
  obtain rfl : i = 0 := by simpa using hi
  rw [Addr.add_lit, World.cell?_alloc_at _ _ _ _ rfl]; rfl
theorem rdI_lit2 (w : World) (x y : Int) (t : TypeId) : RdI (w.alloc (.cells #[.int .i64 x, .int .i64 y] t)) (.slice (some ⟨w.heap.size, 0, none⟩) 2 2) [x, y] := by
  refine ⟨_, _, rfl, by simp, by simp [maxLen], fun i hi => ⟨_, rfl, ?_⟩⟩
  have hi' : i = 0 ∨ i = 1 := by simp at hi; omega
  rcases hi' with rfl | rfl
  · rw [Addr.add_lit, World.cell?_alloc_at _ _ _ _ rfl]; rfl
  · rw [Addr.add_lit, World.cell?_alloc_at _ _ _ _ rfl]; rfl

/-- One file, named a. -/
def stA (b : List UInt8) (k : Nat) : St := setF none0 [97] (some (b, k))
theorem stA_at (b : List UInt8) (k : Nat) : stA b k [97] = some (b, k) := setF_same _ _ _
theorem stA_set (b c : List UInt8) (k j : Nat) : setF (stA b k) [97] (some (c, j)) = stA c j := setF_setF _ _ _ _
theorem stA_names (b : List UInt8) (k : Nat) : NamesOf (stA b k) [[97]] := by
  refine ⟨fun nm => ?_, by simp, by simp⟩
  by_cases h : nm = [97]
  · subst h; simp [stA_at]
  · simp [h, stA, setF_other _ _ h, none0]
theorem stA_small (b : List UInt8) (k : Nat) (hb : b.length ≤ 16777216) : ∀ nm f, stA b k nm = some f → f.1.length ≤ 16777216 := by
  intro nm f e
  by_cases h : nm = [97]
  · subst h; rw [stA_at] at e; obtain rfl := Option.some.inj e; exact hb
  · simp [stA, setF_other _ _ h, none0] at e
theorem stA_crash : crashF [[97]] [1] 0 (stA [1, 2, 3, 4] 2) 4 = (stA [1, 2, 3] 3, 3) := by
  simp [crashF, stA_at, stA_set, stays, keepAt]

set_option maxHeartbeats 2000000 in
theorem awake_any (w : World) : Calls Try.prog 9 #[] w fun e w' => e = .returned (.bool true) ∧ Below w.heap.size w w' := by
  go_enter Try.func9, Try.ntmps9
  go_wp2_with fail
  refine (new_any w).mono ?_
  rintro e w1 ⟨d, own, rfl, hd1, hb1⟩
  go_wp2_with fail
  refine (write_new (hd1.below (Below.al w1 _)) ⟨#[97]⟩ (by decide) (by decide) rfl (rd_lit2 w1 1 2 1 2 rfl rfl _) (by simp) (by omega)).mono ?_
  rintro e w2 ⟨rfl, ⟨own2, hd2, _⟩, hc2⟩
  replace hd2 : Dk w.heap.size d 1 own2 (stA [1, 2] 0) 2 (alive d) 0 w2 := hd2
  have hb2 := (hd1.below (Below.al w1 (.cells #[.int .u8 1, .int .u8 2] 5))).chg hc2
  have hB1 := hd1.leB
  have h02 : Below w.heap.size w w2 := (hb1.trans ((Below.al w1 _).mono hB1)).trans hb2
  clear hc2 hb2
  go_wp2_with fail
  refine (sync_alive hd2 ⟨#[97]⟩ (by simp [ByteArray.size, maxLen]) ([1, 2], 0) (stA_at _ _)).mono ?_
  rintro e w3 ⟨rfl, ⟨own3, hd3, _⟩, hc3⟩
  replace hd3 : Dk w.heap.size d 1 own3 (setF (stA [1, 2] 0) [97] (some ([1, 2], 2))) 2 (alive d) 0 w3 := hd3
  rw [stA_set] at hd3
  have h03 := h02.trans (hd2.chg hc3)
  clear hc3
  go_wp2_with fail
  refine (write_there (hd3.below (Below.al w3 _)) ⟨#[97]⟩ (by decide) (by decide) ([1, 2], 2) (stA_at _ _) (rd_lit2 w3 3 4 3 4 rfl rfl _) (by simp) (by simp)).mono ?_
  rintro e w4 ⟨rfl, ⟨own4, hd4, _⟩, hc4⟩
  replace hd4 : Dk w.heap.size d 1 own4 (setF (stA [1, 2] 2) [97] (some ([1, 2, 3, 4], 2))) 4 (alive d) 0 w4 := hd4
  rw [stA_set] at hd4
  have h04 := (h03.trans ((Below.al w3 (.cells #[.int .u8 3, .int .u8 4] 5)).mono hd3.leB)).trans ((hd3.below (Below.al w3 _)).chg hc4)
  clear hc4
  have hko : ∀ b, (Value.slice (some ⟨w4.heap.size, 0, none⟩) 1 1).ownBlock = some b → own4 b = none := fun b e => by
    by_cases q : own4 b = none
    · exact q
    · have := (hd4.lt b q).2
      have e2 : w4.heap.size = b := by simpa [Value.ownBlock] using e
      omega
  go_wp2_with fail
  refine (crash_any (hd4.below (Below.al w4 _)) (stA_names _ _) (by omega) (by simp [sumB, stA_at]) (stA_small _ _ (by simp)) (by omega) (by simp) (rdI_lit1 w4 1 _) hko (by simp)).mono ?_
  rintro e w5 ⟨⟨v5, rfl⟩, ⟨own5, hd5, _⟩, hc5⟩
  rw [stA_crash] at hd5
  have h05 := (h04.trans ((Below.al w4 (.cells #[.int .i64 1] 3)).mono hd4.leB)).trans ((hd4.below (Below.al w4 _)).chg hc5)
  clear hc5
  go_wp2_with fail
  refine (read_alive hd5 ⟨#[97]⟩ (by simp [ByteArray.size, maxLen]) ([1, 2, 3], 3) (stA_at _ _) (by simp)).mono ?_
  rintro e w6 ⟨v6, rfl, ho6, hb6⟩
  have h06 := h05.trans (hb6.mono hd5.leB)
  have hB6 := h06.size
  go_wp2_with fail
  refine (same_any (ho6.rd.alloc _) (rd_lit3 w6 1 2 3 1 2 3 rfl rfl rfl _)).mono ?_
  rintro e w7 ⟨rfl, k7, rfl⟩
  rw [decide_eq_true rfl]
  go_wp2_with fail
  go_ret
  have h07 := h06.trans ((Below.al w6 (.cells #[.int .u8 1, .int .u8 2, .int .u8 3] 5)).mono hB6)
  exact ⟨rfl, h07.trans ((Below.dN _ k7).mono h07.size)⟩
end Go.Proofs.Ytkgpgfpclcibmaa

/- What drop does: a file is gone, if it is there. -/
namespace Go.Proofs.Ytkgpgfpclcibmaa
open Go.RowKit
set_option linter.unusedVariables false
set_option maxRecDepth 100000

section
variable {B d n : Nat} {own : Nat → Option Role} {st : Nm → Option (List UInt8 × Nat)} {sz : Nat} {may : Value} {left : Int} {w : World}

set_option maxHeartbeats 1000000 in
theorem drop_there (h : Dk B d n own st sz may left w) (s : ByteArray) (hs : s.size ≤ maxLen) (f : List UInt8 × Nat) (e : st s.data.toList = some f) (hf : f.1.length ≤ sz) (hz : sz ≤ 1099511627776) :
    Calls Try.prog 79 #[.pointer (some ⟨d, 0, none⟩), .string s] w fun e w' => (∃ v, e = .returned v) ∧ Dk B d n (strike own s.data.toList) (setF st s.data.toList none) (sz - f.1.length) may left w' ∧ Chg (fun b => own b = some .disk ∨ own b = some .map) w w' := by
  obtain ⟨m, D, fb, fv, h⟩ := h
  have c0 : w.cell? ⟨d, 0, none⟩ = some (.map (some m)) := by rw [cell_of_row _ _ _ _ _ _ h.cell]; rfl
  have c1 : w.cell? ⟨d, 1, none⟩ = some (.int .i64 (sz : Int)) := by rw [cell_of_row _ _ _ _ _ _ h.cell]; rfl
  have z1 : w.frozen? ⟨d, 1, none⟩ = false := frozen_of_row _ _ _ _ _ h.cell
  have hrun := h.look s hs f e
  obtain ⟨fa, fc, efv, hln, f0, f1, hfz, hrd⟩ := h.fcell e
  clear hfz efv hrd f1
  have hkey := WideMaps.keyOf_string_mk (P := Try.prog) (k := 9) Try.underlying9 hs
  have hdm : m ≠ d := fun q => by have := h.od; rw [← q, h.om] at this; cases this
  have hmap : ∀ v, (w.setCell ⟨d, 1, none⟩ v).drew.ownsMap Try.prog 9 flE m n D := fun v => (h.map.setCell (a := ⟨d, 1, none⟩) hdm v).drew
  have hset := h.setDisk (sz' := sz - f.1.length) (may' := may) (left' := left) ((Chg.refl (fun b => b = d) w).put d 1 (.int .i64 ((sz - f.1.length : Nat) : Int)) rfl) (by rw [heap_setCell_same _ _ 1 _ _ _ h.cell]; rfl)
  have H : Hid _ := And.intro hset (And.intro h.od h.om)
  have ez : ((sz : Int) - (f.1.length : Int)) = ((sz - f.1.length : Nat) : Int) := by omega
  clear h hset
  generalize fb s.data.toList = g at *
  go_enter Try.func79, Try.ntmps79
  go_wp2_with fail
  go_region
  all_goals go_wp2_with (first | (at_delete; refine wpList_delete_own _ rfl _ _ 75 9 rfl 124 Try.strKeyed Try.underlying75 flE m n D rfl (hmap _) _ _ rfl hkey ?_; intro w1 hown1 hturn1) | fail)
  all_goals go_end0
  all_goals
    have hd := (H.out.1.drN 1).del s.data.toList (Chg.of_grown hturn1.grown (fun b q _ => (Option.some.inj q).symm)) hown1
    refine ⟨⟨_, rfl⟩, ⟨_, _, _, _, hd⟩, ?_⟩
    have hc1 : Chg (fun b => own b = some .disk ∨ own b = some .map) w ((w.setCell ⟨d, 1, none⟩ (.int .i64 ((sz - f.1.length : Nat) : Int))).drewN 1) := ((Chg.refl _ w).put d 1 _ (Or.inl H.out.2.1)).dN 1
    exact hc1.trans (Chg.of_grown hturn1.grown (fun b q _ => by obtain rfl := Option.some.inj q; exact Or.inl (Or.inr H.out.2.2)))

theorem drop_not (h : Dk B d n own st sz may left w) (s : ByteArray) (hs : s.size ≤ maxLen) (e : st s.data.toList = none) :
    Calls Try.prog 79 #[.pointer (some ⟨d, 0, none⟩), .string s] w fun e w' => (∃ v, e = .returned v) ∧ ∃ q, w' = w.drewN q := by
  obtain ⟨m, D, fb, fv, h⟩ := h
  have c0 : w.cell? ⟨d, 0, none⟩ = some (.map (some m)) := by rw [cell_of_row _ _ _ _ _ _ h.cell]; rfl
  have hrun := h.look_no s hs e
  go_enter Try.func79, Try.ntmps79
  go_wp2_with fail
  go_end0
  exact ⟨⟨_, rfl⟩, 0, rfl⟩

/-- What Rename would answer. -/
def rErr (st : Nm → Option (List UInt8 × Nat)) (s t : ByteArray) : Nat := if st s.data.toList = none then 20 else if ¬ (1 ≤ t.size ∧ t.size ≤ 64) then 1 else 0

theorem refuseRename_any (h : Dk B d n own st sz may left w) (s t : ByteArray) (hs : s.size ≤ maxLen) :
    Calls Try.prog 81 #[.pointer (some ⟨d, 0, none⟩), .string s, .string t] w fun e w' => e = .returned (.int .i64 (rErr st s t : Int)) ∧ ∃ q, w' = w.drewN q := by
  have hrf := refuseFile_any h s hs
  unfold rErr
  by_cases e : st s.data.toList = none
  · rw [if_pos e] at hrf
    rw [if_pos e]
    go_enter Try.func81, Try.ntmps81
    go_wp2_with fail
    refine hrf.mono ?_
    rintro e w1 ⟨rfl, q1, rfl⟩
    go_wp2_with fail
    go_ret
    exact ⟨rfl, _, rfl⟩
  · rw [if_neg e] at hrf
    rw [if_neg e]
    have hgn := fun w => goodName_any t w
    by_cases hg : 1 ≤ t.size ∧ t.size ≤ 64
    · rw [if_neg (by simpa using hg)]
      simp only [decide_eq_true hg] at hgn
      go_enter Try.func81, Try.ntmps81
      go_wp2_with fail
      refine hrf.mono ?_
      rintro e w1 ⟨rfl, q1, rfl⟩
      go_wp2_with fail
      refine (hgn _).mono ?_
      rintro e w2 ⟨rfl, rfl⟩
      go_wp2_with fail
      go_ret
      exact ⟨rfl, _, rfl⟩
    · rw [if_pos hg]
      simp only [decide_eq_false hg] at hgn
      go_enter Try.func81, Try.ntmps81
      go_wp2_with fail
      refine hrf.mono ?_
      rintro e w1 ⟨rfl, q1, rfl⟩
      go_wp2_with fail
      refine (hgn _).mono ?_
      rintro e w2 ⟨rfl, rfl⟩
      go_wp2_with fail
      go_ret
      exact ⟨rfl, _, rfl⟩

theorem size_alive (h : Dk B d n own st sz (alive d) left w) :
    Calls Try.prog 52 #[.pointer (some ⟨d, 0, none⟩)] w fun e w' => e = .returned (.int .i64 (sz : Int)) ∧ ∃ q, w' = w.drewN q := by
  have hc := h.cell1.1
  go_enter Try.func52, Try.ntmps52
  go_wp2_with fail
  refine (dead_alive h).mono ?_
  rintro e w1 ⟨rfl, q1, rfl⟩
  go_wp2_with fail
  go_ret
  exact ⟨rfl, _, rfl⟩
end
end Go.Proofs.Ytkgpgfpclcibmaa

/- What an armed and a dead disk let through. -/
namespace Go.Proofs.Ytkgpgfpclcibmaa
open Go.RowKit
set_option linter.unusedVariables false
set_option maxRecDepth 100000

/-- The values of the methods 'armed' and 'dead' of the disk in block d. -/
def armed (d : Nat) : Value := .func (.func 82) #[.pointer (some ⟨d, 0, none⟩)] #[]
def dead (d : Nat) : Value := .func (.func 95) #[.pointer (some ⟨d, 0, none⟩)] #[]

section
variable {B d n : Nat} {own : Nat → Option Role} {st : Nm → Option (List UInt8 × Nat)} {sz : Nat} {may : Value} {left : Int} {w : World}

theorem dead_any (d : Nat) (x y : Int) (w : World) : Calls Try.prog 95 #[.pointer (some ⟨d, 0, none⟩), .int .i64 x, .int .i64 y] w fun e w' => e = .returned (.int .i64 21) ∧ w' = w := by
  go_enter Try.func95, Try.ntmps95
  go_wp2
  go_ret
  exact ⟨rfl, rfl⟩

/-- A look, or what is refused anyway. -/
theorem armed_pass (d : Nat) (x y : Int) (w : World) (h : x = 0 ∨ y ≠ 0) : Calls Try.prog 82 #[.pointer (some ⟨d, 0, none⟩), .int .i64 x, .int .i64 y] w fun e w' => e = .returned (.int .i64 y) ∧ w' = w := by
  by_cases hx : x = 0
  · subst hx
    go_enter Try.func82, Try.ntmps82
    go_wp2
    go_ret
    exact ⟨rfl, rfl⟩
  · have hy : y ≠ 0 := by rcases h with q | q; exact absurd q hx; exact q
    have hx' : (x == 0) = false := by simpa using hx
    have hy' : (y != 0) = true := by simpa using hy
    go_enter Try.func82, Try.ntmps82
    go_wp2
    go_ret
    exact ⟨rfl, rfl⟩

theorem Dk.cell3 (h : Dk B d n own st sz may left w) : w.cell? ⟨d, 3, none⟩ = some (.int .i64 left) ∧ w.frozen? ⟨d, 3, none⟩ = false ∧ w.cell? ⟨d, 2, none⟩ = some may ∧ w.frozen? ⟨d, 2, none⟩ = false := by
  obtain ⟨m, D, fb, fv, h⟩ := h
  exact ⟨by rw [cell_of_row _ _ _ _ _ _ h.cell]; rfl, frozen_of_row _ _ _ _ _ h.cell, by rw [cell_of_row _ _ _ _ _ _ h.cell]; rfl, frozen_of_row _ _ _ _ _ h.cell⟩
theorem Dk.setLeft (h : Dk B d n own st sz may left w) (k : Int) : Dk B d n own st sz may k (w.setCell ⟨d, 3, none⟩ (.int .i64 k)) := by
  obtain ⟨m, D, fb, fv, h⟩ := h
  exact ⟨m, D, fb, fv, h.setDisk ((Chg.refl (fun b => b = d) w).put d 3 _ rfl) (by rw [heap_setCell_same _ _ 3 _ _ _ h.cell]; rfl)⟩
theorem Dk.setMay (h : Dk B d n own st sz may left w) (v : Value) : Dk B d n own st sz v left (w.setCell ⟨d, 2, none⟩ v) := by
  obtain ⟨m, D, fb, fv, h⟩ := h
  exact ⟨m, D, fb, fv, h.setDisk ((Chg.refl (fun b => b = d) w).put d 2 _ rfl) (by rw [heap_setCell_same _ _ 2 _ _ _ h.cell]; rfl)⟩
theorem Dk.chgD (h : Dk B d n own st sz may left w) (i : Nat) (v : Value) : Chg (fun b => own b ≠ none) w (w.setCell ⟨d, i, none⟩ v) := by
  obtain ⟨m, D, fb, fv, h⟩ := h
  exact (Chg.refl _ w).put d i v (by rw [h.od]; simp)

/-- One change more. -/
theorem armed_ok {L : Nat} (h : Dk B d n own st sz may ((L + 1 : Nat) : Int) w) (hL : L ≤ 9223372036854775806) : Calls Try.prog 82 #[.pointer (some ⟨d, 0, none⟩), .int .i64 1, .int .i64 0] w fun e w' => e = .returned (.int .i64 0) ∧ w' = w.setCell ⟨d, 3, none⟩ (.int .i64 (L : Int)) := by
  obtain ⟨c3, z3, _, _⟩ := h.cell3
  have hne : (((L + 1 : Nat) : Int) == 0) = false := by simp; omega
  have he : ((L + 1 : Nat) : Int) - 1 = (L : Int) := by omega
  generalize ((L + 1 : Nat) : Int) = K at *
  go_enter Try.func82, Try.ntmps82
  go_wp2
  go_ret
  exact ⟨rfl, rfl⟩

/-- The change at which it dies. -/
theorem armed_dies (h : Dk B d n own st sz may 0 w) : Calls Try.prog 82 #[.pointer (some ⟨d, 0, none⟩), .int .i64 1, .int .i64 0] w fun e w' => e = .returned (.int .i64 21) ∧ w' = w.setCell ⟨d, 2, none⟩ (dead d) := by
  obtain ⟨c3, z3, c2, z2⟩ := h.cell3
  go_enter Try.func82, Try.ntmps82
  go_wp2
  go_ret
  exact ⟨rfl, rfl⟩

/-- Dead. -/
theorem deadQ_armed (h : Dk B d n own st sz (armed d) left w) :
    Calls Try.prog 54 #[.pointer (some ⟨d, 0, none⟩)] w fun e w' => e = .returned (.bool false) ∧ ∃ q, w' = w.drewN q := by
  obtain ⟨_, _, c2, _⟩ := h.cell3
  unfold armed at c2
  go_enter Try.func54, Try.ntmps54
  go_wp2_with fail
  refine (armed_pass _ _ _ _ (Or.inl rfl)).mono ?_
  rintro e w1 ⟨rfl, rfl⟩
  go_wp2_with fail
  go_ret
  exact ⟨rfl, 0, rfl⟩
theorem deadQ_dead (h : Dk B d n own st sz (dead d) left w) :
    Calls Try.prog 54 #[.pointer (some ⟨d, 0, none⟩)] w fun e w' => e = .returned (.bool true) ∧ ∃ q, w' = w.drewN q := by
  obtain ⟨_, _, c2, _⟩ := h.cell3
  unfold dead at c2
  go_enter Try.func54, Try.ntmps54
  go_wp2_with fail
  refine (dead_any _ _ _ _).mono ?_
  rintro e w1 ⟨rfl, rfl⟩
  go_wp2_with fail
  go_ret
  exact ⟨rfl, 0, rfl⟩
/-- Names of a dead disk. -/
theorem namesQ_dead (h : Dk B d n own st sz (dead d) left w) :
    Calls Try.prog 50 #[.pointer (some ⟨d, 0, none⟩)] w fun e w' => e = .returned (.slice none 0 0) ∧ ∃ q, w' = w.drewN q := by
  go_enter Try.func50, Try.ntmps50
  go_wp2_with fail
  refine (deadQ_dead h).mono ?_
  rintro e w1 ⟨rfl, q1, rfl⟩
  go_wp2_with fail
  go_ret
  exact ⟨rfl, _, rfl⟩
/-- Read and Sync of a dead disk. -/
theorem read_dead (h : Dk B d n own st sz (dead d) left w) (s : ByteArray) (hs : s.size ≤ maxLen) :
    Calls Try.prog 34 #[.pointer (some ⟨d, 0, none⟩), .string s] w fun e w' => e = .returned (.tuple #[.slice none 0 0, .int .i64 21]) ∧ ∃ q, w' = w.drewN q := by
  have hrf := fun q => refuseFile_any (h.drN q) s hs
  obtain ⟨_, _, c2, _⟩ := h.cell3
  unfold dead at c2
  generalize hv : (if st s.data.toList = none then (20 : Int) else 0) = v at hrf
  go_enter Try.func34, Try.ntmps34
  go_wp2_with fail
  go_quiet (first | (go_at_call 73; refine Calls.quiet_of (v := .int .i64 v) (hrf _)) | (go_at_call 95; refine Calls.quiet_of_same (v := .int .i64 21) (dead_any _ _ _ _)) | fail)
  go_wp2_with fail
  go_ret2
  exact ⟨rfl, _, rfl⟩
theorem sync_dead (h : Dk B d n own st sz (dead d) left w) (s : ByteArray) (hs : s.size ≤ maxLen) :
    Calls Try.prog 32 #[.pointer (some ⟨d, 0, none⟩), .string s] w fun e w' => e = .returned (.int .i64 21) ∧ ∃ q, w' = w.drewN q := by
  have hrf := fun q => refuseFile_any (h.drN q) s hs
  obtain ⟨_, _, c2, _⟩ := h.cell3
  unfold dead at c2
  generalize hv : (if st s.data.toList = none then (20 : Int) else 0) = v at hrf
  go_enter Try.func32, Try.ntmps32
  go_wp2_with fail
  go_quiet (first | (go_at_call 73; refine Calls.quiet_of (v := .int .i64 v) (hrf _)) | (go_at_call 95; refine Calls.quiet_of_same (v := .int .i64 21) (dead_any _ _ _ _)) | fail)
  go_wp2_with fail
  go_ret
  exact ⟨rfl, _, rfl⟩

/-- Arm of a living disk. -/
theorem arm_alive (h : Dk B d n own st sz (alive d) left w) (k : Int) (hk : -9223372036854775808 ≤ k ∧ k ≤ 9223372036854775807) :
    Calls Try.prog 45 #[.pointer (some ⟨d, 0, none⟩), .int .i64 k] w fun e w' => (∃ v, e = .returned v) ∧ Dk B d n own st sz (armed d) (max k 0) w' ∧ Chg (fun b => own b ≠ none) w w' := by
  obtain ⟨c3, z3, c2, z2⟩ := h.cell3
  have c2' : ∀ v, (w.setCell ⟨d, 3, none⟩ v).cell? ⟨d, 2, none⟩ = some (alive d) := fun v => by
    rw [show (w.setCell ⟨d, 3, none⟩ v).cell? ⟨d, 2, none⟩ = w.cell? ⟨d, 2, none⟩ from World.cell?_setCell_other _ _ _ _ (by simp)]; exact c2
  have hfin := ((h.setLeft (max k 0)).setMay (armed d))
  have hchg : Chg (fun b => own b ≠ none) w ((w.setCell ⟨d, 3, none⟩ (.int .i64 (max k 0))).setCell ⟨d, 2, none⟩ (armed d)) := (h.chgD 3 _).trans (((h.setLeft (max k 0)).chgD 2 _).mono (fun b _ q => Or.inl q))
  have H : Hid _ := And.intro hfin hchg
  clear hfin hchg
  go_enter Try.func45, Try.ntmps45
  go_wp2_with fail
  refine (dead_alive h).mono ?_
  rintro e w1 ⟨rfl, q1, rfl⟩
  go_wp2_with fail
  go_end0
  exact ⟨⟨_, rfl⟩, H.out.1.drN q1, H.out.2.dN q1⟩
end
end Go.Proofs.Ytkgpgfpclcibmaa

/- The gate of an armed disk, as the four calls that change it meet it. -/
namespace Go.Proofs.Ytkgpgfpclcibmaa
open Go.RowKit
set_option linter.unusedVariables false
set_option maxRecDepth 100000

section
variable {B d n : Nat} {own : Nat → Option Role} {st : Nm → Option (List UInt8 × Nat)} {sz : Nat} {may : Value} {left : Int} {w : World}

theorem Chg.dNo (S : Nat → Prop) (w : World) (q : Nat) : Chg S w (w.drewN q) := ⟨rfl, rfl, rfl, Nat.le_refl _, fun _ _ _ => rfl⟩

theorem gate_dies (h : Dk B d n own st sz may 0 w) (q : Nat) : Calls Try.prog 82 #[.pointer (some ⟨d, 0, none⟩), .int .i64 1, .int .i64 0] (w.drewN q) fun e w' => e = .returned (.int .i64 21) ∧ Dk B d n own st sz (dead d) 0 w' ∧ Chg (fun b => own b ≠ none) w w' := by
  refine (armed_dies (h.drN q)).mono ?_
  rintro e w' ⟨rfl, rfl⟩
  exact ⟨rfl, (h.drN q).setMay _, (Chg.dNo _ w q).trans (((h.drN q).chgD 2 _).mono (fun b _ q => Or.inl q))⟩

/-- The disk behind the gate. -/
theorem gate_ok {L : Nat} (h : Dk B d n own st sz may ((L + 1 : Nat) : Int) w) (hL : L ≤ 9223372036854775806) :
    ∃ W, Dk B d n own st sz may (L : Int) W ∧ Chg (fun b => own b ≠ none) w W ∧ W.heap.size = w.heap.size ∧ ∀ q, Calls Try.prog 82 #[.pointer (some ⟨d, 0, none⟩), .int .i64 1, .int .i64 0] (w.drewN q) fun e w' => e = .returned (.int .i64 0) ∧ ∃ k, w' = W.drewN k := by
  refine ⟨w.setCell ⟨d, 3, none⟩ (.int .i64 (L : Int)), h.setLeft _, h.chgD 3 _, by simp, fun q => ?_⟩
  refine (armed_ok (h.drN q) hL).mono ?_
  rintro e w' ⟨rfl, rfl⟩
  exact ⟨rfl, q, rfl⟩
end
end Go.Proofs.Ytkgpgfpclcibmaa

/- Sync and Remove of an armed disk. -/
namespace Go.Proofs.Ytkgpgfpclcibmaa
open Go.RowKit
set_option linter.unusedVariables false
set_option maxRecDepth 100000

section
variable {B d n : Nat} {own : Nat → Option Role} {st : Nm → Option (List UInt8 × Nat)} {sz : Nat} {left : Int} {w : World}

theorem sync_err (h : Dk B d n own st sz (armed d) left w) (s : ByteArray) (hs : s.size ≤ maxLen) (e : st s.data.toList = none) :
    Calls Try.prog 32 #[.pointer (some ⟨d, 0, none⟩), .string s] w fun e w' => e = .returned (.int .i64 20) ∧ ∃ q, w' = w.drewN q := by
  have hrf := fun q => refuseFile_any (h.drN q) s hs
  simp only [e, if_true] at hrf
  obtain ⟨_, _, c2, _⟩ := h.cell3
  unfold armed at c2
  go_enter Try.func32, Try.ntmps32
  go_wp2_with fail
  go_quiet (first | (go_at_call 73; refine Calls.quiet_of (v := .int .i64 20) (hrf _)) | (go_at_call 82; refine Calls.quiet_of_same (v := .int .i64 20) (armed_pass _ _ _ _ (Or.inr (by decide)))) | fail)
  go_wp2_with fail
  go_ret
  exact ⟨rfl, _, rfl⟩

theorem sync_dies (h : Dk B d n own st sz (armed d) 0 w) (s : ByteArray) (hs : s.size ≤ maxLen) (f : List UInt8 × Nat) (e : st s.data.toList = some f) :
    Calls Try.prog 32 #[.pointer (some ⟨d, 0, none⟩), .string s] w fun e w' => e = .returned (.int .i64 21) ∧ Dk B d n own st sz (dead d) 0 w' ∧ Chg (fun b => own b ≠ none) w w' := by
  have hrf := fun q => refuseFile_any (h.drN q) s hs
  simp only [e, if_neg (show ¬ (some f = none) by simp)] at hrf
  obtain ⟨_, _, c2, _⟩ := h.cell3
  unfold armed at c2
  have hds := fun q => gate_dies h q
  go_enter Try.func32, Try.ntmps32
  go_wp2_with fail
  go_region_with (first | (go_at_call 73; refine (hrf _).mono ?_; rintro e w1 ⟨rfl, k1, rfl⟩) | (go_at_call 82; refine (hds _).mono ?_; rintro e w2 ⟨rfl, hd2, hc2⟩) | fail)
  all_goals go_wp2_with fail
  all_goals go_ret
  all_goals exact ⟨rfl, hd2, hc2⟩

theorem sync_ok {L : Nat} (h : Dk B d n own st sz (armed d) ((L + 1 : Nat) : Int) w) (hL : L ≤ 9223372036854775806) (s : ByteArray) (hs : s.size ≤ maxLen) (f : List UInt8 × Nat) (e : st s.data.toList = some f) :
    Calls Try.prog 32 #[.pointer (some ⟨d, 0, none⟩), .string s] w fun e w' => e = .returned (.int .i64 0) ∧ (∃ own', Dk B d n own' (setF st s.data.toList (some (f.1, f.1.length))) sz (armed d) (L : Int) w' ∧ ∀ b, own' b ≠ none → own b ≠ none ∨ w.heap.size ≤ b) ∧ Chg (fun b => own b ≠ none) w w' := by
  have hrf := fun q => refuseFile_any (h.drN q) s hs
  simp only [e, if_neg (show ¬ (some f = none) by simp)] at hrf
  obtain ⟨_, _, c2, _⟩ := h.cell3
  unfold armed at c2
  obtain ⟨W, hD, hcW, hsW, hgt⟩ := gate_ok h hL
  clear h
  obtain ⟨m, D, fb, fv, h⟩ := hD
  have c0 : W.cell? ⟨d, 0, none⟩ = some (.map (some m)) := by rw [cell_of_row _ _ _ _ _ _ h.cell]; rfl
  have hrun := fun q => (h.drN q).look s hs f e
  obtain ⟨fa, fc, efv, hln, f0, f1, hfz, hrd⟩ := h.fcell e
  have hfz1 := hfz 1
  have H : Hid _ := And.intro h (And.intro efv hrd)
  clear h hfz efv hrd
  generalize hnm : s.data.toList = nm at *
  generalize hg : fb nm = g at *
  have HG : Hid _ := hg
  clear hg
  go_enter Try.func32, Try.ntmps32
  go_wp2_with fail
  go_region_with (first | (go_at_call 73; refine (hrf _).mono ?_; rintro e w1 ⟨rfl, k1, rfl⟩) | (go_at_call 82; refine (hgt _).mono ?_; rintro e w2 ⟨rfl, nq, rfl⟩) | fail)
  all_goals go_wp2_with fail
  all_goals go_ret
  all_goals
    subst hnm
    have h0 := H.out.1.setSync e f.1.length (Nat.le_refl _)
    rw [HG.out] at h0
    obtain ⟨⟨own', q1, q2⟩, q3⟩ := h0
    exact ⟨rfl, ⟨own', q1.drN nq, fun b hb => by rcases q2 b hb with q | q; exact Or.inl q; exact Or.inr (by omega)⟩, (hcW.trans (q3.mono (fun b _ q => Or.inl q))).dN nq⟩
end
end Go.Proofs.Ytkgpgfpclcibmaa
