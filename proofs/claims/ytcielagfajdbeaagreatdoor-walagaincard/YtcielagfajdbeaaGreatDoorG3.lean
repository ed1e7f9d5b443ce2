/- The library's own 'slices.Sorted(maps.Keys(m))' at this program: contracts of the shelf, laid by its commands in plain words. -/
import Derived.Shelf.SlIter.Nil
import Derived.Shelf.SortM.Plain
import Derived.Shelf.SortM.SortNone
import Derived.Test.YtcielagfajdbeaaGreatDoorProg
import Derived.Test.YtcielagfajdbeaaGreatDoorG2
import Derived.Sort.KeysCollected
import Derived.Test.YtcielagfajdbeaaGreatDoorG1
import Derived.ProofKit
import Derived.OpenShut
import Derived.ChangeOld
import Derived.SizedLaws
import Derived.Lib.SliceRun
namespace Go.Proofs.YtcielagfajdbeaaGreatDoor
open Go.RowKit Go.Maps Go.Sort Go.Shelf

def Tryz.keys73_ren : Go.Shelf.Ren := ⟨fun | 7 => 73 | 10 => 91 | n => n, fun | 23 => 64 | 26 => 9 | 3 => 84 | 28 => 114 | 0 => 0 | 27 => 113 | 33 => 102 | 4 => 4 | n => n, fun | n => n⟩
theorem Tryz.keys73 : Go.Proofs.SlLaysZ.n7 Tryz.prog Tryz.keys73_ren := {
  mixed := by kernel_rfl
  f7 := ⟨Tryz.f73.name, by decide, Tryz.func73.trans (congrArg some (by kernel_rfl))⟩
  f10 := ⟨Tryz.f91.name, by decide, Tryz.func91.trans (congrArg some (by kernel_rfl))⟩
  t0 := Tryz.underlying0
  a0 := Tryz.isAgg0
  z0 := Tryz.sizeOf0
  v0 := Tryz.zeroValue0
  t4 := Tryz.underlying4
  a4 := Tryz.isAgg4
  z4 := Tryz.sizeOf4
  v4 := Tryz.zeroValue4
  t23 := Tryz.underlying64
  a23 := Tryz.isAgg64
  z23 := Tryz.sizeOf64
  v23 := Tryz.zeroValue64
  t26 := Tryz.underlying9
  a26 := Tryz.isAgg9
  z26 := Tryz.sizeOf9
  v26 := Tryz.zeroValue9
  t27 := Tryz.underlying113
  a27 := Tryz.isAgg113
  z27 := Tryz.sizeOf113
  v27 := Tryz.zeroValue113
  t28 := Tryz.underlying114
  a28 := Tryz.isAgg114
  z28 := Tryz.sizeOf114
  v28 := Tryz.zeroValue114
  t33 := Tryz.underlying102
  a33 := Tryz.isAgg102
  z33 := Tryz.sizeOf102
  v33 := Tryz.zeroValue102 }
def Tryz.sorted72_ren : Go.Shelf.Ren := ⟨fun | 6 => 72 | 8 => 89 | 9 => 90 | 11 => 117 | 13 => 119 | 12 => 118 | 23 => 143 | 24 => 128 | 14 => 134 | 15 => 135 | 16 => 136 | 17 => 137 | 18 => 138 | 19 => 139 | 20 => 140 | 21 => 141 | 22 => 142 | 25 => 150 | 26 => 151 | 27 => 152 | 28 => 153 | 29 => 154 | 30 => 155 | 31 => 161 | n => n, fun | 26 => 9 | 28 => 114 | 24 => 82 | 0 => 0 | 3 => 3 | 37 => 118 | 48 => 93 | 50 => 38 | 4 => 4 | 40 => 180 | 39 => 179 | 45 => 184 | 5 => 5 | 9 => 9 | 51 => 191 | 55 => 194 | 57 => 206 | 58 => 207 | 33 => 102 | n => n, fun | n => n⟩
theorem Tryz.sorted72 : Go.Proofs.SlLaysZ.n6 Tryz.prog Tryz.sorted72_ren := {
  mixed := by kernel_rfl
  f6 := ⟨Tryz.f72.name, by decide, Tryz.func72.trans (congrArg some (by kernel_rfl))⟩
  f8 := ⟨Tryz.f89.name, by decide, Tryz.func89.trans (congrArg some (by kernel_rfl))⟩
  f11 := ⟨Tryz.f117.name, by decide, Tryz.func117.trans (congrArg some (by kernel_rfl))⟩
  t0 := Tryz.underlying0
  a0 := Tryz.isAgg0
  z0 := Tryz.sizeOf0
  v0 := Tryz.zeroValue0
  t24 := Tryz.underlying82
  a24 := Tryz.isAgg82
  z24 := Tryz.sizeOf82
  v24 := Tryz.zeroValue82
  t26 := Tryz.underlying9
  a26 := Tryz.isAgg9
  z26 := Tryz.sizeOf9
  v26 := Tryz.zeroValue9
  t28 := Tryz.underlying114
  a28 := Tryz.isAgg114
  z28 := Tryz.sizeOf114
  v28 := Tryz.zeroValue114
  i26 := by kernel_rfl }
def Tryz.sort90_ren : Go.Shelf.Ren := ⟨fun | 6 => 90 | 8 => 119 | 9 => 118 | 19 => 143 | 20 => 128 | 21 => 134 | 22 => 135 | 23 => 136 | 24 => 137 | 25 => 138 | 26 => 139 | 27 => 140 | 28 => 141 | 29 => 142 | 36 => 150 | 31 => 151 | 32 => 152 | 37 => 153 | 38 => 154 | 39 => 155 | 41 => 161 | n => n, fun | 27 => 82 | 29 => 9 | 3 => 3 | 32 => 118 | 26 => 82 | 0 => 0 | 44 => 93 | 46 => 38 | 4 => 4 | 36 => 180 | 35 => 179 | 41 => 184 | 5 => 5 | 9 => 9 | 53 => 191 | 57 => 194 | 63 => 206 | 64 => 207 | n => n, fun | n => n⟩
theorem Tryz.sort90 : Go.Proofs.SlLaysM.n6 Tryz.prog Tryz.sort90_ren := {
  mixed := by kernel_rfl
  f6 := ⟨Tryz.f90.name, by decide, Tryz.func90.trans (congrArg some (by kernel_rfl))⟩
  f8 := Tryz.func119.trans (congrArg some (by kernel_rfl))
  f9 := ⟨Tryz.f118.name, by decide, Tryz.func118.trans (congrArg some (by kernel_rfl))⟩
  f19 := Tryz.func143.trans (congrArg some (by kernel_rfl))
  f20 := Tryz.func128.trans (congrArg some (by kernel_rfl))
  f21 := ⟨Tryz.f134.name, by decide, Tryz.func134.trans (congrArg some (by kernel_rfl))⟩
  f22 := ⟨Tryz.f135.name, by decide, Tryz.func135.trans (congrArg some (by kernel_rfl))⟩
  f23 := ⟨Tryz.f136.name, by decide, Tryz.func136.trans (congrArg some (by kernel_rfl))⟩
  f24 := ⟨Tryz.f137.name, by decide, Tryz.func137.trans (congrArg some (by kernel_rfl))⟩
  f25 := ⟨Tryz.f138.name, by decide, Tryz.func138.trans (congrArg some (by kernel_rfl))⟩
  f26 := ⟨Tryz.f139.name, by decide, Tryz.func139.trans (congrArg some (by kernel_rfl))⟩
  f27 := ⟨Tryz.f140.name, by decide, Tryz.func140.trans (congrArg some (by kernel_rfl))⟩
  f28 := ⟨Tryz.f141.name, by decide, Tryz.func141.trans (congrArg some (by kernel_rfl))⟩
  f29 := ⟨Tryz.f142.name, by decide, Tryz.func142.trans (congrArg some (by kernel_rfl))⟩
  f31 := Tryz.func151.trans (congrArg some (by kernel_rfl))
  f32 := Tryz.func152.trans (congrArg some (by kernel_rfl))
  f36 := ⟨Tryz.f150.name, by decide, Tryz.func150.trans (congrArg some (by kernel_rfl))⟩
  f37 := ⟨Tryz.f153.name, by decide, Tryz.func153.trans (congrArg some (by kernel_rfl))⟩
  f38 := ⟨Tryz.f154.name, by decide, Tryz.func154.trans (congrArg some (by kernel_rfl))⟩
  f39 := ⟨Tryz.f155.name, by decide, Tryz.func155.trans (congrArg some (by kernel_rfl))⟩
  f41 := ⟨Tryz.f161.name, by decide, Tryz.func161.trans (congrArg some (by kernel_rfl))⟩
  t0 := Tryz.underlying0
  a0 := Tryz.isAgg0
  z0 := Tryz.sizeOf0
  v0 := Tryz.zeroValue0
  t3 := Tryz.underlying3
  a3 := Tryz.isAgg3
  z3 := Tryz.sizeOf3
  v3 := Tryz.zeroValue3
  t4 := Tryz.underlying4
  a4 := Tryz.isAgg4
  z4 := Tryz.sizeOf4
  v4 := Tryz.zeroValue4
  t5 := Tryz.underlying5
  a5 := Tryz.isAgg5
  z5 := Tryz.sizeOf5
  v5 := Tryz.zeroValue5
  t9 := Tryz.underlying9
  a9 := Tryz.isAgg9
  z9 := Tryz.sizeOf9
  v9 := Tryz.zeroValue9
  t26 := Tryz.underlying82
  a26 := Tryz.isAgg82
  z26 := Tryz.sizeOf82
  v26 := Tryz.zeroValue82
  t27 := Tryz.underlying82
  a27 := Tryz.isAgg82
  z27 := Tryz.sizeOf82
  v27 := Tryz.zeroValue82
  t29 := Tryz.underlying9
  a29 := Tryz.isAgg9
  z29 := Tryz.sizeOf9
  v29 := Tryz.zeroValue9
  t32 := Tryz.underlying118
  a32 := Tryz.isAgg118
  z32 := Tryz.sizeOf118
  v32 := Tryz.zeroValue118
  t35 := Tryz.underlying179
  a35 := Tryz.isAgg179
  z35 := Tryz.sizeOf179
  v35 := Tryz.zeroValue179
  t36 := Tryz.underlying180
  a36 := Tryz.isAgg180
  z36 := Tryz.sizeOf180
  v36 := Tryz.zeroValue180
  t41 := Tryz.underlying184
  a41 := Tryz.isAgg184
  z41 := Tryz.sizeOf184
  v41 := Tryz.zeroValue184
  t44 := Tryz.underlying93
  a44 := Tryz.isAgg93
  z44 := Tryz.sizeOf93
  v44 := Tryz.zeroValue93
  t46 := Tryz.underlying38
  a46 := Tryz.isAgg38
  z46 := Tryz.sizeOf38
  v46 := Tryz.zeroValue38
  t53 := Tryz.underlying191
  a53 := Tryz.isAgg191
  z53 := Tryz.sizeOf191
  v53 := Tryz.zeroValue191
  t57 := Tryz.underlying194
  a57 := Tryz.isAgg194
  z57 := Tryz.sizeOf194
  v57 := Tryz.zeroValue194
  t63 := Tryz.underlying206
  a63 := Tryz.isAgg206
  z63 := Tryz.sizeOf206
  v63 := Tryz.zeroValue206
  t64 := Tryz.underlying207
  a64 := Tryz.isAgg207
  z64 := Tryz.sizeOf207
  v64 := Tryz.zeroValue207 }

theorem Tryz.sorts72 (m : Nat) : AnyZ.SortsIn Tryz.prog Tryz.sorted72_ren Fence.wide m :=
  ⟨fun blk off cap ss W hH hblk hsz => callsIn_wide.2 (AnyM.slices_Sort_string Tryz.sort90 blk off cap ss W hH hblk hsz),
   fun p cap W => callsIn_wide.2 (AnyM.slices_Sort_string_none Tryz.sort90 p cap W)⟩

theorem Tryz.maps_Keys_73 (mb : Option Nat) (W : World) : CallsIn Fence.wide 5 Tryz.prog 73 #[.map mb] W fun e w' => e = .returned (.func (.func 91) #[] #[.pointer (some ⟨W.heap.size, 0, none⟩)]) ∧ w' = W.alloc (.cells #[.map mb] 64) :=
  AnyZ.keys_in Tryz.keys73 Fence.wide 5 trivial rfl mb W

set_option maxHeartbeats 1000000 in
theorem Tryz.slices_Sorted_keys_72_73 {H : Type} (b nn : Nat) (D0 : DataW H) (R : Value → Option (DataW H × List MemPlace)) (w : World) (hown : w.ownsMap Tryz.prog 9 R b nn D0) (hmax : Maps.size D0 ≤ maxLen) (hbytes : Maps.size D0 * 16 ≤ 140737488355328) :
    CallsIn Fence.wide 5 Tryz.prog 72 #[.func (.func 91) #[] #[.pointer (some ⟨w.heap.size, 0, none⟩)]] (w.alloc (.cells #[.map (some b)] 64)) fun e w' => ∃ (v : Value) (ss : List (List UInt8)), e = .returned v ∧ ss.Perm (strKeys D0) ∧
      w'.ownsRow (w.alloc (.cells #[.map (some b)] 64)).heap.size 9 1 v ss.length ((ss.mergeSort (fun x y => decide (x ≤ y))).map encStr) ∧ (v = .slice none 0 0 ↔ ss = []) ∧ Below (w.alloc (.cells #[.map (some b)] 64)).heap.size (w.alloc (.cells #[.map (some b)] 64)) w' := by
  have hbl := hown.lt
  have hseq : SeqGives Fence.wide 2 Tryz.prog 91 #[.pointer (some ⟨w.heap.size, 0, none⟩)] encStr (fun ss => ss.Perm (strKeys D0)) (Maps.size D0) (w.alloc (.cells #[.map (some b)] 64)) :=
    AnyZ.keys_gives (ρ := Tryz.keys73_ren) { Tryz.keys73 with } Fence.wide _ trivial rfl (by omega) w.heap.size b nn D0 _ (by simp) (by simp) (by
      obtain ⟨es, clock, hb, Ft, hs, hD⟩ := hown
      exact ⟨es, clock, (Below.heap_alloc _ _ b hbl).trans hb, Ft, hs, hD⟩)
  exact AnyZ.sorted_in Tryz.sorted72 Fence.wide 5 trivial trivial trivial trivial rfl (by omega) (Tryz.sorts72 _) (enters_of Tryz.func90 (by kernel_rfl) rfl) 91 #[.pointer (some ⟨w.heap.size, 0, none⟩)] trivial (enters_of Tryz.func91 (by kernel_rfl) rfl) _ _ hmax hbytes _ hseq
end Go.Proofs.YtcielagfajdbeaaGreatDoor

/- The names of a disk's files, sorted. -/
namespace Go.Proofs.YtcielagfajdbeaaGreatDoor
open Go.RowKit Go.Maps
set_option linter.unusedVariables false
set_option maxRecDepth 100000

section
variable {B d n m : Nat} {D : DataW Unit} {fb : Nm → Nat} {fv : Nm → Value} {own : Nat → Option Role} {st : Nm → Option (List UInt8 × Nat)} {sz : Nat} {may : Value} {left : Int} {w : World}

/-- L is the names of all files, rising. -/
structure NamesOf (st : Nm → Option (List UInt8 × Nat)) (L : List Nm) : Prop where
  mem : ∀ nm, nm ∈ L ↔ st nm ≠ none
  nodup : L.Nodup
  up : L.Pairwise (fun x y => leB x y = true)

theorem DkI.has_iff (h : DkI B d n m D fb fv own st sz may left w) (nm : Nm) : Maps.has D (.string nm) = true ↔ st nm ≠ none := by
  constructor
  · intro q e
    rw [h.hasnt nm e] at q; cases q
  · intro q
    obtain ⟨f, hf⟩ := Option.ne_none_iff_exists'.1 q
    have ha := h.has nm f hf
    by_cases q2 : Maps.has D (.string nm) = true
    · exact q2
    · have := Maps.atKey_of_not_has (D := D) (k := .string nm) (by simpa using q2) (.nil : DataW Unit)
      rw [this] at ha; cases ha

theorem DkI.sorted (h : DkI B d n m D fb fv own st sz may left w) {L : List Nm} (hL : NamesOf st L) {ss : List (List UInt8)} (hp : ss.Perm (strKeys D)) : ss.mergeSort leB = L ∧ ss.length = L.length := by
  obtain ⟨es, e, hk⟩ := h.map.keysOf
  obtain ⟨es2, e2, ht⟩ := h.map.tidy Tryz.strKeyed
  rw [e] at e2
  injection e2 with e2
  subst e2
  have hks : ∀ p ∈ es, ∃ x, p.1 = .string x := fun p hp' => by
    obtain ⟨v, hv⟩ := hk p hp'
    obtain ⟨x, _, hx, _⟩ := Maps.keyOf_str Tryz.underlying9 hv
    exact ⟨x, hx⟩
  have hperm : L.Perm (strKeys D) := by
    rw [e]
    exact perm_strKeys ht hks hL.nodup (fun x => by rw [hL.mem x, ← h.has_iff x, e])
  have hsl : ss.Perm L := hp.trans hperm.symm
  refine ⟨?_, hsl.length_eq⟩
  rw [mergeSort_of_perm hsl]
  exact List.mergeSort_of_pairwise hL.up

theorem names_any (h : Dk B d n own st sz may left w) {L : List Nm} (hL : NamesOf st L) (hn : n ≤ 1099511627776) :
    Calls Tryz.prog 46 #[.pointer (some ⟨d, 0, none⟩)] w fun e w' => ∃ v, e = .returned v ∧ w'.ownsRow w.heap.size 9 1 v L.length (L.map encStr) ∧ Below w.heap.size w w' := by
  obtain ⟨m, D, fb, fv, h⟩ := h
  have c0 : w.cell? ⟨d, 0, none⟩ = some (.map (some m)) := by rw [cell_of_row _ _ _ _ _ _ h.cell]; rfl
  have hsz := h.map.size_le
  have hk := fun W => callsIn_wide.1 (Tryz.maps_Keys_73 (some m) W)
  have hs := callsIn_wide.1 (Tryz.slices_Sorted_keys_72_73 m n D flE w h.map (by unfold maxLen; omega) (by omega))
  go_enter Tryz.func46, Tryz.ntmps46
  go_wp2_with fail
  refine (hk _).mono ?_
  rintro e w1 ⟨rfl, rfl⟩
  go_wp2_with fail
  refine hs.mono ?_
  rintro e w2 ⟨v, ss, rfl, hp, hrow, _, hb⟩
  obtain ⟨q1, q2⟩ := h.sorted hL hp
  go_wp2_with fail
  go_ret
  refine ⟨_, rfl, ?_, ((Below.refl w.heap.size w).alloc (Nat.le_refl _) _).trans (hb.mono (by simp))⟩
  have q1' : ss.mergeSort (fun x y => decide (x ≤ y)) = L := q1
  rw [q1', q2] at hrow
  obtain ⟨r1, r2⟩ := hrow
  refine ⟨r1, ?_⟩
  rcases r2 with r2 | ⟨g, cap, cur, hv, hg, r⟩
  · exact .inl r2
  · exact .inr ⟨g, cap, cur, hv, by simp at hg; omega, r⟩
end
end Go.Proofs.YtcielagfajdbeaaGreatDoor

/- What Crash leaves of a disk. -/
namespace Go.Proofs.YtcielagfajdbeaaGreatDoor
open Go.RowKit Go.Maps
set_option linter.unusedVariables false
set_option maxRecDepth 100000

/-- The slice value v reads as these integers. -/
def RdI (w : World) (v : Value) (ks : List Int) : Prop :=
  ∃ ao c, v = .slice ao ks.length c ∧ ks.length ≤ c ∧ c ≤ maxLen ∧ ∀ i, (h : i < ks.length) → ∃ a, ao = some a ∧ w.cell? (a.add i) = some (.int .i64 ks[i])
theorem RdI.keptC {S : Nat → Prop} {w w' : World} {v : Value} {ks : List Int} (h : RdI w v ks) (hg : Chg S w w') (hne : ∀ b, v.ownBlock = some b → ¬ S b) : RdI w' v ks := by
  obtain ⟨ao, c, rfl, h1, h2, h4⟩ := h
  refine ⟨ao, c, rfl, h1, h2, fun i hi => ?_⟩
  obtain ⟨a, rfl, hc⟩ := h4 i hi
  have hlt := World.block_lt_of_cell? w _ hc
  rw [add_block] at hlt
  refine ⟨a, rfl, ?_⟩
  rw [World.cell?_of_block (w := w) (by rw [add_block]; exact hg.block a.block hlt (hne a.block rfl))]
  exact hc

/-- All bytes of the files that are named. -/
def sumB (st : Nm → Option (List UInt8 × Nat)) : List Nm → Nat
  | [] => 0
  | nm :: r => (match st nm with | some f => f.1.length | none => 0) + sumB st r
def keepAt (ks : List Int) (t : Nat) : Int := ks.getD t 0
/-- What a crash leaves, file by file. -/
def crashF : List Nm → List Int → Nat → (Nm → Option (List UInt8 × Nat)) → Nat → (Nm → Option (List UInt8 × Nat)) × Nat
  | [], _, _, st, sz => (st, sz)
  | nm :: r, ks, t, st, sz =>
    match st nm with
    | none => crashF r ks t st sz
    | some f => if f.2 = f.1.length then crashF r ks t st sz
      else crashF r ks (t + 1) (setF st nm (some (f.1.take (f.2 + stays (keepAt ks t) (f.1.length - f.2)), f.2 + stays (keepAt ks t) (f.1.length - f.2)))) (sz - (f.1.length - f.2 - stays (keepAt ks t) (f.1.length - f.2)))

theorem sumB_out (st : Nm → Option (List UInt8 × Nat)) (nm : Nm) (x : Option (List UInt8 × Nat)) : ∀ L : List Nm, nm ∉ L → sumB (setF st nm x) L = sumB st L
  | [], _ => rfl
  | k :: r, h => by
    have h1 : k ≠ nm := fun q => h (by rw [q]; exact List.mem_cons_self ..)
    simp only [sumB, setF_other _ _ h1, sumB_out st nm x r (fun q => h (List.mem_cons_of_mem _ q))]
theorem sumB_set (st : Nm → Option (List UInt8 × Nat)) (nm : Nm) (f g : List UInt8 × Nat) (e : st nm = some f) : ∀ L : List Nm, L.Nodup → nm ∈ L → sumB (setF st nm (some g)) L + f.1.length = sumB st L + g.1.length
  | [], _, h => by cases h
  | k :: r, hn, h => by
    have hn' := List.nodup_cons.1 hn
    by_cases q : k = nm
    · subst q
      simp only [sumB, setF_same, e, sumB_out st k _ r hn'.1]
      omega
    · have := sumB_set st nm f g e r hn'.2 (by rcases List.mem_cons.1 h with q2 | q2; exact absurd q2.symm q; exact q2)
      simp only [sumB, setF_other _ _ q]
      omega

section
variable {B d n m : Nat} {D : DataW Unit} {fb : Nm → Nat} {fv : Nm → Value} {own : Nat → Option Role} {st : Nm → Option (List UInt8 × Nat)} {sz : Nat} {may : Value} {left : Int} {w : World}

theorem DkI.name_le (h : DkI B d n m D fb fv own st sz may left w) {nm : Nm} (e : st nm ≠ none) : nm.length ≤ maxLen := by
  have hh := (h.has_iff nm).2 e
  obtain ⟨es, e1, hk⟩ := h.map.keysOf
  rw [e1, Maps.has_eq, List.any_eq_true] at hh
  obtain ⟨p, hp, hs⟩ := hh
  obtain ⟨v, hv⟩ := hk p hp
  obtain ⟨x, _, hx, hl⟩ := Maps.keyOf_str Tryz.underlying9 hv
  rw [hx] at hs
  have : x = nm := by simpa [Lit.sameKey] using hs
  rw [← this]; exact hl

theorem Dk.cell1 (h : Dk B d n own st sz may left w) : w.cell? ⟨d, 1, none⟩ = some (.int .i64 (sz : Int)) ∧ w.frozen? ⟨d, 1, none⟩ = false := by
  obtain ⟨m, D, fb, fv, h⟩ := h
  exact ⟨by rw [cell_of_row _ _ _ _ _ _ h.cell]; rfl, frozen_of_row _ _ _ _ _ h.cell⟩
theorem Dk.setSize (h : Dk B d n own st sz may left w) (k : Nat) : Dk B d n own st k may left (w.setCell ⟨d, 1, none⟩ (.int .i64 (k : Int))) ∧ Chg (fun b => own b ≠ none) w (w.setCell ⟨d, 1, none⟩ (.int .i64 (k : Int))) := by
  obtain ⟨m, D, fb, fv, h⟩ := h
  exact ⟨⟨m, D, fb, fv, h.setDisk ((Chg.refl (fun b => b = d) w).put d 1 _ rfl) (by rw [heap_setCell_same _ _ 1 _ _ _ h.cell]; rfl)⟩, (Chg.refl _ w).put d 1 _ (by rw [h.od]; simp)⟩

theorem own_cell0 {w : World} {B : Nat} {e : TypeId} {n : Nat} {v : Value} {xs : List Value} (h : w.ownsRow B e 1 v n xs) (i : Nat) (hi : i < n) : ∃ g c, v = .slice (some ⟨g, 0, none⟩) n c ∧ w.cell? ⟨g, i, none⟩ = xs[i]? := by
  rcases h.2 with ⟨_, e0⟩ | ⟨g, cap, cur, e, _⟩
  · omega
  · subst e
    exact ⟨g, cap, rfl, h.cellAt i (by omega)⟩
theorem encStr_string (l : List UInt8) : ∃ s : ByteArray, encStr l = .string s ∧ s.data.toList = l ∧ s.size = l.length := ⟨⟨l.toArray⟩, rfl, by simp, by simp [ByteArray.size]⟩

/-- What stands between two rounds. -/
structure CrashI (B d n : Nat) (own : Nat → Option Role) (st : Nm → Option (List UInt8 × Nat)) (may : Value) (left : Int) (L : List Nm) (ks : List Int) (fin : (Nm → Option (List UInt8 × Nat)) × Nat) (w1 : World) (k t : Nat) (own' : Nat → Option Role) (st' : Nm → Option (List UInt8 × Nat)) (sz' : Nat) (wr : World) : Prop where
  dk : Dk B d n own' st' sz' may left wr
  ext : ∀ b, own' b ≠ none → own b ≠ none ∨ w1.heap.size ≤ b
  chg : Chg (fun b => own b ≠ none) w1 wr
  fin : crashF (L.drop k) ks t st' sz' = fin
  dom : ∀ nm, st' nm ≠ none ↔ st nm ≠ none
  sum : sumB st' L = sz'
  small : ∀ nm f, st' nm = some f → f.1.length ≤ 16777216
  top : sz' ≤ 1099511627776

theorem CrashI.drN {L : List Nm} {ks : List Int} {fin : (Nm → Option (List UInt8 × Nat)) × Nat} {w1 wr : World} {k t : Nat} {own' : Nat → Option Role} {st' : Nm → Option (List UInt8 × Nat)} {sz' : Nat}
    (h : CrashI B d n own st may left L ks fin w1 k t own' st' sz' wr) (q : Nat) : CrashI B d n own st may left L ks fin w1 k t own' st' sz' (wr.drewN q) :=
  ⟨h.dk.drN q, h.ext, h.chg.dN q, h.fin, h.dom, h.sum, h.small, h.top⟩

/-- A file all of which is synced. -/
theorem CrashI.skip {L : List Nm} {ks : List Int} {fin : (Nm → Option (List UInt8 × Nat)) × Nat} {w1 wr : World} {k t : Nat} {own' : Nat → Option Role} {st' : Nm → Option (List UInt8 × Nat)} {sz' : Nat}
    (h : CrashI B d n own st may left L ks fin w1 k t own' st' sz' wr) (hk : k < L.length) {f : List UInt8 × Nat} (e : st' L[k] = some f) (hf : f.2 = f.1.length) : CrashI B d n own st may left L ks fin w1 (k + 1) t own' st' sz' wr := by
  refine ⟨h.dk, h.ext, h.chg, ?_, h.dom, h.sum, h.small, h.top⟩
  have := h.fin
  rw [List.drop_eq_getElem_cons hk, crashF, e] at this
  simp only [hf, if_true] at this
  exact this

/-- A file that is torn. -/
theorem CrashI.tear {L : List Nm} {ks : List Int} {fin : (Nm → Option (List UInt8 × Nat)) × Nat} {w1 wr w2 : World} {k t : Nat} {own' own2 : Nat → Option Role} {st' : Nm → Option (List UInt8 × Nat)} {sz' : Nat}
    (h : CrashI B d n own st may left L ks fin w1 k t own' st' sz' wr) (hL : L.Nodup) (hk : k < L.length) {f : List UInt8 × Nat} (e : st' L[k] = some f) (hf : f.2 < f.1.length)
    (hd : Dk B d n own2 (setF st' L[k] (some (f.1.take (f.2 + stays (keepAt ks t) (f.1.length - f.2)), f.2 + stays (keepAt ks t) (f.1.length - f.2)))) (sz' - (f.1.length - f.2 - stays (keepAt ks t) (f.1.length - f.2))) may left w2)
    (hx : ∀ b, own2 b ≠ none → own' b ≠ none ∨ wr.heap.size ≤ b) (hc : Chg (fun b => own' b ≠ none) wr w2) :
    CrashI B d n own st may left L ks fin w1 (k + 1) (t + 1) own2 (setF st' L[k] (some (f.1.take (f.2 + stays (keepAt ks t) (f.1.length - f.2)), f.2 + stays (keepAt ks t) (f.1.length - f.2)))) (sz' - (f.1.length - f.2 - stays (keepAt ks t) (f.1.length - f.2))) w2 := by
  have s1 := h.chg.size
  have hst : stays (keepAt ks t) (f.1.length - f.2) ≤ f.1.length - f.2 := by unfold stays; omega
  refine ⟨hd, fun b hb => ?_, h.chg.trans (hc.mono (fun b _ q => h.ext b q)), ?_, fun nm => ?_, ?_, fun nm g hg => ?_, by have := h.top; omega⟩
  · rcases hx b hb with q | q
    · exact h.ext b q
    · exact .inr (by omega)
  · have := h.fin
    rw [List.drop_eq_getElem_cons hk, crashF, e] at this
    simp only [if_neg (show ¬ f.2 = f.1.length by omega)] at this
    exact this
  · by_cases q : nm = L[k]
    · rw [q, setF_same, ← h.dom]; simp [e]
    · rw [setF_other _ _ q]; exact h.dom nm
  · have := sumB_set st' L[k] f (f.1.take (f.2 + stays (keepAt ks t) (f.1.length - f.2)), f.2 + stays (keepAt ks t) (f.1.length - f.2)) e L hL (List.getElem_mem hk)
    simp only [List.length_take] at this
    rw [h.sum] at this
    omega
  · by_cases q : nm = L[k]
    · rw [q, setF_same] at hg
      obtain rfl := Option.some.inj hg
      have := h.small _ f e
      simp only [List.length_take]; omega
    · rw [setF_other _ _ q] at hg; exact h.small nm g hg
end
end Go.Proofs.YtcielagfajdbeaaGreatDoor

/- What drop does: a file is gone, if it is there. -/
namespace Go.Proofs.YtcielagfajdbeaaGreatDoor
open Go.RowKit
set_option linter.unusedVariables false
set_option maxRecDepth 100000

section
variable {B d n : Nat} {own : Nat → Option Role} {st : Nm → Option (List UInt8 × Nat)} {sz : Nat} {may : Value} {left : Int} {w : World}

set_option maxHeartbeats 1000000 in
theorem drop_there (h : Dk B d n own st sz may left w) (s : ByteArray) (hs : s.size ≤ maxLen) (f : List UInt8 × Nat) (e : st s.data.toList = some f) (hf : f.1.length ≤ sz) (hz : sz ≤ 1099511627776) :
    Calls Tryz.prog 55 #[.pointer (some ⟨d, 0, none⟩), .string s] w fun e w' => (∃ v, e = .returned v) ∧ Dk B d n (strike own s.data.toList) (setF st s.data.toList none) (sz - f.1.length) may left w' ∧ Chg (fun b => own b = some .disk ∨ own b = some .map) w w' := by
  obtain ⟨m, D, fb, fv, h⟩ := h
  have c0 : w.cell? ⟨d, 0, none⟩ = some (.map (some m)) := by rw [cell_of_row _ _ _ _ _ _ h.cell]; rfl
  have c1 : w.cell? ⟨d, 1, none⟩ = some (.int .i64 (sz : Int)) := by rw [cell_of_row _ _ _ _ _ _ h.cell]; rfl
  have z1 : w.frozen? ⟨d, 1, none⟩ = false := frozen_of_row _ _ _ _ _ h.cell
  have hrun := h.look s hs f e
  obtain ⟨fa, fc, efv, hln, f0, f1, hfz, hrd⟩ := h.fcell e
  clear hfz efv hrd f1
  have hkey := WideMaps.keyOf_string_mk (P := Tryz.prog) (k := 9) Tryz.underlying9 hs
  have hdm : m ≠ d := fun q => by have := h.od; rw [← q, h.om] at this; cases this
  have hmap : ∀ v, (w.setCell ⟨d, 1, none⟩ v).drew.ownsMap Tryz.prog 9 flE m n D := fun v => (h.map.setCell (a := ⟨d, 1, none⟩) hdm v).drew
  have hset := h.setDisk (sz' := sz - f.1.length) (may' := may) (left' := left) ((Chg.refl (fun b => b = d) w).put d 1 (.int .i64 ((sz - f.1.length : Nat) : Int)) rfl) (by rw [heap_setCell_same _ _ 1 _ _ _ h.cell]; rfl)
  have H : Hid _ := And.intro hset (And.intro h.od h.om)
  have ez : ((sz : Int) - (f.1.length : Int)) = ((sz - f.1.length : Nat) : Int) := by omega
  clear h hset
  generalize fb s.data.toList = g at *
  go_enter Tryz.func55, Tryz.ntmps55
  go_wp2_with fail
  go_region
  all_goals go_wp2_with (first | (at_delete; refine wpList_delete_own _ rfl _ _ 64 9 rfl 84 Tryz.strKeyed Tryz.underlying64 flE m n D rfl (hmap _) _ _ rfl hkey ?_; intro w1 hown1 hturn1) | fail)
  all_goals go_end0
  all_goals
    have hd := (H.out.1.drN 1).del s.data.toList (Chg.of_grown hturn1.grown (fun b q _ => (Option.some.inj q).symm)) hown1
    refine ⟨⟨_, rfl⟩, ⟨_, _, _, _, hd⟩, ?_⟩
    have hc1 : Chg (fun b => own b = some .disk ∨ own b = some .map) w ((w.setCell ⟨d, 1, none⟩ (.int .i64 ((sz - f.1.length : Nat) : Int))).drewN 1) := ((Chg.refl _ w).put d 1 _ (Or.inl H.out.2.1)).dN 1
    exact hc1.trans (Chg.of_grown hturn1.grown (fun b q _ => by obtain rfl := Option.some.inj q; exact Or.inl (Or.inr H.out.2.2)))

theorem drop_not (h : Dk B d n own st sz may left w) (s : ByteArray) (hs : s.size ≤ maxLen) (e : st s.data.toList = none) :
    Calls Tryz.prog 55 #[.pointer (some ⟨d, 0, none⟩), .string s] w fun e w' => (∃ v, e = .returned v) ∧ ∃ q, w' = w.drewN q := by
  obtain ⟨m, D, fb, fv, h⟩ := h
  have c0 : w.cell? ⟨d, 0, none⟩ = some (.map (some m)) := by rw [cell_of_row _ _ _ _ _ _ h.cell]; rfl
  have hrun := h.look_no s hs e
  go_enter Tryz.func55, Tryz.ntmps55
  go_wp2_with fail
  go_end0
  exact ⟨⟨_, rfl⟩, 0, rfl⟩

/-- What Rename would answer. -/
def rErr (st : Nm → Option (List UInt8 × Nat)) (s t : ByteArray) : Nat := if st s.data.toList = none then 20 else if ¬ (1 ≤ t.size ∧ t.size ≤ 64) then 1 else 0

theorem refuseRename_any (h : Dk B d n own st sz may left w) (s t : ByteArray) (hs : s.size ≤ maxLen) :
    Calls Tryz.prog 108 #[.pointer (some ⟨d, 0, none⟩), .string s, .string t] w fun e w' => e = .returned (.int .i64 (rErr st s t : Int)) ∧ ∃ q, w' = w.drewN q := by
  have hrf := refuseFile_any h s hs
  unfold rErr
  by_cases e : st s.data.toList = none
  · rw [if_pos e] at hrf
    rw [if_pos e]
    go_enter Tryz.func108, Tryz.ntmps108
    go_wp2_with fail
    refine hrf.mono ?_
    rintro e w1 ⟨rfl, q1, rfl⟩
    go_wp2_with fail
    go_ret
    exact ⟨rfl, _, rfl⟩
  · rw [if_neg e] at hrf
    rw [if_neg e]
    have hgn := fun w => goodName_any t w
    by_cases hg : 1 ≤ t.size ∧ t.size ≤ 64
    · rw [if_neg (by simpa using hg)]
      simp only [decide_eq_true hg] at hgn
      go_enter Tryz.func108, Tryz.ntmps108
      go_wp2_with fail
      refine hrf.mono ?_
      rintro e w1 ⟨rfl, q1, rfl⟩
      go_wp2_with fail
      refine (hgn _).mono ?_
      rintro e w2 ⟨rfl, rfl⟩
      go_wp2_with fail
      go_ret
      exact ⟨rfl, _, rfl⟩
    · rw [if_pos hg]
      simp only [decide_eq_false hg] at hgn
      go_enter Tryz.func108, Tryz.ntmps108
      go_wp2_with fail
      refine hrf.mono ?_
      rintro e w1 ⟨rfl, q1, rfl⟩
      go_wp2_with fail
      refine (hgn _).mono ?_
      rintro e w2 ⟨rfl, rfl⟩
      go_wp2_with fail
      go_ret
      exact ⟨rfl, _, rfl⟩

end
end Go.Proofs.YtcielagfajdbeaaGreatDoor

/- What Rename of a living disk does, where it answers OK. -/
namespace Go.Proofs.YtcielagfajdbeaaGreatDoor
open Go.RowKit
set_option linter.unusedVariables false
set_option maxRecDepth 100000

section
variable {B d n m : Nat} {D : DataW Unit} {fb : Nm → Nat} {fv : Nm → Value} {own : Nat → Option Role} {st : Nm → Option (List UInt8 × Nat)} {sz : Nat} {may : Value} {left : Int} {w : World}

theorem strike_none {own : Nat → Option Role} {nm : Nm} {b : Nat} (h : own b = none) : strike own nm b = none := by
  by_cases q : strike own nm b = none
  · exact q
  · exact absurd h (strike_sub q)
theorem strike_role {own : Nat → Option Role} {nm : Nm} {b : Nat} {r : Role} (h : strike own nm b = some r) : own b = some r := by
  unfold strike at h
  split at h
  · rename_i k e
    split at h
    · cases h
    · rw [e]; exact h
  · rename_i k e
    split at h
    · cases h
    · rw [e]; exact h
  · exact h

/-- A file that has been taken out of the map still lies in memory. -/
structure Loose (B : Nat) (own : Nat → Option Role) (g : Nat) (v : Value) (f : List UInt8 × Nat) (w : World) : Prop where
  cell : w.heap[g]? = some (.cells #[v, .int .i64 (f.2 : Int)] 86 (0, 0))
  ow : Ow B w v f.1
  le : f.2 ≤ f.1.length
  lo : B ≤ g
  out : own g = none
  vout : ∀ b, v.ownBlock = some b → own b = none ∧ b ≠ g

theorem Loose.next {own own' : Nat → Option Role} {g : Nat} {v : Value} {f : List UInt8 × Nat} {w w' : World} {S : Nat → Prop} (h : Loose B own g v f w) (hc : Chg S w w') (hS : ∀ b, own b = none → ¬ S b) (ho : ∀ b, own b = none → own' b = none) : Loose B own' g v f w' :=
  ⟨by rw [hc.block g (Array.getElem?_eq_some_iff.1 h.cell).1 (hS g h.out)]; exact h.cell, h.ow.keptC hc (fun b hb => hS b (h.vout b hb).1), h.le, h.lo, ho g h.out, fun b hb => ⟨ho b (h.vout b hb).1, (h.vout b hb).2⟩⟩

theorem Chg.dN0 (w : World) (q : Nat) : Chg (fun _ => False) w (w.drewN q) := ⟨rfl, rfl, rfl, Nat.le_refl _, fun _ _ _ => rfl⟩

theorem DkI.loose (h : DkI B d n m D fb fv own st sz may left w) {nm : Nm} {f : List UInt8 × Nat} (e : st nm = some f) {w' : World} (hc : Chg (fun b => b = m) w w') : Loose B (strike own nm) (fb nm) (fv nm) f w' := by
  obtain ⟨h1, h2, h3⟩ := h.file nm f e
  have hof := h.ofl nm f e
  have hgm : fb nm ≠ m := fun q => by rw [q, h.om] at hof; cases hof
  refine ⟨by rw [hc.block _ (h.lo _ (by rw [hof]; simp)).2 hgm]; exact h1, h2.keptC hc (fun b hb q => ?_), h3, (h.lo _ (by rw [hof]; simp)).1, strike_file hof, fun b hb => ⟨strike_data (h.ov nm f b e hb), fun q => ?_⟩⟩
  · have := h.ov nm f b e hb
    rw [q, h.om] at this; cases this
  · have := h.ov nm f b e hb
    rw [q, hof] at this; cases this

/-- What the last store of Rename leaves. -/
theorem Loose.link {own : Nat → Option Role} {st : Nm → Option (List UInt8 × Nat)} {g : Nat} {v : Value} {f : List UInt8 × Nat} {w w' : World} {nm : Nm} (hl : Loose B own g v f w) (h : DkI B d n m D fb fv own st sz may left w) (e : st nm = none)
    (hc : Chg (fun b => b = m) w w') (hm : w'.ownsMap Tryz.prog 9 flE m (n + 1) (D.put (.string nm) (.lit (.int .u64 (g : Int))))) :
    Dk B d (n + 1) (fun b => if b = g then some (.file nm) else if v.ownBlock = some b then some (.data nm) else own b) (setF st nm (some f)) sz may left w' :=
  ⟨_, _, _, _, h.link e hl.out hl.lo hl.cell hl.ow hl.vout hl.le hc hm⟩

set_option maxHeartbeats 2000000 in
theorem rename_new (h : Dk B d n own st sz (alive d) left w) (s t : ByteArray) (hs : s.size ≤ maxLen) (ht1 : 1 ≤ t.size) (ht2 : t.size ≤ 64) (f : List UInt8 × Nat) (e : st s.data.toList = some f) (et : setF st s.data.toList none t.data.toList = none) (hn : n ≤ 1099511627776) :
    Calls Tryz.prog 81 #[.pointer (some ⟨d, 0, none⟩), .string s, .string t] w fun e w' => e = .returned (.int .i64 0) ∧ (∃ own', Dk B d (n + 1) own' (setF (setF st s.data.toList none) t.data.toList (some f)) sz (alive d) left w' ∧ ∀ b, own' b ≠ none → own b ≠ none ∨ w.heap.size ≤ b) ∧ Chg (fun b => own b ≠ none) w w' := by
  have e0 := e
  have htl : t.size ≤ maxLen := by unfold maxLen; omega
  have hrf := fun q => refuseRename_any (h.drN q) s t hs
  have hr0 : rErr st s t = 0 := by unfold rErr; rw [if_neg (by rw [e]; simp), if_neg (by simp; omega)]
  simp only [hr0] at hrf
  clear hr0
  obtain ⟨m, D, fb, fv, h⟩ := h
  have hnm : n < maxLen := by unfold maxLen; omega
  have c0 : w.cell? ⟨d, 0, none⟩ = some (.map (some m)) := by rw [cell_of_row _ _ _ _ _ _ h.cell]; rfl
  have c2 : w.cell? ⟨d, 2, none⟩ = some (.func (.func 31) #[.pointer (some ⟨d, 0, none⟩)] #[]) := by rw [cell_of_row _ _ _ _ _ _ h.cell]; rfl
  have hrun := fun q => (h.drN q).look s hs f e
  have hkey := WideMaps.keyOf_string_mk (P := Tryz.prog) (k := 9) Tryz.underlying9 hs
  have hkeyt := WideMaps.keyOf_string_mk (P := Tryz.prog) (k := 9) Tryz.underlying9 htl
  have hmap : ∀ q, (w.drewN q).ownsMap Tryz.prog 9 flE m n D := fun q => (h.drN q).map
  have H : Hid _ := h
  have hof := h.ofl _ f e
  clear h
  generalize hg : fb s.data.toList = g at *
  go_enter Tryz.func81, Tryz.ntmps81
  go_wp2_with fail
  go_quiet (first | (go_at_call 108; refine Calls.quiet_of (v := .int .i64 0) (hrf _)) | (go_at_call 31; refine Calls.quiet_of_same (v := .int .i64 0) (alive_any _ _ _ _)) | fail)
  go_wp2_with (first | (at_delete; refine wpList_delete_own _ rfl _ _ 64 9 rfl 84 Tryz.strKeyed Tryz.underlying64 flE m n D rfl (hmap _) _ _ rfl hkey ?_; intro w1 hown1 hturn1) | fail)
  have hc1 : Chg (fun b => b = m) (w.drewN nq) w1 := Chg.of_grown hturn1.grown (fun b q _ => (Option.some.inj q).symm)
  have h1 := (H.out.drN nq).del s.data.toList hc1 hown1
  have l1 := (H.out.drN nq).loose e hc1
  refine (drop_not ⟨_, _, _, _, h1⟩ t htl et).mono ?_
  rintro e w2 ⟨⟨v2, rfl⟩, q2, rfl⟩
  have h2 := h1.drN q2
  have l2 := l1.next (own' := strike own s.data.toList) (Chg.dN0 w1 q2) (fun _ _ q => q) (fun b q => q)
  have c02 : w1.cell? ⟨d, 0, none⟩ = some (.map (some m)) := by rw [cell_of_row _ _ _ _ _ _ h1.cell]; rfl
  have hmap2 := h2.map
  have H2 : Hid _ := And.intro h2 l2
  clear h2 l2 h1 l1 hown1 hturn1
  go_wp2_with (first | (at_mapUpdate; refine wpList_mapUpdate_own _ rfl _ _ _ 64 rfl 9 84 Tryz.strKeyed Tryz.underlying64 flE m n _ rfl hmap2 hnm _ _ _ rfl rfl hkeyt (.lit (.int .u64 (g : Int))) [] rfl ?_; intro w3 hown3 hg3) | fail)
  go_ret
  have hc3 : Chg (fun b => b = m) (w1.drewN q2) w3 := Chg.of_grown hg3 (fun b q _ => (Option.some.inj q).symm)
  rw [hg] at H2
  have hfin := H2.out.2.link H2.out.1 et hc3 hown3
  have hmo : own m ≠ none := by rw [H.out.om]; simp
  have d0 : Chg (fun b => own b ≠ none) w (w.drewN nq) := (Chg.dN0 w nq).mono (fun _ _ q => q.elim)
  have d1 : Chg (fun b => own b ≠ none) w w1 := d0.trans (hc1.mono (fun b _ q => Or.inl (by rw [q]; exact hmo)))
  have d2 : Chg (fun b => own b ≠ none) w (w1.drewN q2) := d1.dN q2
  refine ⟨rfl, ⟨_, hfin, fun b hb => Or.inl ?_⟩, d2.trans (hc3.mono (fun b _ q => Or.inl (by rw [q]; exact hmo)))⟩
  by_cases q : b = g
  · rw [q, hof]; simp
  · rw [if_neg q] at hb
    by_cases q3 : (fv s.data.toList).ownBlock = some b
    · rw [H.out.ov _ f b e0 q3]; simp
    · rw [if_neg q3] at hb; exact strike_sub hb

set_option maxHeartbeats 2000000 in
theorem rename_over (h : Dk B d n own st sz (alive d) left w) (s t : ByteArray) (hs : s.size ≤ maxLen) (ht1 : 1 ≤ t.size) (ht2 : t.size ≤ 64) (f f2 : List UInt8 × Nat) (e : st s.data.toList = some f) (et : setF st s.data.toList none t.data.toList = some f2) (hn : n ≤ 1099511627776) (hf2 : f2.1.length ≤ sz) (hz : sz ≤ 1099511627776) :
    Calls Tryz.prog 81 #[.pointer (some ⟨d, 0, none⟩), .string s, .string t] w fun e w' => e = .returned (.int .i64 0) ∧ (∃ own', Dk B d (n + 1) own' (setF (setF st s.data.toList none) t.data.toList (some f)) (sz - f2.1.length) (alive d) left w' ∧ ∀ b, own' b ≠ none → own b ≠ none ∨ w.heap.size ≤ b) ∧ Chg (fun b => own b ≠ none) w w' := by
  have e0 := e
  have htl : t.size ≤ maxLen := by unfold maxLen; omega
  have hrf := fun q => refuseRename_any (h.drN q) s t hs
  have hr0 : rErr st s t = 0 := by unfold rErr; rw [if_neg (by rw [e]; simp), if_neg (by simp; omega)]
  simp only [hr0] at hrf
  clear hr0
  obtain ⟨m, D, fb, fv, h⟩ := h
  have hnm : n < maxLen := by unfold maxLen; omega
  have c0 : w.cell? ⟨d, 0, none⟩ = some (.map (some m)) := by rw [cell_of_row _ _ _ _ _ _ h.cell]; rfl
  have c2 : w.cell? ⟨d, 2, none⟩ = some (.func (.func 31) #[.pointer (some ⟨d, 0, none⟩)] #[]) := by rw [cell_of_row _ _ _ _ _ _ h.cell]; rfl
  have hrun := fun q => (h.drN q).look s hs f e
  have hkey := WideMaps.keyOf_string_mk (P := Tryz.prog) (k := 9) Tryz.underlying9 hs
  have hkeyt := WideMaps.keyOf_string_mk (P := Tryz.prog) (k := 9) Tryz.underlying9 htl
  have hmap : ∀ q, (w.drewN q).ownsMap Tryz.prog 9 flE m n D := fun q => (h.drN q).map
  have H : Hid _ := h
  have hof := h.ofl _ f e
  clear h
  generalize hg : fb s.data.toList = g at *
  go_enter Tryz.func81, Tryz.ntmps81
  go_wp2_with fail
  go_quiet (first | (go_at_call 108; refine Calls.quiet_of (v := .int .i64 0) (hrf _)) | (go_at_call 31; refine Calls.quiet_of_same (v := .int .i64 0) (alive_any _ _ _ _)) | fail)
  go_wp2_with (first | (at_delete; refine wpList_delete_own _ rfl _ _ 64 9 rfl 84 Tryz.strKeyed Tryz.underlying64 flE m n D rfl (hmap _) _ _ rfl hkey ?_; intro w1 hown1 hturn1) | fail)
  have hc1 : Chg (fun b => b = m) (w.drewN nq) w1 := Chg.of_grown hturn1.grown (fun b q _ => (Option.some.inj q).symm)
  have h1 := (H.out.drN nq).del s.data.toList hc1 hown1
  have l1 := (H.out.drN nq).loose e hc1
  refine (drop_there ⟨_, _, _, _, h1⟩ t htl f2 et hf2 hz).mono ?_
  rintro e w2 ⟨⟨v2, rfl⟩, ⟨m2, D2, fb2, fv2, h2⟩, hc2⟩
  have l2 := l1.next (own' := strike (strike own s.data.toList) t.data.toList) hc2 (fun b q q2 => by rcases q2 with q2 | q2 <;> rw [q] at q2 <;> cases q2) (fun b q => strike_none q)
  have c02 : w2.cell? ⟨d, 0, none⟩ = some (.map (some m2)) := by rw [cell_of_row _ _ _ _ _ _ h2.cell]; rfl
  have hmap2 := h2.map
  have hm2 : own m2 ≠ none := by rw [strike_role (strike_role h2.om)]; simp
  have H2 : Hid _ := And.intro h2 l2
  clear h2 l2 h1 l1 hown1 hturn1
  go_wp2_with (first | (at_mapUpdate; refine wpList_mapUpdate_own _ rfl _ _ _ 64 rfl 9 84 Tryz.strKeyed Tryz.underlying64 flE m2 n D2 rfl hmap2 hnm _ _ _ rfl rfl hkeyt (.lit (.int .u64 (g : Int))) [] rfl ?_; intro w3 hown3 hg3) | fail)
  go_ret
  have hc3 : Chg (fun b => b = m2) w2 w3 := Chg.of_grown hg3 (fun b q _ => (Option.some.inj q).symm)
  rw [hg] at H2
  have hfin := H2.out.2.link H2.out.1 (setF_same _ _ _) hc3 hown3
  rw [setF_setF] at hfin
  have hmo : own m ≠ none := by rw [H.out.om]; simp
  have d0 : Chg (fun b => own b ≠ none) w (w.drewN nq) := (Chg.dN0 w nq).mono (fun _ _ q => q.elim)
  have d1 : Chg (fun b => own b ≠ none) w w1 := d0.trans (hc1.mono (fun b _ q => Or.inl (by rw [q]; exact hmo)))
  have d2 : Chg (fun b => own b ≠ none) w w2 := d1.trans (hc2.mono (fun b _ q => Or.inl (by rcases q with q | q <;> rw [strike_role q] <;> simp)))
  refine ⟨rfl, ⟨_, hfin, fun b hb => Or.inl ?_⟩, d2.trans (hc3.mono (fun b _ q => Or.inl (by rw [q]; exact hm2)))⟩
  by_cases q : b = g
  · rw [q, hof]; simp
  · rw [if_neg q] at hb
    by_cases q3 : (fv s.data.toList).ownBlock = some b
    · rw [H.out.ov _ f b e0 q3]; simp
    · rw [if_neg q3] at hb; exact strike_sub (strike_sub hb)
end
end Go.Proofs.YtcielagfajdbeaaGreatDoor

/- What Varint makes: the bytes of 'vi', in new memory. -/
namespace Go.Proofs.YtcielagfajdbeaaGreatDoor
open Go.RowKit
set_option linter.unusedVariables false

set_option maxRecDepth 100000 in
theorem varint_any (n : Nat) (w : World) (hn : n < 18446744073709551616) :
    Calls Tryz.prog 67 #[.int .u64 n] w fun e w' => ∃ v, e = .returned v ∧ Ow w.heap.size w' v (M.vi n) ∧ Below w.heap.size w w' := by
  go_enter Tryz.func67, Tryz.ntmps67
  go_wp2
  go_loopw [0, 3] (fun m out wr => ∃ (k q : Nat), k ≤ 9 ∧ m = .int .u64 q ∧ q < M.qb k ∧ Below w.heap.size w wr ∧ ∃ done, done.length + k = 9 ∧ Ow w.heap.size wr out done ∧ done ++ M.viF k q = M.vi n) (fun m _ _ => (intOf m).toNat)
  case atStart => exact ⟨9, n, Nat.le_refl _, rfl, by simpa [M.qb] using hn, Below.refl _ _, [], rfl, Ow.nil _ _, rfl⟩
  case round =>
    obtain ⟨k, q, hk, rfl, hq, hb, done, hdl, ho, hd⟩ := hrel
    have HD : Hid _ := hd
    have HQ : Hid _ := hq
    have HL : Hid _ := hdl
    clear hd hq hdl
    have hq : q < 18446744073709551616 := by
      exact Nat.lt_of_lt_of_le HQ.out (M.qb_le k)
    by_cases hlt : q < 128
    · go_wp2_with (first | (at_builtin; refine wpList_app rfl _ _ rfl w.heap.size _ done rfl (ho.alloc _) _ [UInt8.ofNat q] rfl (rd_one _ _ _ ?hz _) ?hB ?hlen ?_; rotate_right; intro v' w' ho' hb' hg') | fail)
      case hz => rw [M.u8_ofNat]; omega
      case hB => have := hb.size; simp; omega
      case hlen => have := HL.out; simp; omega
      go_ret
      refine ⟨_, rfl, ?_, hb.trans (((Below.refl _ _).alloc hb.size _).trans hb')⟩
      have e : M.viF k q = [UInt8.ofNat q] := by
        cases k with
        | zero => rfl
        | succ k => simp only [M.viF]; rw [if_pos hlt]
      rw [← HD.out, e]; exact ho'
    · have hlt' : 128 ≤ q := by omega
      have HV : Hid (1 ≤ k ∧ q / 128 < M.qb (k - 1) ∧ M.viF k q = UInt8.ofNat (q % 128 + 128) :: M.viF (k - 1) (q / 128)) := by
        cases k with
        | zero => have := HQ.out; rw [M.qb_zero] at this; omega
        | succ k =>
          refine ⟨by omega, ?_, ?_⟩
          · have := HQ.out; rw [M.qb_succ k hk] at this; simp only [Nat.add_sub_cancel]; omega
          · rw [M.viF, if_neg hlt]; rfl
      go_wp2_with (first | (at_builtin; refine wpList_app rfl _ _ rfl w.heap.size _ done rfl (ho.alloc _) _ [UInt8.ofNat (q % 128 + 128)] rfl (rd_one _ _ _ ?hz _) ?hB ?hlen ?_; rotate_right; intro v' w' ho' hb' hg') | fail)
      case hz =>
        rw [M.u8_ofNat, show ((q : Int) % 256) = ((q % 256 : Nat) : Int) by omega, show (128 : Int) = ((128 : Nat) : Int) from rfl, u8_or_nat _ _ (by omega) (by decide), M.or128 _ (by omega)]
        omega
      case hB => have := hb.size; simp; omega
      case hlen => have := HL.out; simp; omega
      refine ⟨⟨k - 1, q / 128, by omega, by go_num, ?_, hb.trans (((Below.refl _ _).alloc hb.size _).trans hb'), done ++ [UInt8.ofNat (q % 128 + 128)], ?_, ho', ?_⟩, by simp [intOf]; omega⟩
      · exact (HV.out).2.1
      · have := HL.out; have := (HV.out).1; simp; omega
      · rw [← HD.out, (HV.out).2.2]; simp

end Go.Proofs.YtcielagfajdbeaaGreatDoor

/- Plain mathematics of ordered texts: groups of eight with a byte behind each. No program is named here. -/
namespace Go.Proofs.YtcielagfajdbeaaGreatDoor.M
set_option maxRecDepth 100000

/-- The last group. -/
def pad (l : List UInt8) : List UInt8 := l ++ List.replicate (8 - l.length) 0 ++ [UInt8.ofNat (247 + l.length)]
def obF : Nat → List UInt8 → List UInt8
  | 0, l => pad l
  | k + 1, l => if l.length < 8 then pad l else l.take 8 ++ [255] ++ obF k (l.drop 8)
/-- A text in a form whose order is that of the texts. -/
def ob (l : List UInt8) : List UInt8 := obF (l.length / 8) l
def key (l : List UInt8) (n : Nat) : List UInt8 := ob l ++ be 8 (18446744073709551615 - n)

theorem pad_length (l : List UInt8) (h : l.length < 8) : (pad l).length = 9 := by simp [pad]; omega
theorem obF_length (k : Nat) (l : List UInt8) (h : l.length < 8 * (k + 1)) : (obF k l).length = 9 * (l.length / 8 + 1) := by
  induction k generalizing l with
  | zero => rw [obF, pad_length l (by omega)]; omega
  | succ k ih =>
    rw [obF]
    split
    · rename_i h1; rw [pad_length l h1]; omega
    · rename_i h1
      have := ih (l.drop 8) (by simp; omega)
      simp only [List.length_append, List.length_take, List.length_singleton, this, List.length_drop]
      omega
theorem ob_length (l : List UInt8) : (ob l).length = 9 * (l.length / 8 + 1) := obF_length _ l (by omega)
theorem obF_short (k : Nat) (l : List UInt8) (h : l.length < 8) : obF k l = pad l := by
  cases k with
  | zero => rfl
  | succ k => rw [obF, if_pos h]
theorem obF_long (k : Nat) (l : List UInt8) (h : 8 ≤ l.length) (hk : l.length < 8 * (k + 1)) : ∃ k', k = k' + 1 ∧ obF k l = l.take 8 ++ [255] ++ obF k' (l.drop 8) ∧ (l.drop 8).length < 8 * (k' + 1) := by
  cases k with
  | zero => omega
  | succ k => exact ⟨k, rfl, by rw [obF, if_neg (by omega)], by simp; omega⟩
theorem key_length (l : List UInt8) (n : Nat) : (key l n).length = 9 * (l.length / 8 + 1) + 8 := by simp [key, ob_length, be_length]

/-- One group read: what of it was not filled up, and the error. -/
def tg (l : List UInt8) : List UInt8 × Nat :=
  if l.length < 9 then ([], 10) else if (l.getD 8 0).toNat < 247 then ([], 12)
  else if ((l.take 8).drop ((l.getD 8 0).toNat - 247)).all (fun x => x == 0) then (l.take ((l.getD 8 0).toNat - 247), 0) else ([], 12)
/-- Group by group, behind what was read so far. -/
def tbA : Nat → List UInt8 → List UInt8 → List UInt8 × List UInt8 × Nat
  | 0, _, _ => ([], [], 10)
  | k + 1, acc, l => if (tg l).2 ≠ 0 then ([], [], (tg l).2) else if (tg l).1.length < 8 then (acc ++ (tg l).1, l.drop 9, 0) else tbA k (acc ++ (tg l).1) (l.drop 9)
def tb (l : List UInt8) : List UInt8 × List UInt8 × Nat := tbA (l.length + 1) [] l

theorem tg_ok (l : List UInt8) (h : (tg l).2 = 0) : 9 ≤ l.length ∧ 247 ≤ (l.getD 8 0).toNat ∧ (tg l).1 = l.take ((l.getD 8 0).toNat - 247) ∧ ((l.take 8).drop ((l.getD 8 0).toNat - 247)).all (fun x => x == 0) = true := by
  unfold tg at h ⊢
  by_cases h1 : l.length < 9
  · rw [if_pos h1] at h; cases h
  · rw [if_neg h1] at h ⊢
    by_cases h2 : (l.getD 8 0).toNat < 247
    · rw [if_pos h2] at h; cases h
    · rw [if_neg h2] at h ⊢
      by_cases h3 : ((l.take 8).drop ((l.getD 8 0).toNat - 247)).all (fun x => x == 0) = true
      · rw [if_pos h3]; exact ⟨Nat.not_lt.1 h1, Nat.not_lt.1 h2, rfl, h3⟩
      · rw [if_neg h3] at h; cases h
theorem tg_len (l : List UInt8) (h : (tg l).2 = 0) : (tg l).1.length = (l.getD 8 0).toNat - 247 ∧ (tg l).1.length ≤ 8 := by
  obtain ⟨h1, h2, h3, _⟩ := tg_ok l h
  have := (l.getD 8 0).toNat_lt
  rw [h3, List.length_take]
  omega
theorem tbA_len (k : Nat) (acc l : List UInt8) : (tbA k acc l).1.length ≤ acc.length + l.length ∧ (tbA k acc l).2.1.length ≤ l.length := by
  induction k generalizing acc l with
  | zero => simp [tbA]
  | succ k ih =>
    rw [tbA]
    by_cases h1 : (tg l).2 ≠ 0
    · rw [if_pos h1]; simp
    · rw [if_neg h1]
      have hz : (tg l).2 = 0 := by simpa using h1
      have hl := tg_len l hz
      have h9 := (tg_ok l hz).1
      by_cases h2 : (tg l).1.length < 8
      · rw [if_pos h2]; simp; omega
      · rw [if_neg h2]
        have := ih (acc ++ (tg l).1) (l.drop 9)
        simp only [List.length_append, List.length_drop] at this
        omega
/-- What a key is read as: the key, the time, the error. -/
def tk (l : List UInt8) : List UInt8 × Nat × Nat :=
  let r := tb l
  if r.2.2 ≠ 0 then ([], 0, r.2.2) else if r.2.1.length < 8 then ([], 0, 10) else if r.2.1.length ≠ 8 then ([], 0, 12) else (r.1, 18446744073709551615 - num (r.2.1.take 8), 0)
end Go.Proofs.YtcielagfajdbeaaGreatDoor.M

/- How an argument that came in is read: a slice of bytes as 'Rd', with the form's own bound on its length. -/
namespace Go.Proofs.YtcielagfajdbeaaGreatDoor
open Go.ChangeShapes Go.WideShapes Go.ChangeAt Go.RowKit
set_option linter.unusedVariables false
set_option maxRecDepth 100000

theorem Tryz.bytes5 : Tryz.prog.bytesOf 5 = 1 := by kernel_rfl

/-- A slice of bytes that came in. -/
theorem open_bytes {H : Type} {enc : TypeId × Value → H} {W : World} {a0 : Option Addr} {len cap : Nat} {d : DataW H} {p : List MemPlace} (h : DataW.Trod enc Tryz.prog W 0 (fun _ => true) true 24 (.slice a0 len cap) d p) :
    ∃ l : List UInt8, Rd W (.slice a0 len cap) l ∧ l.length = len ∧ ∃ zs : List Int, (a0 = none ∧ len = 0) ∨ d = .slice (lits .u8 (zs.take len)) (lits .u8 (zs.drop len)) ∧ zs.length = cap ∧ len ≤ cap := by
  obtain ⟨fuel, hf⟩ := h
  rcases open_ints Tryz.underlying24 Tryz.underlying5 (by kernel_rfl) hf with ⟨hcs, _⟩ | ⟨x, n, c, zs, hcs, _, hl, hm, hz, hd, hcell, hwz⟩
  · simp [Value.cells] at hcs
    obtain ⟨rfl, rfl, rfl⟩ := hcs
    exact ⟨[], Rd.nil _, rfl, [], .inl ⟨rfl, rfl⟩⟩
  · simp [Value.cells] at hcs
    obtain ⟨rfl, rfl, rfl⟩ := hcs
    have hz' : zs.length = cap := by simpa using hz
    have hlen : ((zs.take len).map (fun z => UInt8.ofNat z.toNat)).length = len := by simp; omega
    refine ⟨(zs.take len).map (fun z => UInt8.ofNat z.toNat), Rd.mk hlen.symm (by omega) hm (fun i hi => ?_), hlen, zs, .inr ⟨?_, hz', hl⟩⟩
    · have hi' : i < zs.length := by omega
      rw [hcell i hi']
      have hw := hwz (zs[i]) (List.getElem_mem hi')
      have hx : 0 ≤ zs[i] ∧ zs[i] ≤ 255 := by simpa [Lit.wf, IntKind.min, IntKind.max, IntKind.signed, IntKind.bits] using hw
      have e : zs.getD i 0 = zs[i] := by simp [hi']
      rw [e]
      simp only [List.getElem_map, List.getElem_take]
      rw [M.u8_ofNat]
      congr 2
      omega
    · simp only [Prod.mk.injEq] at hd
      exact hd.1

end Go.Proofs.YtcielagfajdbeaaGreatDoor

/- What bytes.Clone answers of any bytes. -/
namespace Go.Proofs.YtcielagfajdbeaaGreatDoor
open Go.RowKit
set_option linter.unusedVariables false
set_option maxRecDepth 100000

theorem take_snoc (l : List UInt8) (k : Nat) (h : k < l.length) : l.take (k + 1) = l.take k ++ [l[k]] := by
  rw [List.take_succ_eq_append_getElem h]
theorem clone_any {v : Value} {l : List UInt8} {w : World} (hr : Rd w v l) (hl : l.length ≤ 140737488355328) :
    Calls Tryz.prog 41 #[v] w fun e w' => ∃ v', e = .returned v' ∧ Ow w.heap.size w' v' l ∧ Below w.heap.size w w' := by
  have q : ∀ (w : World) (a : Option Addr) (n c n' c' : Nat), (binOp .eql 24 (.slice a n c) (.slice none n' c')).run Tryz.prog w = .ok (.bool a.isNone) w := fun w a n c n' c' => Lib.run_eql_slice_nil w _ _ a n c n' c' Tryz.underlying24
  rcases hr.two with ⟨rfl, rfl⟩ | ⟨a, c, hv, h1, h2, h3⟩
  · go_enter Tryz.func41, Tryz.ntmps41
    go_wp2
    go_ret
    exact ⟨_, rfl, Ow.nil _ _, Below.refl _ _⟩
  · subst hv
    go_enter Tryz.func41, Tryz.ntmps41
    go_wp2_with (first | (at_builtin; refine wpList_app rfl _ _ rfl w.heap.size _ [] rfl (Ow.lit0 _ _ (Nat.le_refl _)) _ l rfl (hr.alloc _) (by simp) (by simpa using hl) ?_; intro v' w' ho' hb' hg') | fail)
    go_ret
    exact ⟨_, rfl, ho', ((Below.refl _ _).alloc (Nat.le_refl _) _).trans hb'⟩
end Go.Proofs.YtcielagfajdbeaaGreatDoor

/- What number, Sum, bytes.Clone and the document's Copy answer of any bytes. -/
namespace Go.Proofs.YtcielagfajdbeaaGreatDoor
open Go.RowKit
set_option linter.unusedVariables false
set_option maxRecDepth 100000

set_option maxHeartbeats 400000 in
theorem number_any {v : Value} {l : List UInt8} {w : World} (hr : Rd w v l) (hl : l.length ≤ 8) :
    Calls Tryz.prog 52 #[v] w fun e w' => e = .returned (.int .u64 (M.num l)) ∧ ∃ k, w' = w.drewN k := by
  obtain ⟨ao, c, rfl, h1, h2, h3, h4⟩ := hr
  have hb : ∀ k, k ≤ l.length → M.num (l.take k) < 256 ^ k := fun k hk => by
    have := M.num_lt (l.take k)
    rw [List.length_take, Nat.min_eq_left hk] at this
    exact this
  unfold maxLen at h2
  go_enter Tryz.func52, Tryz.ntmps52
  go_wp2
  go_loopw [3, 8] (fun m i wr => ∃ k : Nat, k ≤ l.length ∧ i = .int .i64 k ∧ m = .int .u64 (M.num (l.take k)) ∧ wr = w) (fun _ i _ => l.length - (intOf i).toNat)
  case atStart => exact ⟨0, Nat.zero_le _, rfl, rfl, rfl⟩
  case round =>
    obtain ⟨k, hk, rfl, rfl, rfl⟩ := hrel
    by_cases hlt : k < l.length
    · obtain ⟨a, rfl, hc⟩ := h4 k hlt
      have hbk := hb k hk
      have hbk' : M.num (l.take k) < 72057594037927936 := Nat.lt_of_lt_of_le hbk (by have := Nat.pow_le_pow_right (n := 256) (by decide) (show k ≤ 7 by omega); simpa using this)
      clear hbk hb h4
      have hx := l[k].toNat_lt
      have e : bits BinOp.or IntKind.u64 ((M.num (l.take k) : Int) * 256) (l[k].toNat : Int) = (M.num (l.take (k + 1)) : Int) := by
        rw [show ((M.num (l.take k) : Int) * 256) = ((M.num (l.take k) * 256 : Nat) : Int) by omega, u64_or_nat _ _ (by omega) (by omega), nat_join 8 _ _ (by omega) (by omega), take_snoc l k hlt, M.num_snoc]
      have HE : Hid _ := e
      clear e
      go_wp2
      exact ⟨⟨k + 1, by omega, by go_num, congrArg _ HE.out, trivial⟩, by simp [intOf]; omega⟩
    · go_wp2
      go_ret
      exact ⟨ret_int (by rw [List.take_of_length_le (by omega)]), 0, rfl⟩
theorem sum_round (c : Nat) (h : c < 4294967296) : bits BinOp.xor IntKind.u32 ((c : Int) / 2) (bits BinOp.and IntKind.u32 (c : Int) 1 * 3988292384 % 4294967296) = (M.st c : Int) := by
  rw [show (1 : Int) = ((1 : Nat) : Int) from rfl, u32_and_nat _ _ h (by decide), nat_mask1, show ((c : Int) / 2) = ((c / 2 : Nat) : Int) by omega, show (((c % 2 : Nat) : Int) * 3988292384 % 4294967296) = ((c % 2 * 3988292384 : Nat) : Int) by omega, u32_xor_nat _ _ (by omega) (by omega)]
  rfl
theorem sum_turn (c : Nat) (h : c < 4294967296) : bits BinOp.xor IntKind.u32 IntKind.u32.max (c : Int) = ((4294967295 ^^^ c : Nat) : Int) := by
  rw [show IntKind.u32.max = ((4294967295 : Nat) : Int) from rfl, u32_xor_nat _ _ (by decide) h]
set_option maxHeartbeats 400000 in
theorem sum_any {v : Value} {l : List UInt8} {w : World} (hr : Rd w v l) :
    Calls Tryz.prog 54 #[v] w fun e w' => e = .returned (.int .u32 (M.crc l)) ∧ ∃ k, w' = w.drewN k := by
  obtain ⟨ao, c, rfl, h1, h2, h3, h4⟩ := hr
  unfold maxLen at h2
  go_enter Tryz.func54, Tryz.ntmps54
  go_wp2
  go_loopw [3, 8] (fun m i wr => ∃ k q : Nat, k ≤ l.length ∧ i = .int .i64 k ∧ m = .int .u32 q ∧ q < 4294967296 ∧ q = M.crcF 4294967295 (l.take k) ∧ wr = w) (fun _ i _ => l.length - (intOf i).toNat)
  case atStart => exact ⟨0, 4294967295, Nat.zero_le _, rfl, rfl, by decide, rfl, rfl⟩
  case round =>
    obtain ⟨k, q, hk, rfl, rfl, hq, hqe, rfl⟩ := hrel
    have HQ : Hid _ := hqe
    clear hqe
    by_cases hlt : k < l.length
    · obtain ⟨a, rfl, hc⟩ := h4 k hlt
      have hx := l[k].toNat_lt
      clear h4
      go_wp2
      have e0 : bits BinOp.xor IntKind.u32 (q : Int) (l[k].toNat : Int) = ((q ^^^ l[k].toNat : Nat) : Int) := u32_xor_nat _ _ hq (by omega)
      have hql := M.xor_lt q l[k].toNat hq hx
      have HS : Hid (M.st8 (q ^^^ l[k].toNat) = M.crcF 4294967295 (l.take (k + 1))) := by
        show _ = _
        rw [take_snoc l k hlt, M.crcF_snoc, HQ.out]
      rw [e0]
      clear e0
      go_loopw [3, 16] (fun m i wx => ∃ j p : Nat, j ≤ 8 ∧ i = .int .i64 j ∧ m = .int .u32 p ∧ p < 4294967296 ∧ M.stN (8 - j) p = M.st8 (q ^^^ l[k].toNat) ∧ wx = wr) (fun _ i _ => 8 - (intOf i).toNat)
      case atStart => exact ⟨0, _, Nat.zero_le _, rfl, rfl, hql, rfl, rfl⟩
      case round =>
        obtain ⟨j, p, hj, rfl, rfl, hp, hpe, rfl⟩ := hrel
        have HP : Hid _ := hpe
        clear hpe
        by_cases hlt8 : j < 8
        · have hr1 := sum_round p hp
          have HR : Hid _ := hr1
          clear hr1
          go_wp2
          refine ⟨⟨j + 1, M.st p, by omega, by go_num, congrArg _ HR.out, M.st_lt p hp, ?_, trivial⟩, by simp [intOf]; omega⟩
          have := HP.out
          rw [show 8 - j = 8 - (j + 1) + 1 by omega, M.stN] at this
          exact this
        · go_wp2
          have := HP.out
          rw [show 8 - j = 0 by omega, M.stN] at this
          exact ⟨⟨k + 1, p, by omega, by go_num, rfl, hp, by rw [← HS.out, this], trivial⟩, by simp [intOf]; omega⟩
    · go_wp2
      go_ret
      refine ⟨ret_int ?_, 0, rfl⟩
      rw [sum_turn q hq, HQ.out, List.take_of_length_le (by omega)]; rfl
end Go.Proofs.YtcielagfajdbeaaGreatDoor

/- Plain mathematics of what is read back: numbers, ordered texts, frames and rows, both ways. No program is named here. -/
namespace Go.Proofs.YtcielagfajdbeaaGreatDoor.M
set_option maxRecDepth 100000

/-- The fields of a row, one behind the other. -/
def rowB : List (List UInt8) → List UInt8
  | [] => []
  | f :: r => vi f.length ++ f ++ rowB r
def row (ls : List (List UInt8)) : List UInt8 := vi ls.length ++ rowB ls

theorem rowB_app (a b : List (List UInt8)) : rowB (a ++ b) = rowB a ++ rowB b := by
  induction a with
  | nil => rfl
  | cons f r ih => simp [rowB, ih]
theorem rowB_snoc (ls : List (List UInt8)) (k : Nat) (h : k < ls.length) : rowB (ls.take (k + 1)) = rowB (ls.take k) ++ vi ls[k].length ++ ls[k] := by
  rw [List.take_succ_eq_append_getElem h, rowB_app]
  simp [rowB]
theorem rowB_le (ls : List (List UInt8)) (k : Nat) : (rowB (ls.take k)).length ≤ (rowB ls).length := by
  have : rowB ls = rowB (ls.take k) ++ rowB (ls.drop k) := by rw [← rowB_app, List.take_append_drop]
  rw [this]; simp
theorem rowB_field (ls : List (List UInt8)) (k : Nat) (h : k < ls.length) : (rowB (ls.take k)).length + (vi ls[k].length).length + ls[k].length ≤ (rowB ls).length := by
  have h1 := rowB_le ls (k + 1)
  rw [rowB_snoc ls k h] at h1
  simp only [List.length_append] at h1
  omega

/-- k fields read: the fields, what stands behind, the error. -/
def rf : Nat → List UInt8 → List (List UInt8) × List UInt8 × Nat
  | 0, l => ([], l, 0)
  | k + 1, l =>
    if (tv l).2.2 ≠ 0 then ([], [], (tv l).2.2)
    else if (tv l).2.1.length < (tv l).1 then ([], [], 10)
    else if (rf k ((tv l).2.1.drop (tv l).1)).2.2 ≠ 0 then ([], [], (rf k ((tv l).2.1.drop (tv l).1)).2.2)
    else ((tv l).2.1.take (tv l).1 :: (rf k ((tv l).2.1.drop (tv l).1)).1, (rf k ((tv l).2.1.drop (tv l).1)).2.1, 0)
/-- What a row is read as: its fields, the error. -/
def tr (l : List UInt8) : List (List UInt8) × Nat :=
  if (tv l).2.2 ≠ 0 then ([], (tv l).2.2)
  else if (tv l).2.1.length < (tv l).1 then ([], 12)
  else if (rf (tv l).1 (tv l).2.1).2.2 ≠ 0 then ([], (rf (tv l).1 (tv l).2.1).2.2)
  else if (rf (tv l).1 (tv l).2.1).2.1.length ≠ 0 then ([], 12)
  else ((rf (tv l).1 (tv l).2.1).1, 0)

/-- One field read. -/
def fd (l : List UInt8) : List UInt8 × List UInt8 × Nat := if (tv l).2.2 ≠ 0 then ([], [], (tv l).2.2) else part (tv l).2.1 (tv l).1
/-- k fields read, behind those that were read so far. -/
def rfA : Nat → List (List UInt8) → List UInt8 → List (List UInt8) × List UInt8 × Nat
  | 0, fs, l => (fs, l, 0)
  | k + 1, fs, l => if (fd l).2.2 ≠ 0 then ([], [], (fd l).2.2) else rfA k (fs ++ [(fd l).1]) (fd l).2.1
theorem rfA_rf (k : Nat) (fs : List (List UInt8)) (l : List UInt8) : rfA k fs l = if (rf k l).2.2 ≠ 0 then ([], [], (rf k l).2.2) else (fs ++ (rf k l).1, (rf k l).2.1, 0) := by
  induction k generalizing fs l with
  | zero => simp [rfA, rf]
  | succ k ih =>
    rw [rfA, rf]
    unfold fd part
    by_cases h1 : (tv l).2.2 ≠ 0
    · simp only [if_pos h1]
    · simp only [if_neg h1]
      by_cases h2 : (tv l).2.1.length < (tv l).1
      · simp [if_pos h2]
      · simp only [if_neg h2, ne_eq, not_true_eq_false, if_false]
        rw [ih]
        by_cases h3 : (rf k ((tv l).2.1.drop (tv l).1)).2.2 ≠ 0
        · simp only [if_pos h3]
        · simp only [if_neg h3, ne_eq, not_true_eq_false, if_false, List.append_assoc, List.singleton_append]
theorem rfA_nil (k : Nat) (l : List UInt8) : rfA k [] l = if (rf k l).2.2 ≠ 0 then ([], [], (rf k l).2.2) else ((rf k l).1, (rf k l).2.1, 0) := by simpa using rfA_rf k [] l
theorem tr_rfA (l : List UInt8) (h1 : (tv l).2.2 = 0) (h2 : (tv l).1 ≤ (tv l).2.1.length) : tr l = if (rfA (tv l).1 [] (tv l).2.1).2.2 ≠ 0 then ([], (rfA (tv l).1 [] (tv l).2.1).2.2) else if (rfA (tv l).1 [] (tv l).2.1).2.1.length ≠ 0 then ([], 12) else ((rfA (tv l).1 [] (tv l).2.1).1, 0) := by
  unfold tr
  rw [if_neg (by simp [h1]), if_neg (by omega), rfA_nil]
  by_cases h3 : (rf (tv l).1 (tv l).2.1).2.2 ≠ 0
  · simp only [if_pos h3]
  · simp only [if_neg h3, ne_eq, not_true_eq_false, if_false]
theorem fd_len (l : List UInt8) (ht : (tv l).2.1.length ≤ l.length) : (fd l).1.length ≤ l.length ∧ (fd l).2.1.length ≤ l.length := by
  unfold fd part
  split
  · simp
  · split
    · simp
    · simp only [List.length_take, List.length_drop]; omega

theorem viF_pos (k n : Nat) : 1 ≤ (viF k n).length := by
  cases k with
  | zero => simp [viF]
  | succ k => rw [viF]; split <;> simp
theorem vi_pos (n : Nat) : 1 ≤ (vi n).length := viF_pos 9 n

theorem rf_back (ls : List (List UInt8)) (r : List UInt8) (h : ∀ f ∈ ls, f.length < 18446744073709551616) : rf ls.length (rowB ls ++ r) = (ls, r, 0) := by
  induction ls with
  | nil => rfl
  | cons f ls ih =>
    have hf := h f (List.mem_cons_self ..)
    have e : tv (rowB (f :: ls) ++ r) = (f.length, f ++ (rowB ls ++ r), 0) := by
      rw [rowB, List.append_assoc, List.append_assoc]; exact tv_vi _ _ hf
    rw [List.length_cons, rf, e]
    simp only [ne_eq, not_true_eq_false, if_false]
    rw [if_neg (by simp), List.drop_left' rfl, List.take_left' rfl, ih (fun g hg => h g (List.mem_cons_of_mem _ hg))]
    simp
theorem rowB_pos (ls : List (List UInt8)) : ls.length ≤ (rowB ls).length := by
  induction ls with
  | nil => simp
  | cons f r ih => have := vi_pos f.length; simp only [rowB, List.length_append, List.length_cons]; omega
theorem tr_row (ls : List (List UInt8)) (hn : ls.length < 18446744073709551616) (h : ∀ f ∈ ls, f.length < 18446744073709551616) : tr (row ls) = (ls, 0) := by
  have e : tv (row ls) = (ls.length, rowB ls, 0) := tv_vi _ _ hn
  have e2 : rf ls.length (rowB ls) = (ls, [], 0) := by simpa using rf_back ls [] h
  have := rowB_pos ls
  unfold tr
  rw [e]
  simp only [ne_eq, not_true_eq_false, if_false]
  rw [if_neg (by omega), e2]
  simp

/-- The converse: what is read as a number is written as just that. -/
theorem viF_val (k s : Nat) (l : List UInt8) (hs : s ≤ k) (hk : k ≤ 9) (hl : l.length = s + 1) (h1 : ∀ j, (h : j < s) → 128 ≤ (l[j]'(by omega)).toNat) (h2 : (l[s]'(by omega)).toNat < 128) (h3 : 0 < s → (l[s]'(by omega)).toNat ≠ 0) :
    viF k (val l) = l := by
  induction k generalizing s l with
  | zero =>
    obtain rfl : s = 0 := by omega
    match l, hl with
    | [x], _ =>
      simp at h2
      have e : val [x] = x.toNat := by simp [val]; omega
      rw [e, viF, UInt8.ofNat_toNat]
  | succ k ih =>
    match l, hl with
    | x :: r, hl =>
      cases s with
      | zero =>
        have : r = [] := by simpa using hl
        subst this
        simp at h2
        have e : val [x] = x.toNat := by simp [val]; omega
        rw [e, viF, if_pos h2, UInt8.ofNat_toNat]
      | succ s =>
        have hx := h1 0 (by omega)
        simp only [List.getElem_cons_zero] at hx
        have hlt := x.toNat_lt
        have hr := ih s r (by omega) (by omega) (by simpa using hl) (fun j hj => by simpa using h1 (j + 1) (by omega)) (by simpa using h2) (fun _ => by simpa using h3 (by omega))
        have hv : 1 ≤ val r := by
          have hrl : r.length = s + 1 := by simpa using hl
          have hlast : r[s].toNat ≠ 0 := by simpa using h3 (by omega)
          have hlast2 : r[s].toNat < 128 := by simpa using h2
          have e : r = r.take s ++ [r[s]] := by
            have := List.take_succ_eq_append_getElem (l := r) (i := s) (by omega)
            rw [List.take_of_length_le (by omega)] at this
            exact this
          rw [e, val_append]
          have hp : 0 < 128 ^ (r.take s).length := Nat.pow_pos (by decide)
          have hq : 1 ≤ val [r[s]] := by simp [val]; omega
          have := Nat.mul_le_mul hp hq
          omega
        rw [val, viF, if_neg (by omega)]
        rw [show (x.toNat % 128 + 128 * val r) % 128 + 128 = x.toNat by omega, show (x.toNat % 128 + 128 * val r) / 128 = val r by omega, hr, UInt8.ofNat_toNat]

theorem cont_out (m : Nat) (l : List UInt8) : (∀ j, (h : j < cont m l) → (h' : j < l.length) → 128 ≤ l[j].toNat) ∧ (cont m l < m → (h : cont m l < l.length) → l[cont m l].toNat < 128) := by
  induction m generalizing l with
  | zero => exact ⟨fun j h => by simp [cont] at h, fun h => by omega⟩
  | succ m ih =>
    cases l with
    | nil => exact ⟨fun j h => by simp [cont] at h, fun _ h => by simp at h⟩
    | cons x l =>
      obtain ⟨i1, i2⟩ := ih l
      by_cases hx : 128 ≤ x.toNat
      · have e : cont (m + 1) (x :: l) = cont m l + 1 := by simp only [cont]; rw [if_pos hx]
        refine ⟨fun j h h' => ?_, fun h h' => ?_⟩
        · cases j with
          | zero => simpa using hx
          | succ j => simpa using i1 j (by omega) (by simpa using h')
        · have := i2 (by omega) (by rw [e] at h'; simpa using h')
          simp only [e, List.getElem_cons_succ]; exact this
      · have e : cont (m + 1) (x :: l) = 0 := by simp only [cont]; rw [if_neg hx]
        refine ⟨fun j h => by omega, fun h h' => ?_⟩
        simp only [e, List.getElem_cons_zero]; omega

theorem tv_form (l : List UInt8) (h : (tv l).2.2 = 0) : vi (tv l).1 ++ (tv l).2.1 = l := by
  obtain ⟨c1, c2⟩ := cont_out 10 l
  have hle := cont_le 10 l
  unfold tv at h ⊢
  simp only [] at h ⊢
  by_cases h1 : cont 10 l = 10
  · rw [if_pos h1] at h; cases h
  · rw [if_neg h1] at h ⊢
    by_cases h2 : l.length ≤ cont 10 l
    · rw [if_pos h2] at h; cases h
    · rw [if_neg h2] at h ⊢
      by_cases h3 : 0 < cont 10 l ∧ (l.getD (cont 10 l) 0).toNat = 0 ∨ cont 10 l = 9 ∧ 1 < (l.getD (cont 10 l) 0).toNat
      · rw [if_pos h3] at h; cases h
      · rw [if_neg h3]
        have hlt : cont 10 l < l.length := by omega
        have eg : l.getD (cont 10 l) 0 = l[cont 10 l] := by simp [hlt]
        rw [eg] at h3
        have := viF_val 9 (cont 10 l) (l.take (cont 10 l + 1)) (by omega) (Nat.le_refl _) (by simp; omega) (fun j hj => by rw [List.getElem_take]; exact c1 j hj (by omega)) (by rw [List.getElem_take]; exact c2 (by omega) hlt) (fun h0 => by rw [List.getElem_take]; intro q; exact h3 (.inl ⟨h0, q⟩))
        show viF 9 (val (l.take (cont 10 l + 1))) ++ l.drop (cont 10 l + 1) = l
        rw [this, List.take_append_drop]

theorem rf_form (k : Nat) (l : List UInt8) (h : (rf k l).2.2 = 0) : (rf k l).1.length = k ∧ rowB (rf k l).1 ++ (rf k l).2.1 = l := by
  induction k generalizing l with
  | zero => exact ⟨rfl, rfl⟩
  | succ k ih =>
    rw [rf] at h ⊢
    by_cases h1 : (tv l).2.2 ≠ 0
    · rw [if_pos h1] at h; exact absurd h h1
    · rw [if_neg h1] at h ⊢
      by_cases h2 : (tv l).2.1.length < (tv l).1
      · rw [if_pos h2] at h; cases h
      · rw [if_neg h2] at h ⊢
        by_cases h3 : (rf k ((tv l).2.1.drop (tv l).1)).2.2 ≠ 0
        · rw [if_pos h3] at h; exact absurd h h3
        · rw [if_neg h3]
          have h1' : (tv l).2.2 = 0 := by simpa using h1
          obtain ⟨q1, q2⟩ := ih _ (show _ = 0 by simpa using h3)
          have ht := tv_form l h1'
          refine ⟨by simp [q1], ?_⟩
          show vi ((tv l).2.1.take (tv l).1).length ++ (tv l).2.1.take (tv l).1 ++ rowB _ ++ _ = l
          rw [List.append_assoc, List.append_assoc, q2, List.take_append_drop, List.length_take, Nat.min_eq_left (by omega), ht]
theorem tr_form (l : List UInt8) (h : (tr l).2 = 0) : row (tr l).1 = l := by
  unfold tr at h ⊢
  by_cases h1 : (tv l).2.2 ≠ 0
  · rw [if_pos h1] at h; exact absurd h h1
  · rw [if_neg h1] at h ⊢
    by_cases h2 : (tv l).2.1.length < (tv l).1
    · rw [if_pos h2] at h; cases h
    · rw [if_neg h2] at h ⊢
      by_cases h3 : (rf (tv l).1 (tv l).2.1).2.2 ≠ 0
      · rw [if_pos h3] at h; exact absurd h h3
      · rw [if_neg h3] at h ⊢
        by_cases h4 : (rf (tv l).1 (tv l).2.1).2.1.length ≠ 0
        · rw [if_pos h4] at h; cases h
        · rw [if_neg h4]
          obtain ⟨q1, q2⟩ := rf_form _ _ (show (rf (tv l).1 (tv l).2.1).2.2 = 0 by simpa using h3)
          have e : (rf (tv l).1 (tv l).2.1).2.1 = [] := List.length_eq_zero_iff.1 (by simpa using h4)
          rw [e, List.append_nil] at q2
          have ht := tv_form l (by simpa using h1)
          show vi (rf (tv l).1 (tv l).2.1).1.length ++ rowB _ = l
          rw [q1, q2, ht]

theorem be_num4 (u : List UInt8) (k : Nat) (h : u.length = k) : be k (num u) = u := num_inj _ _ (by rw [be_length, h]) (by rw [num_be k _ (by have := num_lt u; rw [h] at this; exact this)])

theorem tf_form (l : List UInt8) (h : (tf l).2.2 = 0) : frame (tf l).1 ++ (tf l).2.1 = l := by
  unfold tf at h ⊢
  simp only [] at h ⊢
  by_cases h1 : (tv l).2.2 ≠ 0
  · rw [if_pos h1] at h; exact absurd h h1
  · rw [if_neg h1] at h ⊢
    by_cases h2 : (tv l).2.1.length < 4
    · rw [if_pos h2] at h; cases h
    · rw [if_neg h2] at h ⊢
      by_cases h3 : ((tv l).2.1.drop 4).length < (tv l).1
      · rw [if_pos h3] at h; cases h
      · rw [if_neg h3] at h ⊢
        by_cases h4 : crc (((tv l).2.1.drop 4).take (tv l).1) ≠ num ((tv l).2.1.take 4)
        · rw [if_pos h4] at h; cases h
        · rw [if_neg h4]
          have ht := tv_form l (by simpa using h1)
          have h4' : crc (((tv l).2.1.drop 4).take (tv l).1) = num ((tv l).2.1.take 4) := by simpa using h4
          show frame (((tv l).2.1.drop 4).take (tv l).1) ++ ((tv l).2.1.drop 4).drop (tv l).1 = l
          unfold frame
          rw [h4', be_num4 _ 4 (by simp; omega), List.append_assoc, List.append_assoc, List.take_append_drop, List.take_append_drop, List.length_take, Nat.min_eq_left (by omega), ht]

/-- A last group read. -/
theorem tg_pad (l r : List UInt8) (h : l.length < 8) : tg (pad l ++ r) = (l, 0) := by
  have hp := pad_length l h
  have e8 : (pad l ++ r).getD 8 0 = UInt8.ofNat (247 + l.length) := by
    rw [List.getD_eq_getElem?_getD, List.getElem?_append_left (by omega)]
    have : (pad l)[8]? = some (UInt8.ofNat (247 + l.length)) := by
      unfold pad
      rw [List.getElem?_append_right (by simp; omega)]
      have : (l ++ List.replicate (8 - l.length) (0 : UInt8)).length = 8 := by simp; omega
      rw [this]; rfl
    rw [this]; rfl
  have en : (UInt8.ofNat (247 + l.length)).toNat = 247 + l.length := by rw [UInt8.toNat_ofNat']; omega
  have t8 : (pad l ++ r).take 8 = l ++ List.replicate (8 - l.length) 0 := by
    unfold pad
    rw [List.append_assoc]
    exact List.take_left' (by simp; omega)
  unfold tg
  rw [if_neg (by simp [hp]), e8, en, if_neg (by omega), t8, show 247 + l.length - 247 = l.length by omega, List.drop_left' rfl, if_pos (by simp)]
  congr 1
  unfold pad
  rw [List.append_assoc, List.append_assoc]
  exact List.take_left' rfl
theorem tg_full (a r : List UInt8) (h : a.length = 8) : tg (a ++ [255] ++ r) = (a, 0) := by
  have e8 : (a ++ [255] ++ r).getD 8 0 = 255 := by
    rw [List.getD_eq_getElem?_getD, List.append_assoc, List.getElem?_append_right (by omega), h]; rfl
  have t8 : (a ++ [255] ++ r).take 8 = a := by rw [List.append_assoc]; exact List.take_left' h
  unfold tg
  rw [if_neg (by simp only [List.length_append, h, List.length_singleton]; omega), e8, if_neg (by decide), t8]
  rw [show (255 : UInt8).toNat - 247 = 8 by decide, if_pos (by rw [List.drop_of_length_le (by omega)]; rfl), t8]

theorem tbA_back (k n : Nat) (acc l r : List UInt8) (hn : l.length < 8 * (k + 1)) (hk : k < n) : tbA n acc (obF k l ++ r) = (acc ++ l, r, 0) := by
  induction k generalizing n acc l with
  | zero =>
    obtain ⟨n, rfl⟩ : ∃ m, n = m + 1 := ⟨n - 1, by omega⟩
    rw [tbA, obF, tg_pad l r (by omega)]
    simp only [ne_eq, not_true_eq_false, if_false]
    rw [if_pos (by omega), List.drop_left' (pad_length l (by omega))]
  | succ k ih =>
    obtain ⟨n, rfl⟩ : ∃ m, n = m + 1 := ⟨n - 1, by omega⟩
    rw [tbA, obF]
    by_cases h : l.length < 8
    · rw [if_pos h, tg_pad l r h]
      simp only [ne_eq, not_true_eq_false, if_false]
      rw [if_pos h, List.drop_left' (pad_length l h)]
    · rw [if_neg h, List.append_assoc, tg_full _ _ (by simp; omega)]
      simp only [ne_eq, not_true_eq_false, if_false]
      rw [if_neg (by simp; omega), List.drop_left' (by simp; omega), ih n _ _ (by simp; omega) (by omega), List.append_assoc, List.take_append_drop]
theorem tb_back (b r : List UInt8) : tb (ob b ++ r) = (b, r, 0) := by
  unfold tb ob
  have h := obF_length (b.length / 8) b (by omega)
  rw [tbA_back (b.length / 8) _ [] b r (by omega) (by rw [List.length_append, h]; omega)]
  simp
theorem tk_back (b : List UInt8) (n : Nat) (hn : n < 18446744073709551616) : tk (key b n) = (b, n, 0) := by
  unfold tk key
  simp only []
  have h8 := be_length 8 (18446744073709551615 - n)
  rw [tb_back]
  simp only [ne_eq, not_true_eq_false, if_false]
  have h256 : 18446744073709551615 - n < 256 ^ 8 := by
    have : (256 : Nat) ^ 8 = 18446744073709551616 := by decide
    omega
  rw [if_neg (by omega), h8, if_neg (by simp), List.take_of_length_le (by omega), num_be 8 _ h256, show 18446744073709551615 - (18446744073709551615 - n) = n by omega]

/-- The converse for ordered texts. -/
theorem tg_form (l : List UInt8) (h : (tg l).2 = 0) : ((tg l).1.length < 8 → pad (tg l).1 = l.take 9) ∧ ((tg l).1.length = 8 → (tg l).1 ++ [255] = l.take 9) := by
  obtain ⟨h1, h2, h3, h4⟩ := tg_ok l h
  have hb := (l.getD 8 0).toNat_lt
  have hl := tg_len l h
  have e9 : l.take 9 = l.take 8 ++ [l.getD 8 0] := by
    rw [List.take_succ_eq_append_getElem (show 8 < l.length by omega)]
    simp [show 8 < l.length by omega]
  generalize hm : (l.getD 8 0).toNat - 247 = m at *
  have em : l.getD 8 0 = UInt8.ofNat (247 + m) := by
    rw [← UInt8.ofNat_toNat (x := l.getD 8 0)]; congr 1; omega
  refine ⟨fun q => ?_, fun q => ?_⟩
  · rw [e9, em]
    unfold pad
    rw [hl.1]
    congr 1
    have ez : (l.take 8).drop m = List.replicate (8 - m) 0 := by
      refine List.eq_replicate_iff.2 ⟨by simp; omega, fun x hx => ?_⟩
      have := List.all_eq_true.1 h4 x hx
      simpa using this
    rw [h3, ← ez]
    have : l.take m = (l.take 8).take m := by rw [List.take_take, Nat.min_eq_left (by omega)]
    rw [this, List.take_append_drop]
  · rw [e9, em, h3, show m = 8 by omega]
    rfl
theorem tbA_form (n : Nat) (acc l : List UInt8) (h : (tbA n acc l).2.2 = 0) : ∃ x, (tbA n acc l).1 = acc ++ x ∧ ob x ++ (tbA n acc l).2.1 = l := by
  induction n generalizing acc l with
  | zero => cases h
  | succ n ih =>
    rw [tbA] at h ⊢
    by_cases h1 : (tg l).2 ≠ 0
    · rw [if_pos h1] at h; exact absurd h h1
    · rw [if_neg h1] at h ⊢
      obtain ⟨f1, f2⟩ := tg_form l (by simpa using h1)
      have hl := tg_len l (by simpa using h1)
      by_cases h2 : (tg l).1.length < 8
      · rw [if_pos h2]
        refine ⟨_, rfl, ?_⟩
        show ob (tg l).1 ++ l.drop 9 = l
        unfold ob
        rw [obF_short _ _ h2, f1 h2, List.take_append_drop]
      · rw [if_neg h2] at h ⊢
        obtain ⟨x, q1, q2⟩ := ih _ _ h
        refine ⟨(tg l).1 ++ x, by rw [q1, List.append_assoc], ?_⟩
        have e8 : (tg l).1.length = 8 := by omega
        have eo : ob ((tg l).1 ++ x) = (tg l).1 ++ [255] ++ ob x := by
          unfold ob
          rw [List.length_append, e8, show (8 + x.length) / 8 = x.length / 8 + 1 by omega, obF, if_neg (by simp; omega), List.take_left' e8, List.drop_left' e8]
        rw [eo, f2 e8, List.append_assoc, q2, List.take_append_drop]
theorem tb_form (l : List UInt8) (h : (tb l).2.2 = 0) : ob (tb l).1 ++ (tb l).2.1 = l := by
  obtain ⟨x, q1, q2⟩ := tbA_form _ _ _ h
  unfold tb
  rw [q1]
  simpa using q2
end Go.Proofs.YtcielagfajdbeaaGreatDoor.M

/- What the bound on an input's bulk gives (Bulk), and a []byte that came in. -/
