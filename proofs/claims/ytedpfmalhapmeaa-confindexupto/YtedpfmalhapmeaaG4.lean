/- What Enter answers of any configuration and any changes. -/
import Derived.Test.YtedpfmalhapmeaaG3
import Derived.Test.YtedpfmalhapmeaaG2
import Derived.Test.YtedpfmalhapmeaaG1
import Derived.Deep.RegionHeld3
namespace Go.Proofs.Ytedpfmalhapmeaa
open Go.RowKit Go.Maps
set_option linter.unusedVariables false
set_option maxRecDepth 100000

/-- A change: its kind, its peer. -/
abbrev Cg := Int × UInt64
structure CgAt (w : World) (a : Addr) (q : Cg) : Prop where
  c0 : w.cell? a = some (.int .i64 q.1)
  c1 : w.cell? ⟨a.block, a.off + 1, none⟩ = some (.int .u64 (q.2.toNat : Int))
/-- The slice value v reads as these changes. -/
def RdX (w : World) (v : Value) (qs : List Cg) : Prop :=
  ∃ ao c, v = .slice ao qs.length c ∧ qs.length ≤ c ∧ c ≤ maxLen ∧ (∀ q ∈ qs, -9223372036854775808 ≤ q.1 ∧ q.1 ≤ 9223372036854775807) ∧ ∀ (i : Nat) q, qs[i]? = some q → ∃ a, ao = some a ∧ CgAt w (a.add (i * 2)) q
theorem RdX.below {B : Nat} {w w' : World} {v : Value} {qs : List Cg} (h : RdX w v qs) (hb : Below B w w') (hB : w.heap.size ≤ B) : RdX w' v qs := by
  obtain ⟨ao, c, h0, h1, h2, h3, h4⟩ := h
  refine ⟨ao, c, h0, h1, h2, h3, fun i q hq => ?_⟩
  obtain ⟨a, e, hc⟩ := h4 i q hq
  have l0 := World.block_lt_of_cell? w _ hc.c0
  have l1 := World.block_lt_of_cell? w _ hc.c1
  exact ⟨a, e, by rw [hb.cell (by omega)]; exact hc.c0, by rw [hb.cell (by omega)]; exact hc.c1⟩

/-- The changes one after the other. -/
def foldS (S : UInt64 → Nat) : List Cg → Option (UInt64 → Nat)
  | [] => some S
  | q :: r => (chg1 S q.1 q.2).bind fun S' => foldS S' r
theorem chg1_le {S S' : UInt64 → Nat} {k : Int} {p : UInt64} (h : chg1 S k p = some S') (hs : ∀ x, S x ≤ 2) : ∀ x, S' x ≤ 2 := by
  intro x
  unfold chg1 at h
  have hu : ∀ s, s ≤ 2 → upd S p s x ≤ 2 := fun s hs2 => by unfold upd; split; exact hs2; exact hs x
  split at h
  · cases h
  · split at h
    · cases h; exact hu 1 (by omega)
    · split at h
      · split at h
        · cases h
        · cases h; exact hu 2 (by omega)
      · split at h
        · cases h; exact hu 0 (by omega)
        · cases h
/-- The rising list of all that have such a seat. -/
def IsL (S : UInt64 → Nat) (s : Nat) (l : List UInt64) : Prop := Ris l ∧ ∀ x, x ∈ l ↔ S x = s
def none3 : Cn := ([], [], [])
def nxt (V V' L' : List UInt64) : Cn := (V', if V' = V then [] else V, L')
/-- What Enter comes to. -/
def EntR (c : Cn) (qs : List Cg) (res : Cn) (er : Nat) : Prop :=
  (chk c = false ∧ res = none3 ∧ er = 70) ∨ (chk c = true ∧ 0 < c.2.1.length ∧ res = none3 ∧ er = 71) ∨
  (chk c = true ∧ c.2.1 = [] ∧ foldS (seatF c.1 c.2.2) qs = none ∧ res = none3 ∧ er = 70) ∨
  (chk c = true ∧ c.2.1 = [] ∧ ∃ S V' L', foldS (seatF c.1 c.2.2) qs = some S ∧ IsL S 1 V' ∧ IsL S 2 L' ∧ ((chk (nxt c.1 V' L') = false ∧ res = none3 ∧ er = 70) ∨ (chk (nxt c.1 V' L') = true ∧ res = nxt c.1 V' L' ∧ er = 0)))
def Oc (B : Nat) (w : World) (x y z : Value) (c : Cn) : Prop := Ou B w x c.1 ∧ Ou B w y c.2.1 ∧ Ou B w z c.2.2
theorem Oc.rc {B : Nat} {w : World} {x y z : Value} {c : Cn} (h : Oc B w x y z c) : Rc w x y z c := ⟨h.1.ru, h.2.1.ru, h.2.2.ru⟩
theorem Oc.nil (B : Nat) (w : World) : Oc B w (.slice none 0 0) (.slice none 0 0) (.slice none 0 0) none3 := ⟨Ou.nil _ _, Ou.nil _ _, Ou.nil _ _⟩
theorem Ou.keptC {B : Nat} {T : Nat → Prop} {w w' : World} {v : Value} {l : List UInt64} (h : Ou B w v l) (hc : Chg T w w') (hT : ∀ b, v.ownBlock = some b → ¬ T b) : Ou B w' v l := ownsRow_keptC h hc hT
theorem Oc.keptC {B : Nat} {T : Nat → Prop} {w w' : World} {x y z : Value} {c : Cn} (h : Oc B w x y z c) (hc : Chg T w w') (hT : ∀ b, B ≤ b → ¬ T b) : Oc B w' x y z c :=
  ⟨h.1.keptC hc (fun b e => hT b (h.1.lt b e).1), h.2.1.keptC hc (fun b e => hT b (h.2.1.lt b e).1), h.2.2.keptC hc (fun b e => hT b (h.2.2.lt b e).1)⟩
theorem Oc.mono {B B' : Nat} {w : World} {x y z : Value} {c : Cn} (h : Oc B w x y z c) (hB : B' ≤ B) : Oc B' w x y z c := ⟨h.1.mono hB, h.2.1.mono hB, h.2.2.mono hB⟩

/-- The result is written into its block. -/
theorem outO {w w1 : World} {g s0 : Nat} {u v0 t0 x y z : Value} {t : TypeId} {c : Cn} (hg : w1.heap[g]? = some (.cells #[u, v0, t0] t (0, 0))) (hw : w.heap.size ≤ g) (hgs : g < s0) (hb : Below w.heap.size w w1) (hr : Oc s0 w1 x y z c) (W : World) (hW : W = ((w1.setCell ⟨g, 0, none⟩ x).setCell ⟨g, 1, none⟩ y).setCell ⟨g, 2, none⟩ z) :
    (W.cell? ⟨g, 0, none⟩ = some x ∧ W.cell? ⟨g, 1, none⟩ = some y ∧ W.cell? ⟨g, 2, none⟩ = some z) ∧ Oc w.heap.size W x y z c ∧ Below w.heap.size w W := by
  subst hW
  obtain ⟨k0, k1, k2, _⟩ := at3 (put3 hg x y z)
  have hch := put3_chg w1 g x y z
  exact ⟨⟨k0, k1, k2⟩, (hr.keptC hch (fun b h q => by omega)).mono (by omega), hb.trans (hch.below (fun b q => by omega) hb.size)⟩

theorem foldS_snoc (S S' : UInt64 → Nat) (qs : List Cg) (k : Nat) (q : Cg) (hq : qs[k]? = some q) (h : foldS S (qs.take k) = some S') : foldS S (qs.take (k + 1)) = chg1 S' q.1 q.2 := by
  have e : qs.take (k + 1) = qs.take k ++ [q] := by
    obtain ⟨hk, e⟩ := List.getElem?_eq_some_iff.1 hq
    rw [List.take_succ_eq_append_getElem hk, e]
  have app : ∀ (a b : List Cg) (T : UInt64 → Nat), foldS T (a ++ b) = (foldS T a).bind fun T' => foldS T' b := by
    intro a b
    induction a with
    | nil => intro T; rfl
    | cons x r ih =>
      intro T
      simp only [List.cons_append, foldS]
      cases chg1 T x.1 x.2 with
      | none => rfl
      | some T' => exact ih T'
  rw [e, app, h]
  show ((chg1 S' q.1 q.2).bind fun T => foldS T []) = _
  cases chg1 S' q.1 q.2 <;> rfl
theorem foldS_none (S S' : UInt64 → Nat) (qs : List Cg) (k : Nat) (q : Cg) (hq : qs[k]? = some q) (h : foldS S (qs.take k) = some S') (hn : chg1 S' q.1 q.2 = none) : foldS S qs = none := by
  have app : ∀ (a b : List Cg) (T : UInt64 → Nat), foldS T (a ++ b) = (foldS T a).bind fun T' => foldS T' b := by
    intro a b
    induction a with
    | nil => intro T; rfl
    | cons x r ih =>
      intro T
      simp only [List.cons_append, foldS]
      cases chg1 T x.1 x.2 with
      | none => rfl
      | some T' => exact ih T'
  have h1 := foldS_snoc S S' qs k q hq h
  rw [hn] at h1
  rw [← List.take_append_drop (k + 1) qs, app, h1]
  rfl
theorem seatF_le (V L : List UInt64) : ∀ x, seatF V L x ≤ 2 := fun x => by unfold seatF; split; omega; split <;> omega
end Go.Proofs.Ytedpfmalhapmeaa

/- How a configuration, a list of numbers, a list of changes that came in is read. -/
namespace Go.Proofs.Ytedpfmalhapmeaa
open Go.ChangeShapes Go.WideShapes Go.ChangeAt Go.RowKit
set_option linter.unusedVariables false
set_option maxRecDepth 100000

theorem u64_ofNat (z : Int) (h : 0 ≤ z ∧ z ≤ 18446744073709551615) : ((UInt64.ofNat z.toNat).toNat : Int) = z := by
  rw [UInt64.toNat_ofNat']; omega
/-- One list of numbers among the cells that came in. -/
theorem open_nums_cs {H : Type} {enc : TypeId × Value → H} {W : World} {fuel : Nat} {cs : List Value} {x : DataW H × List MemPlace} (hf : DataW.trod enc Try.prog W 0 (fun _ => true) true fuel 22 cs = some x) :
    ∃ u l, cs = [u] ∧ Ru W u l ∧ l.length + 1 ≤ Rows.uptoBulk x.1 := by
  rcases open_ints Try.underlying22 Try.underlying25 (by kernel_rfl) hf with ⟨hcs, hx⟩ | ⟨a, len, cap, zs, hcs, _, hl, hm, hz, hd, hcell, hwz⟩
  · subst hx
    exact ⟨_, [], hcs, Ru.nil _, by simp [Rows.uptoBulk]⟩
  · have hz' : zs.length = cap := by simpa using hz
    have hlen : ((zs.take len).map (fun z => UInt64.ofNat z.toNat)).length = len := by simp; omega
    refine ⟨_, (zs.take len).map (fun z => UInt64.ofNat z.toNat), hcs, Ru.mk hlen.symm (by omega) hm (fun i hi => ?_), ?_⟩
    · have hi' : i < zs.length := by omega
      rw [hcell i hi']
      have hw := hwz (zs[i]) (List.getElem_mem hi')
      have hx : 0 ≤ zs[i] ∧ zs[i] ≤ 18446744073709551615 := by simpa [Lit.wf, IntKind.min, IntKind.max, IntKind.signed, IntKind.bits] using hw
      have e : zs.getD i 0 = zs[i] := by simp [hi']
      rw [e]
      simp only [List.getElem_map, List.getElem_take]
      rw [u64_ofNat _ hx]
    · rw [hlen, hd]
      have := bulk_ge (H := H) (lits .u64 (zs.take len))
      simp only [Rows.uptoBulk]
      simp only [lits, List.length_map, List.length_take] at this
      simp only [lits]
      omega
/-- A list of numbers that came in. -/
theorem open_nums {H : Type} {enc : TypeId × Value → H} {W : World} {a0 : Option Addr} {len cap : Nat} {d : DataW H} {p : List MemPlace} (h : DataW.Trod enc Try.prog W 0 (fun _ => true) true 22 (.slice a0 len cap) d p) :
    ∃ l : List UInt64, Ru W (.slice a0 len cap) l ∧ l.length + 1 ≤ Rows.uptoBulk d := by
  obtain ⟨fuel, hf⟩ := h
  obtain ⟨u, l, e, hq, hb⟩ := open_nums_cs hf
  simp [Value.cells] at e
  subst e
  exact ⟨l, hq, hb⟩
/-- A configuration that came in. -/
theorem open_conf {H : Type} {enc : TypeId × Value → H} {W : World} {xs : Array Value} {d : DataW H} {p : List MemPlace} (h : DataW.Trod enc Try.prog W 0 (fun _ => true) true 24 (.agg xs) d p) :
    ∃ (x y z : Value) (c : Cn), xs = #[x, y, z] ∧ Rc W x y z c ∧ c.1.length + c.2.1.length + c.2.2.length + 3 ≤ Rows.uptoBulk d := by
  obtain ⟨fuel, ht⟩ := h
  obtain ⟨ys, n, _, hx, hl, hxl, hfs⟩ := DataW.trod_struct Try.underlying24 ht
  have k22 : Try.prog.cellsOf 22 = 1 := by kernel_rfl
  have hcz : Try.prog.cellsOf 24 = 3 := by kernel_rfl
  rw [hcz] at hl
  have hd : d = .agg (ys.map (·.1)) := congrArg Prod.fst hx
  clear hx
  obtain ⟨xs⟩ := xs
  have hc : (Value.agg ⟨xs⟩).cells.toList = xs := rfl
  rw [hc] at hl hfs
  obtain ⟨v0, v1, v2, rfl⟩ : ∃ a b c, xs = [a, b, c] := by
    match xs, hl with
    | [a, b, c], _ => exact ⟨a, b, c, rfl⟩
  obtain ⟨y0, y1, y2, rfl⟩ : ∃ a b c, ys = [a, b, c] := by
    have hxl' : ys.length = 3 := hxl
    match ys, hxl' with
    | [a, b, c], _ => exact ⟨a, b, c, rfl⟩
  have f0 : DataW.trod enc Try.prog W 0 (fun _ => true) true n 22 (List.take (Try.prog.cellsOf 22) (List.drop 0 [v0, v1, v2])) = some y0 := hfs 0 _ rfl
  have f1 : DataW.trod enc Try.prog W 0 (fun _ => true) true n 22 (List.take (Try.prog.cellsOf 22) (List.drop 1 [v0, v1, v2])) = some y1 := hfs 1 _ rfl
  have f2 : DataW.trod enc Try.prog W 0 (fun _ => true) true n 22 (List.take (Try.prog.cellsOf 22) (List.drop 2 [v0, v1, v2])) = some y2 := hfs 2 _ rfl
  rw [k22] at f0 f1 f2
  obtain ⟨u0, l0, e0, r0, b0⟩ := open_nums_cs f0
  obtain ⟨u1, l1, e1, r1, b1⟩ := open_nums_cs f1
  obtain ⟨u2, l2, e2, r2, b2⟩ := open_nums_cs f2
  have q0 : v0 = u0 := by simpa using e0
  have q1 : v1 = u1 := by simpa using e1
  have q2 : v2 = u2 := by simpa using e2
  subst q0; subst q1; subst q2
  refine ⟨v0, v1, v2, (l0, l1, l2), rfl, ⟨r0, r1, r2⟩, ?_⟩
  rw [hd]
  simp only [List.map_cons, List.map_nil, Rows.uptoBulk, Rows.uptoBulkAll]
  omega
end Go.Proofs.Ytedpfmalhapmeaa

/- The walk of Enter. -/
namespace Go.Proofs.Ytedpfmalhapmeaa
open Go.RowKit Go.Maps
set_option linter.unusedVariables false
set_option maxRecDepth 100000

theorem St.chg {m n : Nat} {S : UInt64 → Nat} {w w' : World} {T : Nat → Prop} (h : St m n S w) (hc : Chg T w w') (hT : ¬ T m) : St m n S w' := by
  obtain ⟨D, ⟨es, clock, hbk, r⟩, h2⟩ := h.own
  exact ⟨⟨D, ⟨es, clock, by rw [hc.block m (Array.getElem?_eq_some_iff.1 hbk).1 hT]; exact hbk, r⟩, h2⟩⟩
theorem St.lt {m n : Nat} {S : UInt64 → Nat} {w : World} (h : St m n S w) : m < w.heap.size := by
  obtain ⟨D, hown, _⟩ := h.own; exact hown.lt

set_option maxHeartbeats 8000000 in
theorem enter_any {N : Nat} (hSo : SortsTo N) {x y z v : Value} {c : Cn} {qs : List Cg} {w : World} (hr : Rc w x y z c) (hx : RdX w v qs) (hl : c.1.length + c.2.1.length + c.2.2.length ≤ N ∨ 27 ≤ N) (hn : c.1.length + c.2.2.length + qs.length ≤ N) (hN : N ≤ 1099511627776)
    (hq : 27 ≤ N ∨ ∀ S V' L', foldS (seatF c.1 c.2.2) qs = some S → IsL S 1 V' → IsL S 2 L' → V'.length + c.1.length + L'.length ≤ N) :
    Calls Try.prog 21 #[.agg #[x, y, z], v] w fun e w' => ∃ (x' y' z' : Value) (res : Cn) (er : Nat), e = .returned (.tuple #[.agg #[x', y', z'], .int .i64 er]) ∧ Oc w.heap.size w' x' y' z' res ∧ EntR c qs res er ∧ Below w.heap.size w w' := by
  obtain ⟨V, O, L⟩ := c
  obtain ⟨ax, cx, rfl⟩ := hr.1.shape
  obtain ⟨ay, cy, rfl⟩ := hr.2.1.shape
  obtain ⟨az, cz, rfl⟩ := hr.2.2.shape
  simp only [] at hl hn hq
  have hB0 : Below w.heap.size w ((w.alloc (.cells #[.slice ax V.length cx, .slice ay O.length cy, .slice az L.length cz] 24)).alloc (.cells #[.slice none 0 0, .slice none 0 0, .slice none 0 0] 24)) := (u_al w _).alloc (by simp) _
  have hz0 : ((w.alloc (.cells #[.slice ax V.length cx, .slice ay O.length cy, .slice az L.length cz] 24)).alloc (.cells #[.slice none 0 0, .slice none 0 0, .slice none 0 0] 24)).heap.size = w.heap.size + 2 := by simp
  have hbx : ((w.alloc (.cells #[.slice ax V.length cx, .slice ay O.length cy, .slice az L.length cz] 24)).alloc (.cells #[.slice none 0 0, .slice none 0 0, .slice none 0 0] 24)).heap[w.heap.size]? = some (.cells #[.slice ax V.length cx, .slice ay O.length cy, .slice az L.length cz] 24 (0, 0)) := by
    rw [Below.heap_alloc _ _ _ (by simp)]; exact heap_alloc_new w _
  have hrs : ((w.alloc (.cells #[.slice ax V.length cx, .slice ay O.length cy, .slice az L.length cz] 24)).alloc (.cells #[.slice none 0 0, .slice none 0 0, .slice none 0 0] 24)).heap[w.heap.size + 1]? = some (.cells #[.slice none 0 0, .slice none 0 0, .slice none 0 0] 24 (0, 0)) := by
    have := heap_alloc_new (w.alloc (.cells #[.slice ax V.length cx, .slice ay O.length cy, .slice az L.length cz] 24)) (.cells #[.slice none 0 0, .slice none 0 0, .slice none 0 0] 24)
    rw [World.size_alloc] at this
    exact this
  go_enter Try.func21, Try.ntmps21
  go_wp2_with fail
  generalize ((w.alloc (.cells #[.slice ax V.length cx, .slice ay O.length cy, .slice az L.length cz] 24)).alloc (.cells #[.slice none 0 0, .slice none 0 0, .slice none 0 0] 24)) = W0 at *
  have HKB : Hid (∀ W, Below W0.heap.size W0 W → Below w.heap.size w W) := fun W hW => hB0.trans (hW.mono hB0.size)
  have HKC : Hid (∀ W, Below W0.heap.size W0 W → W.cell? ⟨w.heap.size, 0, none⟩ = some (.slice ax V.length cx) ∧ W.cell? ⟨w.heap.size, 1, none⟩ = some (.slice ay O.length cy) ∧ W.cell? ⟨w.heap.size, 2, none⟩ = some (.slice az L.length cz)) := fun W hW => by
    obtain ⟨q0, q1, q2, _⟩ := at3 ((hW.block _ (by omega)).trans hbx)
    exact ⟨q0, q1, q2⟩
  have HKR : Hid (∀ W, Below W0.heap.size W0 W → W.heap[w.heap.size + 1]? = some (.cells #[.slice none 0 0, .slice none 0 0, .slice none 0 0] 24 (0, 0))) := fun W hW => (hW.block _ (by omega)).trans hrs
  have HRC : Hid (∀ W, Below W0.heap.size W0 W → Rc W (.slice ax V.length cx) (.slice ay O.length cy) (.slice az L.length cz) (V, O, L)) := fun W hW => hr.below (HKB.out W hW) (Nat.le_refl _)
  have HRX : Hid (∀ W, Below W0.heap.size W0 W → RdX W v qs) := fun W hW => hx.below (HKB.out W hW) (Nat.le_refl _)
  have HOUT : Hid (∀ (W : World) (x' y' z' : Value) (res : Cn), Below W0.heap.size W0 W → Oc W0.heap.size W x' y' z' res → ∀ W', W' = ((W.setCell ⟨w.heap.size + 1, 0, none⟩ x').setCell ⟨w.heap.size + 1, 1, none⟩ y').setCell ⟨w.heap.size + 1, 2, none⟩ z' → (W'.cell? ⟨w.heap.size + 1, 0, none⟩ = some x' ∧ W'.cell? ⟨w.heap.size + 1, 1, none⟩ = some y' ∧ W'.cell? ⟨w.heap.size + 1, 2, none⟩ = some z') ∧ Oc w.heap.size W' x' y' z' res ∧ Below w.heap.size w W') := fun W x' y' z' res hW ho => outO (HKR.out W hW) (Nat.le_succ _) (by omega) (HKB.out W hW) ho
  clear hbx hrs hr hx hB0
  obtain ⟨c0, c1, c2⟩ := HKC.out W0 (Below.refl _ _)
  have hck := check_any hSo (HRC.out W0 (Below.refl _ _)) hl hN
  cases hchk : chk (V, O, L) with
  | false =>
    rw [hchk] at hck
    have HE : Hid (EntR (V, O, L) qs none3 70) := .inl ⟨hchk, rfl, rfl⟩
    go_wp2_with fail
    refine hck.mono ?_
    rintro e w1 ⟨rfl, hb1⟩
    obtain ⟨t0, t1, t2, tz⟩ := at3 (HKR.out w1 hb1)
    have tz0 := tz 0
    have tz1 := tz 1
    have tz2 := tz 2
    clear tz
    go_wp2_with fail
    obtain ⟨⟨k0, k1, k2⟩, hoc, hbz⟩ := HOUT.out w1 _ _ _ none3 hb1 (Oc.nil _ _) _ rfl
    generalize (((w1.setCell ⟨w.heap.size + 1, 0, none⟩ (.slice none 0 0)).setCell ⟨w.heap.size + 1, 1, none⟩ (.slice none 0 0)).setCell ⟨w.heap.size + 1, 2, none⟩ (.slice none 0 0)) = wz at *
    refine bodyPost_ret (v := .tuple #[.agg #[.slice none 0 0, .slice none 0 0, .slice none 0 0], .int .i64 70]) (by simp [results, Try.results21, go_sem, k0, k1, k2]; try rfl) rfl ?_
    exact ⟨_, _, _, none3, 70, rfl, hoc, HE.out, hbz⟩
  | true =>
    rw [hchk] at hck
    go_wp2_with fail
    refine hck.mono ?_
    rintro e w1 ⟨rfl, hb1⟩
    clear hck
    obtain ⟨d0, d1, d2⟩ := HKC.out w1 hb1
    have hjo := ujoint_any (HRC.out w1 hb1)
    simp only [] at hjo
    by_cases hO : 0 < O.length
    · rw [decide_eq_true hO] at hjo
      have HE : Hid (EntR (V, O, L) qs none3 71) := .inr (.inl ⟨hchk, hO, rfl, rfl⟩)
      go_wp2_with fail
      refine hjo.mono ?_
      rintro e w2 ⟨rfl, hb2'⟩
      have hb2 : Below W0.heap.size W0 w2 := hb1.trans (hb2'.mono hb1.size)
      obtain ⟨t0, t1, t2, tz⟩ := at3 (HKR.out w2 hb2)
      have tz0 := tz 0
      have tz1 := tz 1
      have tz2 := tz 2
      clear tz
      go_wp2_with fail
      obtain ⟨⟨k0, k1, k2⟩, hoc, hbz⟩ := HOUT.out w2 _ _ _ none3 hb2 (Oc.nil _ _) _ rfl
      generalize (((w2.setCell ⟨w.heap.size + 1, 0, none⟩ (.slice none 0 0)).setCell ⟨w.heap.size + 1, 1, none⟩ (.slice none 0 0)).setCell ⟨w.heap.size + 1, 2, none⟩ (.slice none 0 0)) = wz at *
      refine bodyPost_ret (v := .tuple #[.agg #[.slice none 0 0, .slice none 0 0, .slice none 0 0], .int .i64 71]) (by simp [results, Try.results21, go_sem, k0, k1, k2]; try rfl) rfl ?_
      exact ⟨_, _, _, none3, 71, rfl, hoc, HE.out, hbz⟩
    · rw [decide_eq_false hO] at hjo
      have HO : Hid (O = []) := List.length_eq_zero_iff.1 (by omega)
      have HCK : Hid _ := hchk
      clear hchk hO
      go_wp2_with fail
      refine hjo.mono ?_
      rintro e w2 ⟨rfl, hb2'⟩
      have hb2 : Below W0.heap.size W0 w2 := hb1.trans (hb2'.mono hb1.size)
      clear hjo d0 d1 d2 hb2' hb1
      obtain ⟨d0, d1, d2⟩ := HKC.out w2 hb2
      have hse := seats_any (HRC.out w2 hb2) (by simp only []; omega)
      simp only [] at hse
      go_wp2_with fail
      refine hse.mono ?_
      rintro e w3 ⟨m, rfl, hm, hSt, hb3'⟩
      have hb3 : Below W0.heap.size W0 w3 := hb2.trans (hb3'.mono hb2.size)
      have hms : W0.heap.size ≤ m := Nat.le_trans hb2.size hm
      clear hse d0 d1 d2 hb3' hb2 hm
      obtain ⟨aq, cq, rfl, q1, q2, q3, _⟩ := HRX.out w3 hb3
      unfold maxLen at q2
      go_wp2_with fail
      go_loopw [8, 9, 22] (fun _ _ i wr => ∃ (k : Nat) (S : UInt64 → Nat), k ≤ qs.length ∧ i = .int .i64 k ∧ Hid (foldS (seatF V L) (qs.take k) = some S) ∧ Hid (∀ x, S x ≤ 2) ∧ St m (V.length + L.length + k) S wr ∧ Below W0.heap.size W0 wr) (fun _ _ i _ => qs.length - (intOf i).toNat)
      case atStart => exact ⟨0, _, Nat.zero_le _, rfl, by show _ = _; rw [List.take_zero]; rfl, seatF_le V L, hSt, hb3⟩
      case round =>
        obtain ⟨k, S, hk, rfl, HF, HS2, hSt, hb⟩ := hrel
        clear hb3
        have hbs := hb.size
        by_cases hlt : k < qs.length
        · obtain ⟨⟨kd, p⟩, hqk⟩ : ∃ q, qs[k]? = some q := ⟨_, List.getElem?_eq_getElem hlt⟩
          have hkd := q3 _ (List.mem_of_getElem? hqk)
          obtain ⟨ao', c', e0, _, _, _, h4⟩ := HRX.out wr hb
          obtain ⟨a, ea, hcg⟩ := h4 k _ hqk
          simp only [Value.slice.injEq] at e0
          obtain ⟨rfl, -, rfl⟩ := e0
          subst ea
          have g0 := hcg.c0
          have g1 := hcg.c1
          simp only [] at g0 g1 hkd
          clear h4 hcg q3
          have hcga : ∀ W, Chg (fun b => b = m) W W → True := fun _ _ => trivial
          clear hcga
          have HN : Hid (∀ S', chg1 S kd p = some S' → foldS (seatF V L) (qs.take (k + 1)) = some S') := fun S' e => by rw [foldS_snoc _ S qs k _ hqk HF.out]; exact e
          have HNN : Hid (chg1 S kd p = none → foldS (seatF V L) qs = none) := fun e => foldS_none _ S qs k _ hqk HF.out e
          have hmw := hSt.lt
          have hcall := fun (W : World) (hW : Below wr.heap.size wr W) => change_any (hSt.below hW (Nat.le_refl _)) (Nat.lt_of_lt_of_le hmw hW.size) kd p (by omega) HS2.out hkd
          have HSt : Hid _ := hSt
          clear hqk HF hSt
          have hca := hcall _ (u_al wr (.cells #[.int .i64 kd, .int .u64 (p.toNat : Int)] 50))
          have hbA : Below W0.heap.size W0 (wr.alloc (.cells #[.int .i64 kd, .int .u64 (p.toNat : Int)] 50)) := hb.alloc hbs _
          clear hcall
          cases hch : chg1 S kd p with
          | none =>
            have HE : Hid (EntR (V, O, L) qs none3 70) := .inr (.inr (.inl ⟨HCK.out, HO.out, HNN.out hch, rfl, rfl⟩))
            rw [hch] at hca
            clear hch HN HNN
            go_wp2_with fail
            refine hca.mono ?_
            rintro e w4 ⟨rfl, _, hc4⟩
            have hb4 : Below W0.heap.size W0 w4 := hbA.trans (hc4.below (fun b q => by omega) hbA.size)
            obtain ⟨t0, t1, t2, tz⟩ := at3 (HKR.out w4 hb4)
            have tz0 := tz 0
            have tz1 := tz 1
            have tz2 := tz 2
            clear tz
            go_wp2_with fail
            obtain ⟨⟨k0, k1, k2⟩, hoc, hbz⟩ := HOUT.out w4 _ _ _ none3 hb4 (Oc.nil _ _) _ rfl
            generalize (((w4.setCell ⟨w.heap.size + 1, 0, none⟩ (.slice none 0 0)).setCell ⟨w.heap.size + 1, 1, none⟩ (.slice none 0 0)).setCell ⟨w.heap.size + 1, 2, none⟩ (.slice none 0 0)) = wz at *
            (try simp only [Exit.inBlock, Exit.then])
            refine bodyPost_ret (v := .tuple #[.agg #[.slice none 0 0, .slice none 0 0, .slice none 0 0], .int .i64 70]) (by simp [results, Try.results21, go_sem, k0, k1, k2]; try rfl) rfl ?_
            exact ⟨_, _, _, none3, 70, rfl, hoc, HE.out, hbz⟩
          | some S' =>
            have HF2 : Hid _ := HN.out S' hch
            have HS3 : Hid _ := chg1_le hch HS2.out
            rw [hch] at hca
            clear hch HN HNN
            go_wp2_with fail
            refine hca.mono ?_
            rintro e w4 ⟨rfl, hSt4, hc4⟩
            have hb4 : Below W0.heap.size W0 w4 := hbA.trans (hc4.below (fun b q => by omega) hbA.size)
            go_wp2_with fail
            exact ⟨⟨k + 1, S', by omega, by go_num, HF2, HS3, hSt4, hb4⟩, by simp [intOf]; omega⟩
        · obtain rfl : k = qs.length := by omega
          have HF2 : Hid (foldS (seatF V L) qs = some S) := by have := HF.out; rw [List.take_length] at this; exact this
          clear HF q3
          have hmw := hSt.lt
          have hof1 := of_any hSo hSt hmw 1 (by omega) (by omega) hn hN
          go_wp2_with fail
          refine hof1.mono ?_
          rintro e w4 ⟨v4, V', rfl, ho4, hr4, hm4, hl4, hb4'⟩
          have hb4 : Below W0.heap.size W0 w4 := hb.trans (hb4'.mono hbs)
          have hSt4 := hSt.below hb4' (Nat.le_refl _)
          have hof2 := of_any hSo hSt4 hSt4.lt 2 (by omega) (by omega) hn hN
          clear hof1
          go_wp2_with fail
          refine hof2.mono ?_
          rintro e w5 ⟨v5, L', rfl, ho5, hr5, hm5, hl5, hb5'⟩
          have hb5 : Below W0.heap.size W0 w5 := hb4.trans (hb5'.mono hb4.size)
          have ho4b := (ho4.below hb5' (Nat.le_refl _)).mono hbs
          have ho5b := ho5.mono hb4.size
          have HIL : Hid (IsL S 1 V' ∧ IsL S 2 L') := ⟨⟨hr4, hm4⟩, ⟨hr5, hm5⟩⟩
          have hq2 : V'.length + V.length + L'.length ≤ N ∨ 27 ≤ N := by
            rcases hq with hq | hq
            · exact .inr hq
            · exact .inl (hq S V' L' HF2.out HIL.out.1 HIL.out.2)
          clear hof2 hr4 hm4 hr5 hm5 hSt hSt4 ho4 ho5 hb4' hb5' hq
          obtain ⟨a4, c4, rfl⟩ := ho4b.shape
          obtain ⟨a5, c5, rfl⟩ := ho5b.shape
          have hb6 : Below W0.heap.size W0 (w5.alloc (.cells #[.slice a4 V'.length c4, .slice none 0 0, .slice a5 L'.length c5] 24)) := hb5.alloc hb5.size _
          have hnb := heap_alloc_new w5 (.cells #[.slice a4 V'.length c4, .slice none 0 0, .slice a5 L'.length c5] 24)
          have hz6 : (w5.alloc (.cells #[.slice a4 V'.length c4, .slice none 0 0, .slice a5 L'.length c5] 24)).heap.size = w5.heap.size + 1 := by simp
          have hoc6 : Ou W0.heap.size (w5.alloc (.cells #[.slice a4 V'.length c4, .slice none 0 0, .slice a5 L'.length c5] 24)) (.slice a4 V'.length c4) V' ∧ Ou W0.heap.size (w5.alloc (.cells #[.slice a4 V'.length c4, .slice none 0 0, .slice a5 L'.length c5] 24)) (.slice a5 L'.length c5) L' := ⟨ho4b.alloc _, ho5b.alloc _⟩
          have HNB : Hid (∀ b, (Value.slice a4 V'.length c4).ownBlock = some b ∨ (Value.slice a5 L'.length c5).ownBlock = some b → b < w5.heap.size) := fun b e => by
            rcases e with e | e
            · exact (ho4b.lt b e).2
            · exact (ho5b.lt b e).2
          obtain ⟨d0, d1, d2⟩ := HKC.out _ hb6
          go_wp2_with fail
          generalize (w5.alloc (.cells #[.slice a4 V'.length c4, .slice none 0 0, .slice a5 L'.length c5] 24)) = w6 at *
          have heq := uequal_any hoc6.1.ru (HRC.out w6 hb6).1
          refine heq.mono ?_
          rintro e w7 ⟨rfl, n7, rfl⟩
          have hb7 : Below W0.heap.size W0 (w6.drewN n7) := Below.drN hb6 n7
          have hnb7 : (w6.drewN n7).heap[w5.heap.size]? = some (.cells #[.slice a4 V'.length c4, .slice none 0 0, .slice a5 L'.length c5] 24 (0, 0)) := hnb
          have hoc7 : Ou W0.heap.size (w6.drewN n7) (.slice a4 V'.length c4) V' ∧ Ou W0.heap.size (w6.drewN n7) (.slice a5 L'.length c5) L' := ⟨hoc6.1.below (Below.dN w6 n7) (Nat.le_refl _), hoc6.2.below (Below.dN w6 n7) (Nat.le_refl _)⟩
          have hz7 : (w6.drewN n7).heap.size = w5.heap.size + 1 := hz6
          clear heq hb6 hnb hoc6 d0 d1 d2 hz6
          -- the last of it: next is laid; Check(next)
          have tail : ∀ (W : World) (y' : Value) (Y : List UInt64), Below W0.heap.size W0 W → W.heap[w5.heap.size]? = some (.cells #[.slice a4 V'.length c4, y', .slice a5 L'.length c5] 24 (0, 0)) → Oc W0.heap.size W (.slice a4 V'.length c4) y' (.slice a5 L'.length c5) (V', Y, L') → Y = (if V' = V then [] else V) → Y.length ≤ V.length →
              (Calls Try.prog 11 #[.agg #[.slice a4 V'.length c4, y', .slice a5 L'.length c5]] W fun e w' => e = .returned (.int .i64 (if chk (nxt V V' L') then 0 else 70)) ∧ Below W0.heap.size W0 w' ∧ w'.heap[w5.heap.size]? = some (.cells #[.slice a4 V'.length c4, y', .slice a5 L'.length c5] 24 (0, 0)) ∧ Oc W0.heap.size w' (.slice a4 V'.length c4) y' (.slice a5 L'.length c5) (nxt V V' L')) := fun W y' Y hW hnb hoc hY hYl => by
            have e : (V', Y, L') = nxt V V' L' := by unfold nxt; rw [hY]
            refine (check_any hSo hoc.rc (by simp only []; omega) hN).mono ?_
            rintro e' w' ⟨rfl, hb'⟩
            rw [e]
            refine ⟨rfl, hW.trans (hb'.mono hW.size), by rw [hb'.block _ (Array.getElem?_eq_some_iff.1 hnb).1]; exact hnb, ?_⟩
            rw [← e]
            exact ⟨hoc.1.below hb' (Nat.le_refl _), hoc.2.1.below hb' (Nat.le_refl _), hoc.2.2.below hb' (Nat.le_refl _)⟩
          have HTAIL : Hid _ := tail
          clear tail
          have HENT : Hid (∀ (res : Cn) (er : Nat), ((chk (nxt V V' L') = false ∧ res = none3 ∧ er = 70) ∨ (chk (nxt V V' L') = true ∧ res = nxt V V' L' ∧ er = 0)) → EntR (V, O, L) qs res er) := fun res er h => .inr (.inr (.inr ⟨HCK.out, HO.out, S, V', L', HF2.out, HIL.out.1, HIL.out.2, h⟩))
          generalize w6.drewN n7 = w7 at *
          by_cases hVV : V' = V
          · have hd : decide (V' = V) = true := decide_eq_true hVV
            rw [hd]
            have hck := HTAIL.out w7 (.slice none 0 0) [] hb7 hnb7 ⟨hoc7.1, Ou.nil _ _, hoc7.2⟩ (by rw [if_pos hVV]) (by simp)
            obtain ⟨n0, n1, n2, _⟩ := at3 hnb7
            have HVV : Hid _ := hVV
            clear hVV hd
            go_wp2_with fail
            refine hck.mono ?_
            rintro e wA ⟨rfl, hbA, hnA, hoA⟩
            obtain ⟨p0, p1, p2, _⟩ := at3 hnA
            obtain ⟨t0, t1, t2, tz⟩ := at3 (HKR.out wA hbA)
            have tz0 := tz 0
            have tz1 := tz 1
            have tz2 := tz 2
            clear tz
            cases hcn : chk (nxt V V' L') with
            | false =>
              have HE : Hid (EntR (V, O, L) qs none3 70) := HENT.out none3 70 (.inl ⟨hcn, rfl, rfl⟩)
              clear hcn
              go_wp2_with fail
              obtain ⟨⟨k0, k1, k2⟩, hoc, hbz⟩ := HOUT.out wA _ _ _ none3 hbA (Oc.nil _ _) _ rfl
              generalize (((wA.setCell ⟨w.heap.size + 1, 0, none⟩ (.slice none 0 0)).setCell ⟨w.heap.size + 1, 1, none⟩ (.slice none 0 0)).setCell ⟨w.heap.size + 1, 2, none⟩ (.slice none 0 0)) = wz at *
              (try simp only [Exit.inBlock, Exit.then])
              refine bodyPost_ret (v := .tuple #[.agg #[.slice none 0 0, .slice none 0 0, .slice none 0 0], .int .i64 70]) (by simp [results, Try.results21, go_sem, k0, k1, k2]; try rfl) rfl ?_
              exact ⟨_, _, _, none3, 70, rfl, hoc, HE.out, hbz⟩
            | true =>
              have HE : Hid (EntR (V, O, L) qs (nxt V V' L') 0) := HENT.out (nxt V V' L') 0 (.inr ⟨hcn, rfl, rfl⟩)
              clear hcn
              go_wp2_with fail
              obtain ⟨⟨k0, k1, k2⟩, hoc, hbz⟩ := HOUT.out wA _ _ _ (nxt V V' L') hbA hoA _ rfl
              generalize (((wA.setCell ⟨w.heap.size + 1, 0, none⟩ (.slice a4 V'.length c4)).setCell ⟨w.heap.size + 1, 1, none⟩ (.slice none 0 0)).setCell ⟨w.heap.size + 1, 2, none⟩ (.slice a5 L'.length c5)) = wz at *
              (try simp only [Exit.inBlock, Exit.then])
              refine bodyPost_ret (v := .tuple #[.agg #[.slice a4 V'.length c4, .slice none 0 0, .slice a5 L'.length c5], .int .i64 0]) (by simp [results, Try.results21, go_sem, k0, k1, k2]; try rfl) rfl ?_
              exact ⟨_, _, _, nxt V V' L', 0, rfl, hoc, HE.out, hbz⟩
          · have hd : decide (V' = V) = false := decide_eq_false hVV
            rw [hd]
            obtain ⟨d0, d1, d2⟩ := HKC.out w7 hb7
            have hcn := uclone_any (HRC.out w7 hb7).1 (by simp only []; omega)
            simp only [] at hcn
            obtain ⟨n0, n1, n2, nz⟩ := at3 hnb7
            have HVV : Hid _ := hVV
            clear hVV hd
            go_wp2_with fail
            refine hcn.mono ?_
            rintro e w8 ⟨v8, rfl, ho8, hb8⟩
            obtain ⟨a8, c8, rfl⟩ := ho8.shape
            have hnb8 : w8.heap[w5.heap.size]? = some (.cells #[.slice a4 V'.length c4, .slice none 0 0, .slice a5 L'.length c5] 24 (0, 0)) := by rw [hb8.block _ (by omega)]; exact hnb7
            have hnb9 : (w8.setCell ⟨w5.heap.size, 1, none⟩ (.slice a8 V.length c8)).heap[w5.heap.size]? = some (.cells #[.slice a4 V'.length c4, .slice a8 V.length c8, .slice a5 L'.length c5] 24 (0, 0)) := by
              have := heap_setCell_same w8 w5.heap.size 1 _ _ (.slice a8 V.length c8) hnb8
              rw [this]; rfl
            have hch9 : Chg (fun b => b = w5.heap.size) w8 (w8.setCell ⟨w5.heap.size, 1, none⟩ (.slice a8 V.length c8)) := (Chg.refl _ w8).put _ 1 _ rfl
            have hs7 := hb7.size
            have hs8 := hb8.size
            have hb9 : Below W0.heap.size W0 (w8.setCell ⟨w5.heap.size, 1, none⟩ (.slice a8 V.length c8)) := (hb7.trans (hb8.mono hs7)).trans (hch9.below (fun b q => by subst q; exact hb5.size) (by omega))
            have hoc9 : Oc W0.heap.size (w8.setCell ⟨w5.heap.size, 1, none⟩ (.slice a8 V.length c8)) (.slice a4 V'.length c4) (.slice a8 V.length c8) (.slice a5 L'.length c5) (V', V, L') := ⟨(hoc7.1.below hb8 (Nat.le_refl _)).keptC hch9 (fun b e q => by have := HNB.out b (.inl e); omega), (ho8.keptC hch9 (fun b e q => by have := (ho8.lt b e).1; omega)).mono hs7, (hoc7.2.below hb8 (Nat.le_refl _)).keptC hch9 (fun b e q => by have := HNB.out b (.inr e); omega)⟩
            obtain ⟨m0, m1, m2, mz⟩ := at3 hnb8
            have mz1 := mz 1
            have hck := HTAIL.out _ (.slice a8 V.length c8) V hb9 hnb9 hoc9 (by rw [if_neg HVV.out]) (Nat.le_refl _)
            obtain ⟨n0, n1, n2, _⟩ := at3 hnb9
            have HB9 : Hid _ := hb9
            clear hb9 hoc9 hnb9 mz nz hch9 d0 d1 d2
            go_wp2_with fail
            refine hck.mono ?_
            rintro e wA ⟨rfl, hbA, hnA, hoA⟩
            obtain ⟨p0, p1, p2, _⟩ := at3 hnA
            obtain ⟨t0, t1, t2, tz⟩ := at3 (HKR.out wA hbA)
            have tz0 := tz 0
            have tz1 := tz 1
            have tz2 := tz 2
            clear tz
            cases hcn : chk (nxt V V' L') with
            | false =>
              have HE : Hid (EntR (V, O, L) qs none3 70) := HENT.out none3 70 (.inl ⟨hcn, rfl, rfl⟩)
              clear hcn
              go_wp2_with fail
              obtain ⟨⟨k0, k1, k2⟩, hoc, hbz⟩ := HOUT.out wA _ _ _ none3 hbA (Oc.nil _ _) _ rfl
              generalize (((wA.setCell ⟨w.heap.size + 1, 0, none⟩ (.slice none 0 0)).setCell ⟨w.heap.size + 1, 1, none⟩ (.slice none 0 0)).setCell ⟨w.heap.size + 1, 2, none⟩ (.slice none 0 0)) = wz at *
              (try simp only [Exit.inBlock, Exit.then])
              refine bodyPost_ret (v := .tuple #[.agg #[.slice none 0 0, .slice none 0 0, .slice none 0 0], .int .i64 70]) (by simp [results, Try.results21, go_sem, k0, k1, k2]; try rfl) rfl ?_
              exact ⟨_, _, _, none3, 70, rfl, hoc, HE.out, hbz⟩
            | true =>
              have HE : Hid (EntR (V, O, L) qs (nxt V V' L') 0) := HENT.out (nxt V V' L') 0 (.inr ⟨hcn, rfl, rfl⟩)
              clear hcn
              go_wp2_with fail
              obtain ⟨⟨k0, k1, k2⟩, hoc, hbz⟩ := HOUT.out wA _ _ _ (nxt V V' L') hbA hoA _ rfl
              generalize (((wA.setCell ⟨w.heap.size + 1, 0, none⟩ (.slice a4 V'.length c4)).setCell ⟨w.heap.size + 1, 1, none⟩ (.slice a8 V.length c8)).setCell ⟨w.heap.size + 1, 2, none⟩ (.slice a5 L'.length c5)) = wz at *
              (try simp only [Exit.inBlock, Exit.then])
              refine bodyPost_ret (v := .tuple #[.agg #[.slice a4 V'.length c4, .slice a8 V.length c8, .slice a5 L'.length c5], .int .i64 0]) (by simp [results, Try.results21, go_sem, k0, k1, k2]; try rfl) rfl ?_
              exact ⟨_, _, _, nxt V V' L', 0, rfl, hoc, HE.out, hbz⟩
end Go.Proofs.Ytedpfmalhapmeaa

/- What awake answers: true. -/
namespace Go.Proofs.Ytedpfmalhapmeaa
open Go.RowKit Go.Maps
set_option linter.unusedVariables false
set_option maxRecDepth 100000

theorem isL_eq {S : UInt64 → Nat} {s : Nat} {a b : List UInt64} (ha : IsL S s a) (hb : IsL S s b) : a = b := ha.1.ext hb.1 (fun x => by rw [ha.2, hb.2])

def aw0 : Cn := ([1, 2, 3], [], [])
def awq : List Cg := [(1, 4), (3, 1)]
theorem aw_fold : foldS (seatF [1, 2, 3] []) awq = some (upd (upd (seatF [1, 2, 3] []) 4 1) 1 0) := by
  simp [foldS, awq, chg1]
theorem aw_V : IsL (upd (upd (seatF [1, 2, 3] []) 4 1) 1 0) 1 [2, 3, 4] := by
  refine ⟨by simp [Ris], fun x => ?_⟩
  unfold upd seatF
  by_cases h1 : x = 1
  · subst h1; simp
  · by_cases h4 : x = 4
    · subst h4; simp
    · simp only [h1, h4, if_false, List.not_mem_nil, List.mem_cons, or_false, false_or]
      by_cases h2 : x = 2
      · simp [h2]
      · by_cases h3 : x = 3
        · simp [h3]
        · simp [h2, h3]
theorem aw_L : IsL (upd (upd (seatF [1, 2, 3] []) 4 1) 1 0) 2 [] := by
  refine ⟨by simp [Ris], fun x => ?_⟩
  unfold upd seatF
  simp only [List.not_mem_nil, if_false, false_iff]
  split
  · omega
  · split
    · omega
    · split <;> omega
theorem mems_le (c : Cn) : (mems c).length ≤ c.1.length + (c.2.1.length + c.2.2.length) := by
  have h := cmK_len (srtd (c.1 ++ (c.2.1 ++ c.2.2))) (srtd (c.1 ++ (c.2.1 ++ c.2.2))).length
  have e : (srtd (c.1 ++ (c.2.1 ++ c.2.2))).length = c.1.length + (c.2.1.length + c.2.2.length) := by simp [srtd]
  unfold mems
  omega
theorem chk_of (c : Cn) (h1 : ok1 c.1 = true) (h2 : ok1 c.2.1 = true) (h3 : ok1 c.2.2 = true) (h4 : c.1 ≠ []) (h5 : c.2.2.any (vt c) = false) (h6 : c.1.length + (c.2.1.length + c.2.2.length) ≤ 9) : chk c = true := by
  have := mems_le c
  unfold chk
  simp only [h1, h2, h3, h5, Bool.true_and, Bool.not_false]
  simp [h4]
  omega
theorem aw_chk0 : chk aw0 = true := chk_of _ (by decide) (by decide) (by decide) (by simp [aw0]) (by decide) (by decide)
theorem aw_chk1 : chk (nxt [1, 2, 3] [2, 3, 4] []) = true := chk_of _ (by decide) (by decide) (by decide) (by simp [nxt]) (by decide) (by decide)
theorem aw_ent {res : Cn} {er : Nat} (h : EntR aw0 awq res er) : res = ([2, 3, 4], [1, 2, 3], []) ∧ er = 0 := by
  rcases h with ⟨h, _⟩ | ⟨_, h, _⟩ | ⟨_, _, h, _⟩ | ⟨_, _, S, V', L', hf, hV, hL, h⟩
  · rw [aw_chk0] at h; cases h
  · simp [aw0] at h
  · have := aw_fold; simp only [aw0] at h; rw [h] at this; cases this
  · have e := aw_fold
    simp only [aw0] at hf
    rw [hf] at e
    obtain rfl := Option.some.inj e
    obtain rfl := isL_eq hV aw_V
    obtain rfl := isL_eq hL aw_L
    have hc : chk (nxt aw0.1 [2, 3, 4] []) = true := aw_chk1
    rcases h with ⟨h, _⟩ | ⟨_, rfl, rfl⟩
    · rw [hc] at h; cases h
    · exact ⟨by simp [nxt, aw0], rfl⟩

theorem ru_lit3 (w : World) (p q r : UInt64) (x y z : Int) (hx : x = (p.toNat : Int)) (hy : y = (q.toNat : Int)) (hz : z = (r.toNat : Int)) (g : Nat) (hg : g = w.heap.size) : Ru (w.alloc (.cells #[.int .u64 x, .int .u64 y, .int .u64 z] 25)) (.slice (some ⟨g, 0, none⟩) 3 3) [p, q, r] := by
  subst hx; subst hy; subst hz
  exact (Ou.made 0 w [p, q, r] 3 rfl (Nat.zero_le _) (by simp [maxLen]) #[.int .u64 (p.toNat : Int), .int .u64 (q.toNat : Int), .int .u64 (r.toNat : Int)] rfl g hg).ru
theorem rdx_lit2 (w : World) (p q : Cg) (hp : -9223372036854775808 ≤ p.1 ∧ p.1 ≤ 9223372036854775807) (hq : -9223372036854775808 ≤ q.1 ∧ q.1 ≤ 9223372036854775807) (t : TypeId) (g : Nat) (hg : g = w.heap.size) : RdX (w.alloc (.cells #[.int .i64 p.1, .int .u64 (p.2.toNat : Int), .int .i64 q.1, .int .u64 (q.2.toNat : Int)] t)) (.slice (some ⟨g, 0, none⟩) 2 2) [p, q] := by
  subst hg
  have hc : ∀ j u, #[Value.int .i64 p.1, .int .u64 (p.2.toNat : Int), .int .i64 q.1, .int .u64 (q.2.toNat : Int)][j]? = some u → (w.alloc (.cells #[.int .i64 p.1, .int .u64 (p.2.toNat : Int), .int .i64 q.1, .int .u64 (q.2.toNat : Int)] t)).cell? ⟨w.heap.size, j, none⟩ = some u := fun j u e => by
    rw [World.cell?_alloc_at _ _ _ _ rfl]; exact e
  refine ⟨some ⟨w.heap.size, 0, none⟩, 2, rfl, by simp, by simp [maxLen], fun r hr => ?_, fun i r hi => ?_⟩
  · simp only [List.mem_cons, List.not_mem_nil, or_false] at hr
    rcases hr with rfl | rfl
    · exact hp
    · exact hq
  · match i with
    | 0 => simp at hi; subst hi; exact ⟨_, rfl, hc 0 _ rfl, hc 1 _ rfl⟩
    | 1 => simp at hi; subst hi; exact ⟨_, rfl, hc 2 _ rfl, hc 3 _ rfl⟩
    | i + 2 => simp at hi

set_option maxHeartbeats 2000000 in
theorem awake_any (w : World) : Calls Try.prog 7 #[] w fun e w' => e = .returned (.bool true) ∧ Below w.heap.size w w' := by
  have h1 := ru_lit3 w 1 2 3 1 2 3 rfl rfl rfl w.heap.size rfl
  have h2 := rdx_lit2 (w.alloc (.cells #[.int .u64 1, .int .u64 2, .int .u64 3] 25)) (1, 4) (3, 1) (by decide) (by decide) 50 (w.heap.size + 1) (by simp)
  have hb0 : Below w.heap.size w ((w.alloc (.cells #[.int .u64 1, .int .u64 2, .int .u64 3] 25)).alloc (.cells #[.int .i64 1, .int .u64 4, .int .i64 3, .int .u64 1] 50)) := (u_al w _).alloc (by simp) _
  have hen := enter_any (N := 12) (usort_small len_ok) (c := aw0) (qs := awq) ⟨h1.alloc (.cells #[.int .i64 1, .int .u64 4, .int .i64 3, .int .u64 1] 50), Ru.nil _, Ru.nil _⟩ h2 (by decide) (by decide) (by decide) (.inr fun S V' L' hf hV hL => by
    have e := aw_fold
    simp only [aw0] at hf
    rw [hf] at e
    obtain rfl := Option.some.inj e
    obtain rfl := isL_eq hV aw_V
    obtain rfl := isL_eq hL aw_L
    decide)
  go_enter Try.func7, Try.ntmps7
  go_wp2_with fail
  refine hen.mono ?_
  rintro e w1 ⟨x', y', z', res, er, rfl, hoc, hent, hb1'⟩
  obtain ⟨rfl, rfl⟩ := aw_ent hent
  have hb1 : Below w.heap.size w w1 := hb0.trans (hb1'.mono hb0.size)
  obtain ⟨k1, k2, k3⟩ := hoc.rc
  simp only [] at k1 k2 k3
  obtain ⟨ax, cx, rfl⟩ := k1.shape
  obtain ⟨ay, cy, rfl⟩ := k2.shape
  obtain ⟨az, cz, rfl⟩ := k3.shape
  clear hen hent hoc hb1' h1 h2 hb0
  simp only [List.length_cons, List.length_nil, Nat.zero_add, Nat.reduceAdd] at k1 k2 k3 ⊢
  have hA := u_al w1 (.cells #[.slice ax 3 cx, .slice ay 3 cy, .slice az 0 cz] 24)
  have hKC : ∀ W, Below (w1.heap.size + 1) (w1.alloc (.cells #[.slice ax 3 cx, .slice ay 3 cy, .slice az 0 cz] 24)) W → W.cell? ⟨w1.heap.size, 0, none⟩ = some (.slice ax 3 cx) ∧ W.cell? ⟨w1.heap.size, 1, none⟩ = some (.slice ay 3 cy) ∧ W.cell? ⟨w1.heap.size, 2, none⟩ = some (.slice az 0 cz) := fun W hW => box3 hW rfl
  have HKC : Hid _ := hKC
  clear hKC
  have hz : (w1.alloc (.cells #[.slice ax 3 cx, .slice ay 3 cy, .slice az 0 cz] 24)).heap.size = w1.heap.size + 1 := by simp
  go_wp2_with fail
  generalize (w1.alloc (.cells #[.slice ax 3 cx, .slice ay 3 cy, .slice az 0 cz] 24)) = W0 at *
  have hW0 : Below w.heap.size w W0 := hb1.trans (hA.mono hb1.size)
  have hs1 := hA.size
  have l1 := ru_lit3 W0 2 3 4 2 3 4 rfl rfl rfl (w1.heap.size + 1) hz.symm
  have q1 := sameU_any ((k1.below hA (Nat.le_refl _)).alloc (.cells #[.int .u64 2, .int .u64 3, .int .u64 4] 25)) l1
  rw [show decide (([2, 3, 4] : List UInt64) = [2, 3, 4]) = true from decide_eq_true rfl] at q1
  refine q1.mono ?_
  rintro e w2 ⟨rfl, n2, rfl⟩
  have hb2 : Below (w1.heap.size + 1) W0 ((W0.alloc (.cells #[.int .u64 2, .int .u64 3, .int .u64 4] 25)).drewN n2) := Below.drN ((Below.refl _ _).alloc (by omega) _) n2
  have hz2 : ((W0.alloc (.cells #[.int .u64 2, .int .u64 3, .int .u64 4] 25)).drewN n2).heap.size = w1.heap.size + 2 := by
    show (W0.alloc (.cells #[.int .u64 2, .int .u64 3, .int .u64 4] 25)).heap.size = _
    rw [World.size_alloc, hz]
  obtain ⟨d0, d1, d2⟩ := HKC.out _ hb2
  clear q1 l1
  go_wp2_with fail
  generalize hW2 : (W0.alloc (.cells #[.int .u64 2, .int .u64 3, .int .u64 4] 25)).drewN n2 = W2 at *
  have hA2 : Below w1.heap.size w1 W2 := hA.trans (hb2.mono (Nat.le_succ _))
  have l2 := ru_lit3 W2 1 2 3 1 2 3 rfl rfl rfl (w1.heap.size + 1 + 1) (by omega)
  have q2 := sameU_any ((k2.below hA2 (Nat.le_refl _)).alloc (.cells #[.int .u64 1, .int .u64 2, .int .u64 3] 25)) l2
  rw [show decide (([1, 2, 3] : List UInt64) = [1, 2, 3]) = true from decide_eq_true rfl] at q2
  refine q2.mono ?_
  rintro e w3 ⟨rfl, n3, rfl⟩
  have hb3 : Below (w1.heap.size + 1) W0 ((W2.alloc (.cells #[.int .u64 1, .int .u64 2, .int .u64 3] 25)).drewN n3) := Below.drN (hb2.alloc (by omega) _) n3
  obtain ⟨e0, e1, e2⟩ := HKC.out _ hb3
  clear q2 l2 d0 d1 d2
  have hA3 : Below w1.heap.size w1 ((W2.alloc (.cells #[.int .u64 1, .int .u64 2, .int .u64 3] 25)).drewN n3) := hA.trans (hb3.mono (Nat.le_succ _))
  have hj := ujoint_any (c := ([2, 3, 4], [1, 2, 3], [])) ⟨k1.below hA3 (Nat.le_refl _), k2.below hA3 (Nat.le_refl _), k3.below hA3 (Nat.le_refl _)⟩
  have hB3 : Below w.heap.size w ((W2.alloc (.cells #[.int .u64 1, .int .u64 2, .int .u64 3] 25)).drewN n3) := hb1.trans (hA3.mono hb1.size)
  go_wp2_with fail
  refine hj.mono ?_
  rintro e w4 ⟨rfl, hb4⟩
  go_wp2_with fail
  go_ret
  exact ⟨rfl, hB3.trans (hb4.mono hB3.size)⟩
end Go.Proofs.Ytedpfmalhapmeaa

/- What conf.Index answers. -/
namespace Go.Proofs.Ytedpfmalhapmeaa
open Go.RowKit Go.Maps
set_option linter.unusedVariables false
set_option maxRecDepth 100000

theorem fold_snoc (H : UInt64 → UInt64) (c : Cn) (l : List UInt64) (k : Nat) (h : k < l.length) : (l.take (k + 1)).foldl (bst H c) 0 = bst H c ((l.take k).foldl (bst H c) 0) l[k] := by
  rw [List.take_succ_eq_append_getElem h, List.foldl_append]; rfl
theorem wfU (x : UInt64) : (Lit.int .u64 (x.toNat : Int)).wf = true := kU_wf x

set_option maxHeartbeats 4000000 in
theorem index_any {N : Nat} (hS : SortsTo N) {x y z v v' : Value} {c : Cn} {ps qs : List UInt64} {w : World} (hr : Rc w x y z c) (hp : Ru w v ps) (hq : Ru w v' qs) (h27 : 27 ≤ N) (hN : N ≤ 1099511627776) (hl : ps.length ≤ 1099511627776) :
    Calls Try.prog 29 #[.agg #[x, y, z], v, v'] w fun e w' => e = .returned (.int .u64 ((ixF c ps qs).toNat : Int)) ∧ Below w.heap.size w w' := by
  have hB := u_al w (.cells #[x, y, z] 24)
  have hmf : ∀ (fn : Fn) (first cap : Array Value) (w : World), (Instr.makeFunc fn first cap).run Try.prog w = .ok (.func fn first cap) w := fun _ _ _ _ => rfl
  have hmm := @run_makeMap Try.prog
  have hck := check_any hS (hr.below hB (Nat.le_refl _)) (.inr h27) hN
  have HK : Hid (∀ W, Below (w.heap.size + 1) (w.alloc (.cells #[x, y, z] 24)) W → W.cell? ⟨w.heap.size, 0, none⟩ = some x ∧ W.cell? ⟨w.heap.size, 1, none⟩ = some y ∧ W.cell? ⟨w.heap.size, 2, none⟩ = some z) := fun W hW => box3 hW rfl
  have HRC : Hid (∀ W, Below w.heap.size w W → Rc W x y z c) := fun W hW => hr.below hW (Nat.le_refl _)
  have HRP : Hid (∀ W, Below w.heap.size w W → Ru W v ps) := fun W hW => hp.below hW (Nat.le_refl _)
  have HRQ : Hid (∀ W, Below w.heap.size w W → Ru W v' qs) := fun W hW => hq.below hW (Nat.le_refl _)
  obtain ⟨ax, cx, rfl⟩ := hr.1.shape
  obtain ⟨ay, cy, rfl⟩ := hr.2.1.shape
  obtain ⟨az, cz, rfl⟩ := hr.2.2.shape
  obtain ⟨ap, cp, rfl⟩ := hp.shape
  obtain ⟨aq, cq, rfl⟩ := hq.shape
  have hqm := hq.len
  unfold maxLen at hqm
  clear hr hp hq
  cases hc : chk c with
  | false =>
    rw [hc] at hck
    have e0 : ixF c ps qs = 0 := if_neg (fun h => by rw [hc] at h; cases h.1)
    rw [e0]
    clear hc e0
    go_enter Try.func29, Try.ntmps29
    go_wp2_with fail
    refine hck.mono ?_
    rintro e w1 ⟨rfl, hb1⟩
    simp only [Bool.false_eq_true, if_false]
    go_wp2_with fail
    go_ret
    exact ⟨rfl, hB.trans (hb1.mono hB.size)⟩
  | true =>
    rw [hc] at hck
    by_cases hlen : ps.length = qs.length
    · have hle := chk_lens hc
      have hml := mems_le c
      have hl3 : c.2.2.length ≤ 9 := by
        have h := hc
        unfold chk ok1 at h
        simp only [Bool.and_eq_true, decide_eq_true_eq] at h
        exact h.2.2.1.1
      have HF : Hid ((mems c).take (mems c).length = mems c) := List.take_length ..
      have HIX : Hid (ixF c ps qs = (mems c).foldl (bst (hasF ps qs) c) 0) := if_pos ⟨hc, hlen⟩
      generalize ixF c ps qs = R at *
      have HAG : Hid (∀ W m nn H n, Below w.heap.size w W → Hm m nn H W → Calls Try.prog 48 #[.agg #[.slice ax c.1.length cx, .slice ay c.2.1.length cy, .slice az c.2.2.length cz], .func (.func 52) #[.agg #[.map (some m), .int .u64 ((n : UInt64).toNat : Int)]] #[]] W fun e w' => e = .returned (.bool (agr (rch H n) c)) ∧ Below W.heap.size W w') := fun W m nn H n hW hm => agreed_reached (HRC.out W hW) hm hle.1 hle.2
      have HME : Hid (∀ W, Below w.heap.size w W → Calls Try.prog 9 #[.agg #[.slice ax c.1.length cx, .slice ay c.2.1.length cy, .slice az c.2.2.length cz]] W fun e w' => ∃ am cm, e = .returned (.slice am (mems c).length cm) ∧ Ru w' (.slice am (mems c).length cm) (mems c) ∧ Below W.heap.size W w') := fun W hW => (members_any hS (HRC.out W hW) (by omega) hN).mono (by
        rintro e w' ⟨v', m, rfl, ho, hm, hb⟩
        obtain rfl := hm.eq
        obtain ⟨am, cm, rfl⟩ := ho.shape
        exact ⟨am, cm, rfl, ho.ru, hb⟩)
      have hm27 : (mems c).length ≤ 27 := by omega
      have HSN : Hid (∀ H k, (h : k < (mems c).length) → ((mems c).take (k + 1)).foldl (bst H c) 0 = bst H c (((mems c).take k).foldl (bst H c) 0) (mems c)[k]) := fun H k h => fold_snoc H c _ k h
      have HLQ : Hid (ps.length = qs.length) := hlen
      have hneq : ((ps.length : Int) == (qs.length : Int)) = true := by simp [hlen]
      clear hc hle hml hl3 hlen HRC
      generalize mems c = M at *
      go_enter Try.func29, Try.ntmps29
      go_wp2_with fail
      refine hck.mono ?_
      rintro e w1 ⟨rfl, hb1⟩
      have hb1' : Below w.heap.size w w1 := hB.trans (hb1.mono hB.size)
      have hb1s : Below (w.heap.size + 1) (w.alloc (.cells #[.slice ax c.1.length cx, .slice ay c.2.1.length cy, .slice az c.2.2.length cz] 24)) w1 := hb1.mono (by simp)
      have hz1 : w.heap.size + 1 ≤ w1.heap.size := by have := hb1.size; simp only [World.size_alloc] at this; omega
      clear hck hb1
      simp only [if_true]
      have hS0 : Hm w1.heap.size 0 (hasF [] []) (w1.alloc (.map #[] 0)) := by
        have h := World.ownsMap_made (H := Unit) w1 Try.prog 25 (plainElem Try.prog 25)
        exact ⟨⟨_, h, fun x => by simp [hasF_nil, DataW.atKey]⟩⟩
      have hB2 : Below w1.heap.size w1 (w1.alloc (.map #[] 0)) := u_al w1 _
      go_wp2_with fail
      generalize (w1.alloc (.map #[] 0)) = W0 at *
      clear hmm
      go_loopw [8, 9, 27] (fun _ _ i wr => ∃ k : Nat, k ≤ ps.length ∧ i = .int .i64 k ∧ Hm w1.heap.size k (hasF (ps.take k) (qs.take k)) wr ∧ Below w1.heap.size w1 wr) (fun _ _ i _ => ps.length - (intOf i).toNat)
      case atStart => exact ⟨0, Nat.zero_le _, rfl, by simpa using hS0, hB2⟩
      case round =>
        obtain ⟨k, hk, rfl, hHm, hb⟩ := hrel
        clear hS0 hB2
        have hbw : Below w.heap.size w wr := hb1'.trans (hb.mono (by omega))
        by_cases hlt : k < ps.length
        · obtain ⟨aop, ccp, eqp, p1, p2, p3, p4⟩ := HRP.out wr hbw
          simp only [Value.slice.injEq, true_and] at eqp
          obtain ⟨rfl, rfl⟩ := eqp
          obtain ⟨a, rfl, hcp⟩ := p4 k hlt
          have hltq : k < qs.length := by have := HLQ.out; omega
          obtain ⟨aoq, ccq, eqq, q1, q2, q3, q4⟩ := HRQ.out wr hbw
          simp only [Value.slice.injEq, true_and] at eqq
          obtain ⟨rfl, rfl⟩ := eqq
          obtain ⟨a', rfl, hcq⟩ := q4 k hltq
          have HE : Hid _ := hasF_snoc ps qs k hlt hltq
          obtain ⟨D, hown, d1⟩ := hHm.own
          have hD := (hown.tidy Try.lawU).isMap
          have HP : Hid _ := putH_at hD d1 ps[k] qs[k]
          unfold maxLen at p2 q2
          clear p4 q4 p3 q3 hHm d1
          generalize ps[k] = pk at *
          generalize qs[k] = qk at *
          go_wp2_with (first
            | (at_mapUpdate; refine wpList_mapUpdate_own _ rfl _ _ _ 69 rfl 25 25 Try.lawU Try.underlying69 _ w1.heap.size k D rfl hown (by unfold maxLen; omega) _ _ _ rfl rfl (keyU pk) (dU qk) [] (plainElem_int Try.underlying25 (wfU qk)) ?_; intro w2 hown1 hg1; go_frame)
            | fail)
          have hg1b : Below w1.heap.size wr w2 := (Below.refl _ wr).grown hg1 (by have := hown.lt; omega) (fun j e => by cases e; exact Nat.le_refl _)
          go_roundw
          case rel => exact ⟨k + 1, by omega, by go_num, Hm.cong ⟨⟨_, hown1, HP.out⟩⟩ HE.out.symm, hb.trans hg1b⟩
          case measure => simp [intOf]; omega
        · obtain rfl : k = ps.length := by omega
          have hHm2 : Hm w1.heap.size ps.length (hasF ps qs) wr := by
            rw [List.take_length, HLQ.out, List.take_length] at hHm
            rw [HLQ.out]; exact hHm
          have hbs : Below (w.heap.size + 1) (w.alloc (.cells #[.slice ax c.1.length cx, .slice ay c.2.1.length cy, .slice az c.2.2.length cz] 24)) wr := hb1s.trans (hb.mono hz1)
          obtain ⟨k0, k1, k2⟩ := HK.out wr hbs
          clear hHm HRP HRQ
          generalize hasF ps qs = H at *
          go_wp2_with fail
          refine (HME.out wr hbw).mono ?_
          rintro e w2 ⟨am, cm, rfl, hrm, hb2⟩
          have hbs2 : Below (w.heap.size + 1) (w.alloc (.cells #[.slice ax c.1.length cx, .slice ay c.2.1.length cy, .slice az c.2.2.length cz] 24)) w2 := hbs.trans (hb2.mono (by have := hbs.size; simp only [World.size_alloc] at this; omega))
          have hbw2 : Below w.heap.size w w2 := hbw.trans (hb2.mono hbw.size)
          have hHm3 := hHm2.below hb2 (Nat.le_refl _)
          clear hHm2 hb2 hbs k0 k1 k2 hb hbw HME
          generalize hwr : wr = W1 at *
          clear hwr wr
          obtain ⟨aom, ccm, eqm, m1, m2, m3, m4⟩ := hrm
          simp only [Value.slice.injEq, true_and] at eqm
          obtain ⟨rfl, rfl⟩ := eqm
          unfold maxLen at m2
          go_wp2_with fail
          go_loopw [10, 12, 13, 42] (fun b _ _ i wr => ∃ (k : Nat) (bv : UInt64), k ≤ M.length ∧ i = .int .i64 k ∧ b = .int .u64 (bv.toNat : Int) ∧ Hid ((M.take k).foldl (bst H c) 0 = bv) ∧ Below w2.heap.size w2 wr) (fun _ _ _ i _ => M.length - (intOf i).toNat)
          case atStart => exact ⟨0, 0, Nat.zero_le _, rfl, rfl, rfl, Below.refl _ _⟩
          case round =>
            obtain ⟨k, bv, hk, rfl, rfl, HV, hb⟩ := hrel
            have hbw3 : Below w.heap.size w wr := hbw2.trans (hb.mono hbw2.size)
            have hsz2 : w.heap.size + 1 ≤ w2.heap.size := by have := hbs2.size; simp only [World.size_alloc] at this; omega
            by_cases hlt : k < M.length
            · obtain ⟨a, rfl, hcm⟩ := m4 k hlt
              have hcx : wr.cell? (a.add k) = some (.int .u64 (M[k].toNat : Int)) := by rw [hb.cell (World.block_lt_of_cell? w2 _ hcm)]; exact hcm
              have HSK : Hid _ := HSN.out H k hlt
              obtain ⟨k0, k1, k2⟩ := HK.out wr (hbs2.trans (hb.mono hsz2))
              have hHm4 := hHm3.below hb (Nat.le_refl _)
              obtain ⟨D, hown, d1⟩ := hHm4.own
              clear m4 m3 hcm HSN
              generalize M[k] = p at *
              have HY : Hid (D.atKey (kU p) (dU 0) = dU (H p)) := d1 p
              have HA := HAG.out wr w1.heap.size ps.length H (H p) hbw3 hHm4
              have HB3 : Hid (bst H c bv p = if bv.toNat < (H p).toNat ∧ agr (rch H (H p)) c = true then H p else bv) := rfl
              clear d1 hHm4 HAG
              generalize H p = hp at *
              by_cases hgt : bv.toNat < hp.toNat
              · have hgi : (bv.toNat : Int) < (hp.toNat : Int) := by omega
                cases hag : agr (rch H hp) c with
                | true =>
                  rw [hag] at HA
                  have HV2 : Hid ((M.take (k + 1)).foldl (bst H c) 0 = hp) := by show _ = _; rw [HSK.out, HV.out, HB3.out, if_pos ⟨hgt, hag⟩]
                  clear HSK HV HB3 hag
                  go_wp2_with (first
                    | (at_lookup; refine wpList_lookup_own_int _ rfl _ _ 69 rfl 25 25 .u64 Try.lawU Try.underlying69 Try.underlying25 (Try.zeroU0 _) w1.heap.size ps.length D rfl hown _ _ rfl (keyU p) ?_; intro c hat hwc; obtain rfl : c = (hp.toNat : Int) := by (have h0 := HY.out; rw [show (DataW.lit (.int .u64 0) : DataW Unit) = dU 0 from rfl, h0] at hat; simpa [dU] using hat.symm))
                    | fail)
                  refine HA.mono ?_
                  rintro e w3 ⟨rfl, hb3⟩
                  go_wp2_with fail
                  exact ⟨⟨k + 1, hp, by omega, by go_num, rfl, HV2, hb.trans (hb3.mono hb.size)⟩, by simp [intOf]; omega⟩
                | false =>
                  rw [hag] at HA
                  have HV2 : Hid ((M.take (k + 1)).foldl (bst H c) 0 = bv) := by show _ = _; rw [HSK.out, HV.out, HB3.out, if_neg (fun q => by rw [hag] at q; cases q.2)]
                  clear HSK HV HB3 hag
                  go_wp2_with (first
                    | (at_lookup; refine wpList_lookup_own_int _ rfl _ _ 69 rfl 25 25 .u64 Try.lawU Try.underlying69 Try.underlying25 (Try.zeroU0 _) w1.heap.size ps.length D rfl hown _ _ rfl (keyU p) ?_; intro c hat hwc; obtain rfl : c = (hp.toNat : Int) := by (have h0 := HY.out; rw [show (DataW.lit (.int .u64 0) : DataW Unit) = dU 0 from rfl, h0] at hat; simpa [dU] using hat.symm))
                    | fail)
                  refine HA.mono ?_
                  rintro e w3 ⟨rfl, hb3⟩
                  go_wp2_with fail
                  exact ⟨⟨k + 1, bv, by omega, by go_num, rfl, HV2, hb.trans (hb3.mono hb.size)⟩, by simp [intOf]; omega⟩
              · have hgi : ¬ (bv.toNat : Int) < (hp.toNat : Int) := by omega
                have HV2 : Hid ((M.take (k + 1)).foldl (bst H c) 0 = bv) := by show _ = _; rw [HSK.out, HV.out, HB3.out, if_neg (fun q => hgt q.1)]
                clear HSK HV HB3 HA
                go_wp2_with (first
                  | (at_lookup; refine wpList_lookup_own_int _ rfl _ _ 69 rfl 25 25 .u64 Try.lawU Try.underlying69 Try.underlying25 (Try.zeroU0 _) w1.heap.size ps.length D rfl hown _ _ rfl (keyU p) ?_; intro c hat hwc; obtain rfl : c = (hp.toNat : Int) := by (have h0 := HY.out; rw [show (DataW.lit (.int .u64 0) : DataW Unit) = dU 0 from rfl, h0] at hat; simpa [dU] using hat.symm))
                  | fail)
                exact ⟨⟨k + 1, bv, by omega, by go_num, rfl, HV2, hb⟩, by simp [intOf]; omega⟩
            · obtain rfl : k = M.length := by omega
              obtain rfl : bv = R := by rw [← HV.out, HIX.out, HF.out]
              clear m4 m3 HV HIX HF HSN
              go_wp2_with fail
              go_ret
              exact ⟨rfl, hbw3⟩
    · have e0 : ixF c ps qs = 0 := if_neg (fun h => hlen h.2)
      rw [e0]
      have hneq : ((ps.length : Int) == (qs.length : Int)) = false := by
        simp only [beq_eq_false_iff_ne, ne_eq]; omega
      clear hc e0
      go_enter Try.func29, Try.ntmps29
      go_wp2_with fail
      refine hck.mono ?_
      rintro e w1 ⟨rfl, hb1⟩
      simp only [if_true]
      go_wp2_with fail
      go_ret
      exact ⟨rfl, hB.trans (hb1.mono hB.size)⟩
end Go.Proofs.Ytedpfmalhapmeaa

/- Quorums meet: the mathematics of ConfMeets. -/
namespace Go.Proofs.Ytedpfmalhapmeaa
open Go.RowKit Go.Sort
set_option linter.unusedVariables false
set_option linter.unusedSimpArgs false
set_option maxRecDepth 100000

/-- Have two lists a number in common that is in a third one? -/
def mtF (a b m : List UInt64) : Bool := a.any (fun p => decide (p ∈ b) && decide (p ∈ m))
theorem mtF_of {a b m : List UInt64} {p : UInt64} (h1 : p ∈ a) (h2 : p ∈ b) (h3 : p ∈ m) : mtF a b m = true := by
  unfold mtF
  rw [List.any_eq_true]
  exact ⟨p, h1, by simp [h2, h3]⟩
theorem cnt_meet (a b vs : List UInt64) (h : vs.length < cnt a vs + cnt b vs) : ∃ p ∈ vs, p ∈ a ∧ p ∈ b := by
  unfold cnt at h
  induction vs with
  | nil => simp at h
  | cons p r ih =>
    by_cases ha : p ∈ a
    · by_cases hb : p ∈ b
      · exact ⟨p, List.mem_cons_self .., ha, hb⟩
      · simp only [List.filter_cons, ha, hb, decide_true, decide_false, if_true, Bool.false_eq_true, if_false, List.length_cons] at h
        obtain ⟨q, hq, h1⟩ := ih (by omega)
        exact ⟨q, List.mem_cons_of_mem _ hq, h1⟩
    · by_cases hb : p ∈ b
      · simp only [List.filter_cons, ha, hb, decide_true, decide_false, if_true, Bool.false_eq_true, if_false, List.length_cons] at h
        obtain ⟨q, hq, h1⟩ := ih (by omega)
        exact ⟨q, List.mem_cons_of_mem _ hq, h1⟩
      · simp only [List.filter_cons, ha, hb, decide_true, decide_false, if_true, Bool.false_eq_true, if_false, List.length_cons] at h
        obtain ⟨q, hq, h1⟩ := ih (by omega)
        exact ⟨q, List.mem_cons_of_mem _ hq, h1⟩
/-- A quorum. -/
def qu (c : Cn) (l : List UInt64) : Bool := chk c && agr (cnt l) c
theorem qu_1 {c : Cn} {l : List UInt64} (h : qu c l = true) : c.1.length < 2 * cnt l c.1 := by
  unfold qu agr at h
  simp only [Bool.and_eq_true, decide_eq_true_eq] at h
  exact h.2.1
theorem qu_2 {c : Cn} {l : List UInt64} (h : qu c l = true) (h0 : c.2.1 ≠ []) : c.2.1.length < 2 * cnt l c.2.1 := by
  unfold qu agr at h
  simp only [Bool.and_eq_true, Bool.or_eq_true, decide_eq_true_eq] at h
  rcases h.2.2 with h | h
  · exact absurd (List.length_eq_zero_iff.1 h) h0
  · exact h
theorem meet_one {c : Cn} {a b vs : List UInt64} (h1 : vs.length < 2 * cnt a vs) (h2 : vs.length < 2 * cnt b vs) (h : ∀ p ∈ vs, p ∈ mems c) : mtF a b (mems c) = true := by
  obtain ⟨p, hp, ha, hb⟩ := cnt_meet a b vs (by omega)
  exact mtF_of ha hb (h p hp)
theorem meet_self {c : Cn} {a b : List UInt64} (h1 : qu c a = true) (h2 : qu c b = true) : mtF a b (mems c) = true :=
  meet_one (qu_1 h1) (qu_1 h2) (fun p hp => ((mems_is c).2 p).2 (.inl hp))
theorem chk_ne {c : Cn} (h : chk c = true) : c.1 ≠ [] := by
  unfold chk at h
  simp only [Bool.and_eq_true, decide_eq_true_eq] at h
  exact h.2.2.2.1
/-- What Enter makes where it refuses nothing. -/
theorem ent_ok {c : Cn} {qs : List Cg} {res : Cn} (h : EntR c qs res 0) : chk c = true ∧ c.2.1 = [] ∧ chk res = true ∧ ∃ V' L', res = nxt c.1 V' L' := by
  rcases h with ⟨_, _, h⟩ | ⟨_, _, _, h⟩ | ⟨_, _, _, _, h⟩ | ⟨h1, h2, S, V', L', _, _, _, ⟨_, _, h⟩ | ⟨h3, h4, _⟩⟩
  · omega
  · omega
  · omega
  · omega
  · exact ⟨h1, h2, by rw [h4]; exact h3, V', L', h4⟩
theorem nxt_joint {V V' L' : List UInt64} (hV : V ≠ []) : (nxt V V' L').2.1 = V ∧ 0 < (nxt V V' L').2.1.length ∨ ((nxt V V' L').2.1 = [] ∧ V' = V) := by
  unfold nxt
  by_cases h : V' = V
  · exact .inr ⟨by simp [h], h⟩
  · refine .inl ⟨by simp [h], ?_⟩
    simp only [h, if_false]
    exact List.length_pos_iff.2 hV
theorem meet_next {c : Cn} {qs : List Cg} {d : Cn} {a b : List UInt64} (h : EntR c qs d 0) (h1 : qu c a = true) (h2 : qu d b = true) : mtF a b (mems c) = true := by
  obtain ⟨hc, ho, hd, V', L', rfl⟩ := ent_ok h
  have hne := chk_ne hc
  refine meet_one (qu_1 h1) ?_ (fun p hp => ((mems_is c).2 p).2 (.inl hp))
  rcases nxt_joint (V' := V') (L' := L') hne with ⟨e, h0⟩ | ⟨e, rfl⟩
  · have := qu_2 h2 (fun q => by rw [q] at h0; simp at h0)
    rw [e] at this
    exact this
  · have h3 := qu_1 h2
    exact h3
/-- What Leave makes. -/
def lv (d : Cn) : Cn := (d.1, [], d.2.2)
theorem ris_len {a b : List UInt64} (ha : Ris a) (h : ∀ x ∈ a, x ∈ b) : a.length ≤ b.length := by
  have nd : a.Nodup := ha.imp (fun h e => by subst e; omega)
  clear ha
  induction a generalizing b with
  | nil => simp
  | cons x r ih =>
    have hx := h x (List.mem_cons_self ..)
    have hn := List.nodup_cons.1 nd
    have := ih (b := b.erase x) (fun y hy => by
      have hne : y ≠ x := fun e => hn.1 (by rw [← e]; exact hy)
      exact (List.mem_erase_of_ne hne).2 (h y (List.mem_cons_of_mem _ hy))) hn.2
    rw [List.length_erase_of_mem hx] at this
    have hp := List.length_pos_of_mem hx
    simp only [List.length_cons]
    omega
theorem chk_lv {d : Cn} (h : chk d = true) : chk (lv d) = true := by
  have hm : (mems (lv d)).length ≤ (mems d).length := ris_len (mems_is (lv d)).1 (fun x hx => by
    rw [(mems_is d).2]
    rcases ((mems_is (lv d)).2 x).1 hx with h | h | h
    · exact .inl h
    · simp [lv] at h
    · exact .inr (.inr h))
  unfold chk at h ⊢
  simp only [Bool.and_eq_true, decide_eq_true_eq, Bool.not_eq_true'] at h ⊢
  obtain ⟨h1, h2, h3, h4, h5, h6⟩ := h
  refine ⟨h1, by show ok1 [] = true; decide, h3, h4, ?_, by omega⟩
  rw [List.any_eq_false] at h5 ⊢
  intro x hx hv
  refine h5 x hx ?_
  unfold vt at hv ⊢
  have hv2 : (decide (x ∈ d.1) || decide (x ∈ ([] : List UInt64))) = true := hv
  have hx1 : x ∈ d.1 := by
    rcases Bool.or_eq_true_iff.1 hv2 with h | h
    · exact of_decide_eq_true h
    · exact absurd (of_decide_eq_true h) (by simp)
  simp [hx1]
theorem meet_left {d : Cn} {a b : List UInt64} (h1 : qu d a = true) (h2 : qu (lv d) b = true) : mtF a b (mems d) = true :=
  have h3 := qu_1 h2
  meet_one (qu_1 h1) h3 (fun p hp => ((mems_is d).2 p).2 (.inl hp))
end Go.Proofs.Ytedpfmalhapmeaa

/- The mathematics of ConfIndex. -/
namespace Go.Proofs.Ytedpfmalhapmeaa
open Go.RowKit
set_option linter.unusedVariables false
set_option maxRecDepth 100000

theorem ris_nodup {a : List UInt64} (ha : Ris a) : a.Nodup := by
  refine List.Pairwise.imp ?_ (show a.Pairwise (fun x y => x.toNat < y.toNat) from ha)
  intro x y h e
  subst e
  exact absurd h (Nat.lt_irrefl _)
theorem hasF_all {M A : List UInt64} (hn : M.Nodup) (hl : M.length = A.length) : ∀ k, k ≤ M.length → ∀ i, (h : i < M.length) → i < k → hasF (M.take k) (A.take k) M[i] = A[i]'(by omega) := by
  intro k
  induction k with
  | zero => intro _ i _ hi; omega
  | succ k ih =>
    intro hk i h hi
    rw [hasF_snoc M A k (by omega) (by omega)]
    unfold updH
    by_cases e : M[i] = M[k]
    · have hik : i = k := by
        rcases Nat.lt_or_eq_of_le (Nat.lt_succ_iff.1 hi) with h1 | h1
        · exact absurd e (List.pairwise_iff_getElem.1 hn i k h (by omega) h1)
        · exact h1
      subst hik
      rw [if_pos rfl]
    · rw [if_neg e]
      exact ih (by omega) i h (by
        rcases Nat.lt_or_eq_of_le (Nat.lt_succ_iff.1 hi) with h | h
        · exact h
        · subst h; exact absurd rfl e)
theorem hasF_at {M A : List UInt64} (hn : M.Nodup) (hl : M.length = A.length) (i : Nat) (h : i < M.length) : hasF M A M[i] = A[i]'(by omega) := by
  have := hasF_all hn hl M.length (Nat.le_refl _) i h h
  rw [List.take_length] at this
  rw [← this, List.take_of_length_le (by omega)]
theorem hasF_not {M A : List UInt64} {p : UInt64} (h : p ∉ M) : hasF M A p = 0 := by
  unfold hasF
  have key : ∀ (z : List (UInt64 × UInt64)) (H : UInt64 → UInt64), (∀ q ∈ z, q.1 ≠ p) → (z.foldl (fun H q => updH H q.1 q.2) H) p = H p := by
    intro z
    induction z with
    | nil => intro H _; rfl
    | cons q r ih =>
      intro H hz
      rw [List.foldl_cons, ih _ (fun x hx => hz x (List.mem_cons_of_mem _ hx)), updH, if_neg (fun e => hz q (List.mem_cons_self ..) e.symm)]
  exact key _ _ (fun q hq e => h (e ▸ (List.of_mem_zip hq).1))
theorem hasF_set {M A : List UInt64} (hn : M.Nodup) (hl : M.length = A.length) (i : Nat) (hi : i < A.length) (v : UInt64) (hv : (A[i]).toNat ≤ v.toNat) (p : UInt64) : (hasF M A p).toNat ≤ (hasF M (A.set i v) p).toNat := by
  by_cases hp : p ∈ M
  · obtain ⟨j, hj, rfl⟩ := List.getElem_of_mem hp
    rw [hasF_at hn hl j hj, hasF_at hn (by simpa using hl) j hj, List.getElem_set]
    split
    · rename_i e; subst e; exact hv
    · exact Nat.le_refl _
  · rw [hasF_not hp, hasF_not hp]; exact Nat.le_refl _
theorem rch_zero (H : UInt64 → UInt64) (vs : List UInt64) : rch H 0 vs = vs.length := by
  unfold rch
  rw [List.filter_eq_self.2 (fun p _ => by simp)]
theorem agr_zero {c : Cn} (h : chk c = true) (H : UInt64 → UInt64) : agr (rch H 0) c = true := by
  have h1 := chk_ne h
  have := List.length_pos_iff.2 h1
  unfold agr
  rw [rch_zero, rch_zero]
  simp only [Bool.and_eq_true, Bool.or_eq_true, decide_eq_true_eq]
  omega
def geF (H : UInt64 → UInt64) (K : UInt64) : UInt64 → Bool := fun p => decide (K.toNat ≤ (H p).toNat)
def gtF (H : UInt64 → UInt64) (K : UInt64) : UInt64 → Bool := fun p => decide (K.toNat < (H p).toNat)
/-- Those that have come to the index are a quorum, those beyond are none. -/
theorem ix_have {c : Cn} {H : UInt64 → UInt64} {K : UInt64} {M : List UInt64} (hc : chk c = true) (hM : M = mems c) (h : IsIx c H K) : qu c (M.filter (geF H K)) = true := by
  unfold geF
  subst hM
  have hi := (mems_is c).2
  unfold qu
  rw [hc, Bool.true_and]
  have e : ∀ vs, (∀ p ∈ vs, p ∈ mems c) → cnt ((mems c).filter (fun p => decide (K.toNat ≤ (H p).toNat))) vs = rch H K vs := fun vs hv => rch_cnt (fun p hp => by simp [hv p hp])
  rw [agr_cong (g := rch H K) (e _ (fun p hp => (hi p).2 (.inl hp))) (e _ (fun p hp => (hi p).2 (.inr (.inl hp))))]
  rcases h.1 with e | e
  · rw [e]; exact agr_zero hc H
  · exact e
theorem ix_above {c : Cn} {H : UInt64 → UInt64} {K : UInt64} {M : List UInt64} (hM : M = mems c) (h : IsIx c H K) : qu c (M.filter (gtF H K)) = false := by
  unfold gtF
  subst hM
  have hi := (mems_is c).2
  unfold qu
  have key : agr (cnt ((mems c).filter (fun p => decide (K.toNat < (H p).toNat)))) c = false := by
    by_cases hK : K.toNat + 1 < 18446744073709551616
    · have hv : (UInt64.ofNat (K.toNat + 1)).toNat = K.toNat + 1 := by rw [UInt64.toNat_ofNat']; omega
      have e : ∀ vs, (∀ p ∈ vs, p ∈ mems c) → cnt ((mems c).filter (fun p => decide (K.toNat < (H p).toNat))) vs = rch H (UInt64.ofNat (K.toNat + 1)) vs := fun vs hv' => rch_cnt (fun p hp => by rw [hv]; simp [hv' p hp]; omega)
      rw [agr_cong (g := rch H (UInt64.ofNat (K.toNat + 1))) (e _ (fun p hp => (hi p).2 (.inl hp))) (e _ (fun p hp => (hi p).2 (.inr (.inl hp))))]
      exact h.2 _ (by omega)
    · have e : (mems c).filter (fun p => decide (K.toNat < (H p).toNat)) = [] := List.filter_eq_nil_iff.2 (fun p _ => by have := (H p).toNat_lt; simp; omega)
      have z : ∀ vs, cnt [] vs = 0 := fun vs => by unfold cnt; rw [List.filter_eq_nil_iff.2 (by simp)]; rfl
      rw [e]
      unfold agr
      rw [z, z]
      simp
  rw [key, Bool.and_false]
theorem filt_take (f : UInt64 → Bool) (m : List UInt64) (k : Nat) (h : k < m.length) : (m.take (k + 1)).filter f = (m.take k).filter f ++ (if f m[k] = true then [m[k]] else []) := by
  rw [List.take_succ_eq_append_getElem h, List.filter_append]
  congr 1
  by_cases q : f m[k] = true
  · simp [q]
  · simp [q]
theorem filt_len (f : UInt64 → Bool) (m : List UInt64) (k : Nat) : ((m.take k).filter f).length ≤ k := Nat.le_trans (List.length_filter_le _ _) (by rw [List.length_take]; omega)
theorem and62_bound (p : Int) : 0 ≤ bits .and .i64 p 4611686018427387903 ∧ bits .and .i64 p 4611686018427387903 ≤ 4611686018427387903 := by
  show 0 ≤ IntKind.i64.wrap ((BitVec.ofInt 64 p &&& BitVec.ofInt 64 4611686018427387903).toNat : Int) ∧ IntKind.i64.wrap ((BitVec.ofInt 64 p &&& BitVec.ofInt 64 4611686018427387903).toNat : Int) ≤ 4611686018427387903
  have h3 : (BitVec.ofInt 64 4611686018427387903).toNat = 4611686018427387903 := by decide
  have hle : (BitVec.ofInt 64 p &&& BitVec.ofInt 64 4611686018427387903).toNat ≤ 4611686018427387903 := by
    rw [BitVec.toNat_and, h3]
    exact Nat.and_le_right
  rw [IntKind.wrap_i64]
  omega
end Go.Proofs.Ytedpfmalhapmeaa

/- What the program's Leave answers. -/
namespace Go.Proofs.Ytedpfmalhapmeaa
open Go.RowKit Go.Maps
set_option linter.unusedVariables false
set_option maxRecDepth 100000

def leF (c : Cn) : Cn × Nat := if chk c = true then (if c.2.1.length = 0 then (none3, 71) else (lv c, 0)) else (none3, 70)

set_option maxHeartbeats 2000000 in
theorem leave_any {N : Nat} (hSo : SortsTo N) {x y z : Value} {c : Cn} {w : World} (hr : Rc w x y z c) (h27 : 27 ≤ N) (hN : N ≤ 1099511627776) :
    Calls Try.prog 23 #[.agg #[x, y, z]] w fun e w' => ∃ (x' y' z' : Value), e = .returned (.tuple #[.agg #[x', y', z'], .int .i64 ((leF c).2 : Nat)]) ∧ Oc w.heap.size w' x' y' z' (leF c).1 ∧ Below w.heap.size w w' := by
  obtain ⟨V, O, L⟩ := c
  obtain ⟨ax, cx, rfl⟩ := hr.1.shape
  obtain ⟨ay, cy, rfl⟩ := hr.2.1.shape
  obtain ⟨az, cz, rfl⟩ := hr.2.2.shape
  generalize hF : leF (V, O, L) = F
  unfold leF at hF
  simp only [] at hF
  have HF : Hid _ := hF
  clear hF
  have hB0 : Below w.heap.size w ((w.alloc (.cells #[.slice ax V.length cx, .slice ay O.length cy, .slice az L.length cz] 24)).alloc (.cells #[.slice none 0 0, .slice none 0 0, .slice none 0 0] 24)) := (u_al w _).alloc (by simp) _
  have hz0 : ((w.alloc (.cells #[.slice ax V.length cx, .slice ay O.length cy, .slice az L.length cz] 24)).alloc (.cells #[.slice none 0 0, .slice none 0 0, .slice none 0 0] 24)).heap.size = w.heap.size + 2 := by simp
  have hbx : ((w.alloc (.cells #[.slice ax V.length cx, .slice ay O.length cy, .slice az L.length cz] 24)).alloc (.cells #[.slice none 0 0, .slice none 0 0, .slice none 0 0] 24)).heap[w.heap.size]? = some (.cells #[.slice ax V.length cx, .slice ay O.length cy, .slice az L.length cz] 24 (0, 0)) := by
    rw [Below.heap_alloc _ _ _ (by simp)]; exact heap_alloc_new w _
  have hrs : ((w.alloc (.cells #[.slice ax V.length cx, .slice ay O.length cy, .slice az L.length cz] 24)).alloc (.cells #[.slice none 0 0, .slice none 0 0, .slice none 0 0] 24)).heap[w.heap.size + 1]? = some (.cells #[.slice none 0 0, .slice none 0 0, .slice none 0 0] 24 (0, 0)) := by
    have := heap_alloc_new (w.alloc (.cells #[.slice ax V.length cx, .slice ay O.length cy, .slice az L.length cz] 24)) (.cells #[.slice none 0 0, .slice none 0 0, .slice none 0 0] 24)
    rw [World.size_alloc] at this
    exact this
  go_enter Try.func23, Try.ntmps23
  go_wp2_with fail
  generalize ((w.alloc (.cells #[.slice ax V.length cx, .slice ay O.length cy, .slice az L.length cz] 24)).alloc (.cells #[.slice none 0 0, .slice none 0 0, .slice none 0 0] 24)) = W0 at *
  have HKB : Hid (∀ W, Below W0.heap.size W0 W → Below w.heap.size w W) := fun W hW => hB0.trans (hW.mono hB0.size)
  have HKC : Hid (∀ W, Below W0.heap.size W0 W → W.cell? ⟨w.heap.size, 0, none⟩ = some (.slice ax V.length cx) ∧ W.cell? ⟨w.heap.size, 1, none⟩ = some (.slice ay O.length cy) ∧ W.cell? ⟨w.heap.size, 2, none⟩ = some (.slice az L.length cz)) := fun W hW => by
    obtain ⟨q0, q1, q2, _⟩ := at3 ((hW.block _ (by omega)).trans hbx)
    exact ⟨q0, q1, q2⟩
  have HKR : Hid (∀ W, Below W0.heap.size W0 W → W.heap[w.heap.size + 1]? = some (.cells #[.slice none 0 0, .slice none 0 0, .slice none 0 0] 24 (0, 0))) := fun W hW => (hW.block _ (by omega)).trans hrs
  have HRC : Hid (∀ W, Below W0.heap.size W0 W → Rc W (.slice ax V.length cx) (.slice ay O.length cy) (.slice az L.length cz) (V, O, L)) := fun W hW => hr.below (HKB.out W hW) (Nat.le_refl _)
  have HOUT : Hid (∀ (W : World) (x' y' z' : Value) (res : Cn), Below W0.heap.size W0 W → Oc W0.heap.size W x' y' z' res → ∀ W', W' = ((W.setCell ⟨w.heap.size + 1, 0, none⟩ x').setCell ⟨w.heap.size + 1, 1, none⟩ y').setCell ⟨w.heap.size + 1, 2, none⟩ z' → (W'.cell? ⟨w.heap.size + 1, 0, none⟩ = some x' ∧ W'.cell? ⟨w.heap.size + 1, 1, none⟩ = some y' ∧ W'.cell? ⟨w.heap.size + 1, 2, none⟩ = some z') ∧ Oc w.heap.size W' x' y' z' res ∧ Below w.heap.size w W') := fun W x' y' z' res hW ho => outO (HKR.out W hW) (Nat.le_succ _) (by omega) (HKB.out W hW) ho
  clear hbx hrs hr hB0
  obtain ⟨c0, c1, c2⟩ := HKC.out W0 (Below.refl _ _)
  have hck := check_any hSo (HRC.out W0 (Below.refl _ _)) (.inr h27) hN
  cases hchk : chk (V, O, L) with
  | false =>
    rw [hchk] at hck
    obtain rfl : (none3, 70) = F := by rw [← HF.out, hchk]; rfl
    clear HF
    go_wp2_with fail
    refine hck.mono ?_
    rintro e w1 ⟨rfl, hb1⟩
    obtain ⟨t0, t1, t2, tz⟩ := at3 (HKR.out w1 hb1)
    have tz0 := tz 0
    have tz1 := tz 1
    have tz2 := tz 2
    clear tz
    go_wp2_with fail
    obtain ⟨⟨k0, k1, k2⟩, hoc, hbz⟩ := HOUT.out w1 _ _ _ none3 hb1 (Oc.nil _ _) _ rfl
    generalize (((w1.setCell ⟨w.heap.size + 1, 0, none⟩ (.slice none 0 0)).setCell ⟨w.heap.size + 1, 1, none⟩ (.slice none 0 0)).setCell ⟨w.heap.size + 1, 2, none⟩ (.slice none 0 0)) = wz at *
    refine bodyPost_ret (v := .tuple #[.agg #[.slice none 0 0, .slice none 0 0, .slice none 0 0], .int .i64 70]) (by simp [results, Try.results23, go_sem, k0, k1, k2]; try rfl) rfl ?_
    exact ⟨_, _, _, rfl, hoc, hbz⟩
  | true =>
    rw [hchk] at hck
    go_wp2_with fail
    refine hck.mono ?_
    rintro e w1 ⟨rfl, hb1⟩
    clear hck
    obtain ⟨d0, d1, d2⟩ := HKC.out w1 hb1
    have hjo := ujoint_any (HRC.out w1 hb1)
    simp only [] at hjo
    by_cases hO : 0 < O.length
    · rw [decide_eq_true hO] at hjo
      obtain rfl : (lv (V, O, L), 0) = F := by rw [← HF.out, hchk]; simp only [if_true]; rw [if_neg (by omega)]
      have hg9 : V.length ≤ 9 ∧ L.length ≤ 9 := by
        have h := hchk
        unfold chk ok1 at h
        simp only [Bool.and_eq_true, decide_eq_true_eq] at h
        exact ⟨h.1.1, h.2.2.1.1⟩
      clear HF hchk
      go_wp2_with fail
      refine hjo.mono ?_
      rintro e w2 ⟨rfl, hb2'⟩
      have hb2 : Below W0.heap.size W0 w2 := hb1.trans (hb2'.mono hb1.size)
      obtain ⟨s0, s1, s2⟩ := HKC.out w2 hb2
      clear d0 d1 d2 c0 c1 c2 hjo
      have hv40 : (V, O, L).1.length ≤ 1099511627776 := by show V.length ≤ _; omega
      have hl40 : (V, O, L).2.2.length ≤ 1099511627776 := by show L.length ≤ _; omega
      have HC1 : Hid (∀ W, Below W0.heap.size W0 W → Calls Try.prog 45 #[.slice ax V.length cx] W fun e w' => ∃ v', e = .returned v' ∧ Ou W0.heap.size w' v' V ∧ Below W0.heap.size W0 w') := fun W hW => (uclone_any (HRC.out W hW).1 hv40).mono (by
        rintro e w' ⟨v', rfl, q1, q2⟩
        exact ⟨v', rfl, q1.mono hW.size, hW.trans (q2.mono hW.size)⟩)
      have HC2 : Hid (∀ W, Below W0.heap.size W0 W → Calls Try.prog 45 #[.slice az L.length cz] W fun e w' => ∃ v', e = .returned v' ∧ Ou W.heap.size w' v' L ∧ Below W.heap.size W w') := fun W hW => uclone_any (HRC.out W hW).2.2 hl40
      go_wp2_with fail
      go_region_held3 (fun w' => w'.cell? ⟨w.heap.size, 0, none⟩ = some (.slice ax V.length cx) ∧ w'.cell? ⟨w.heap.size, 1, none⟩ = some (.slice ay O.length cy) ∧ w'.cell? ⟨w.heap.size, 2, none⟩ = some (.slice az L.length cz)) (go_keep) (first
        | (go_at_call 45; refine (HC2.out w3 hb3).mono ?_; rintro e w4 ⟨v4, rfl, ho4, hb4'⟩; have hb4 := hb3.trans (hb4'.mono hb3.size); have ho3' := ho3.below hb4' (Nat.le_refl _); have ho4' := ho4.mono hb3.size; obtain ⟨a4, e4, rfl⟩ := ho4.shape; obtain ⟨t0, t1, t2, tz⟩ := at3 (HKR.out w4 hb4); have tz0 := tz 0; have tz1 := tz 1; have tz2 := tz 2; clear tz; obtain ⟨r0, r1, r2⟩ := HKC.out w4 hb4)
        | (go_at_call 45; refine (HC1.out _ (Below.drN hb2 1)).mono ?_; rintro e w3 ⟨v3, rfl, ho3, hb3⟩; obtain ⟨a3, e3, rfl⟩ := ho3.shape; obtain ⟨p0, p1, p2⟩ := HKC.out w3 hb3)
        | fail)
      go_wp2_with fail
      obtain ⟨⟨k0, k1, k2⟩, hoc, hbz⟩ := HOUT.out w4 (.slice a3 V.length e3) (.slice none 0 0) (.slice a4 L.length e4) (lv (V, O, L)) hb4 ⟨ho3', Ou.nil _ _, ho4'⟩ _ rfl
      clear hv40 hl40
      generalize (((w4.setCell ⟨w.heap.size + 1, 0, none⟩ (.slice a3 V.length e3)).setCell ⟨w.heap.size + 1, 1, none⟩ (.slice none 0 0)).setCell ⟨w.heap.size + 1, 2, none⟩ (.slice a4 L.length e4)) = wz at *
      refine bodyPost_ret (v := .tuple #[.agg #[.slice a3 V.length e3, .slice none 0 0, .slice a4 L.length e4], .int .i64 0]) (by simp [results, Try.results23, go_sem, k0, k1, k2]; try rfl) rfl ?_
      exact ⟨_, _, _, rfl, hoc, hbz⟩
    · rw [decide_eq_false hO] at hjo
      obtain rfl : (none3, 71) = F := by rw [← HF.out, hchk]; simp only [if_true]; rw [if_pos (by omega)]
      clear HF
      go_wp2_with fail
      refine hjo.mono ?_
      rintro e w2 ⟨rfl, hb2'⟩
      have hb2 : Below W0.heap.size W0 w2 := hb1.trans (hb2'.mono hb1.size)
      obtain ⟨t0, t1, t2, tz⟩ := at3 (HKR.out w2 hb2)
      have tz0 := tz 0
      have tz1 := tz 1
      have tz2 := tz 2
      clear tz
      go_wp2_with fail
      obtain ⟨⟨k0, k1, k2⟩, hoc, hbz⟩ := HOUT.out w2 _ _ _ none3 hb2 (Oc.nil _ _) _ rfl
      generalize (((w2.setCell ⟨w.heap.size + 1, 0, none⟩ (.slice none 0 0)).setCell ⟨w.heap.size + 1, 1, none⟩ (.slice none 0 0)).setCell ⟨w.heap.size + 1, 2, none⟩ (.slice none 0 0)) = wz at *
      refine bodyPost_ret (v := .tuple #[.agg #[.slice none 0 0, .slice none 0 0, .slice none 0 0], .int .i64 71]) (by simp [results, Try.results23, go_sem, k0, k1, k2]; try rfl) rfl ?_
      exact ⟨_, _, _, rfl, hoc, hbz⟩
end Go.Proofs.Ytedpfmalhapmeaa
