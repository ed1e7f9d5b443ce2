/- What the Book's Own and Done do: Own marks a list that is the caller's own and keeps it; Done answers true where every list still bears its mark. -/
import Derived.Test.YtlajncjamafomaaG6
import Derived.Test.YtlajncjamafomaaG1
import Derived.Test.YtlajncjamafomaaG3
namespace Go.Proofs.Ytlajncjamafomaa
open Go.RowKit
set_option linter.unusedVariables false
set_option maxRecDepth 100000

/-- The Book in block k, with the lists rs and their marks. D: the blocks that are its own. -/
structure Bk (B k : Nat) (D : Nat → Prop) (rs : List (Value × UInt8)) (w : World) : Prop where
  ex : ∃ vl vm tb, w.heap[k]? = some (.cells #[vl, vm] tb (0, 0)) ∧ w.ownsRow B 22 1 vl rs.length (rs.map (·.1)) ∧ Ow B w vm (rs.map (·.2)) ∧ (∀ b, vl.ownBlock = some b → D b ∧ b ≠ k) ∧ (∀ b, vm.ownBlock = some b → D b ∧ b ≠ k ∧ vl.ownBlock ≠ some b) ∧
    ∀ r ∈ rs, (∃ n, Rd w r.1 (List.replicate n r.2)) ∧ r.1.oneCell' = true ∧ ∀ b, r.1.ownBlock = some b → D b ∧ b ≠ k ∧ vl.ownBlock ≠ some b ∧ vm.ownBlock ≠ some b
  dk : D k
  dB : ∀ b, D b → B ≤ b
  dlt : ∀ b, D b → b < w.heap.size

theorem Bk.next {B k : Nat} {D S : Nat → Prop} {rs : List (Value × UInt8)} {w w' : World} (h : Bk B k D rs w) (hg : Chg S w w') (hS : ∀ b, D b → ¬ S b) : Bk B k D rs w' := by
  obtain ⟨vl, vm, tb, h1, h2, h3, h4, h5, h6⟩ := h.ex
  have hkl := h.dlt k h.dk
  refine ⟨⟨vl, vm, tb, by rw [hg.block k hkl (hS k h.dk)]; exact h1, ownsRow_keptC h2 hg (fun b e => hS b (h4 b e).1), h3.keptC hg (fun b e => hS b (h5 b e).1), h4, h5, fun r hr => ?_⟩, h.dk, h.dB, fun b hb => Nat.lt_of_lt_of_le (h.dlt b hb) hg.size⟩
  obtain ⟨⟨n, q1⟩, q2, q3⟩ := h6 r hr
  exact ⟨⟨n, q1.keptC hg (fun b e => hS b (q3 b e).1)⟩, q2, q3⟩

/-- A new Book. -/
theorem Bk.new {B : Nat} (w : World) (tb : TypeId) (hB : B ≤ w.heap.size) : Bk B w.heap.size (fun b => b = w.heap.size) [] (w.alloc (.cells #[.slice none 0 0, .slice none 0 0] tb)) := by
  refine ⟨⟨.slice none 0 0, .slice none 0 0, tb, ?_, World.ownsRow_nil _ _ _ _, Ow.nil _ _, ?_, ?_, ?_⟩, rfl, ?_, ?_⟩
  · show (w.heap.push _)[w.heap.size]? = _
    simp
  · intro b hb; simp [Value.ownBlock] at hb
  · intro b hb; simp [Value.ownBlock] at hb
  · intro r hr; simp at hr
  · intro b hb; omega
  · intro b hb; simp; omega

/-- What has been marked so far of the list in hand. -/
def Fil (ao : Option Addr) (c : Nat) (m : UInt8) (i : Nat) (w : World) : Prop := ∀ g, ao = some ⟨g, 0, none⟩ → ∃ cur : Array Value, w.heap[g]? = some (.cells cur 5 (0, 0)) ∧ cur.size = c ∧ ∀ j, j < i → cur[j]? = some (.int .u8 (m.toNat : Int))

theorem Fil.put {ao : Option Addr} {c : Nat} {m : UInt8} {i g : Nat} {w : World} (h : Fil ao c m i w) (hg : ao = some ⟨g, 0, none⟩) (hi : i < c) (z : Int) (hz : z = (m.toNat : Int)) : Fil ao c m (i + 1) (w.setCell ⟨g, i, none⟩ (.int .u8 z)) := by
  intro g' e
  rw [hg] at e
  simp only [Option.some.injEq, Addr.mk.injEq, and_true] at e
  subst e
  obtain ⟨cur, h1, h2, h3⟩ := h g hg
  refine ⟨cur.setIfInBounds i (.int .u8 z), heap_setCell_same w g i cur _ _ h1, by simpa using h2, fun j hj => ?_⟩
  rw [Array.getElem?_setIfInBounds]
  by_cases e : i = j
  · subst e; subst hz; rw [if_pos rfl, if_pos (by omega)]
  · rw [if_neg e]; exact h3 j (by omega)

theorem Fil.rd {ao : Option Addr} {c : Nat} {m : UInt8} {i : Nat} {w : World} (h : Fil ao c m i w) (hao : (ao = none ∧ c = 0) ∨ ∃ g, ao = some ⟨g, 0, none⟩) (hi : i ≤ c) (hc : c ≤ maxLen) : Rd w (.slice ao i c) (List.replicate i m) := by
  rcases hao with ⟨rfl, rfl⟩ | ⟨g, rfl⟩
  · obtain rfl : i = 0 := by omega
    exact Rd.nil _
  · obtain ⟨cur, h1, h2, h3⟩ := h g rfl
    refine Rd.mk (by simp) (by simpa using hi) hc (fun j hj => ?_)
    rw [Addr.add_lit, Nat.zero_add, cell_of_row _ _ _ _ _ _ h1, h3 j (by simpa using hj)]
    simp

/-- Behind the first append. -/
theorem own_mid {B k : Nat} {ms : List UInt8} {wr w2 : World} {vl vm : Value} {tb : TypeId} {o : Obj} (q1 : wr.heap[k]? = some (.cells #[vl, vm] tb (0, 0))) (q3 : Ow B wr vm ms) (q4 : ∀ b, vl.ownBlock = some b → b ≠ k)
    (q5 : ∀ b, vm.ownBlock = some b → b ≠ k ∧ vl.ownBlock ≠ some b) (hg : (wr.alloc o).grownBy w2 vl.ownBlock) :
    w2.cell? ⟨k, 0, none⟩ = some vl ∧ w2.cell? ⟨k, 1, none⟩ = some vm ∧ w2.frozen? ⟨k, 0, none⟩ = false ∧ w2.frozen? ⟨k, 1, none⟩ = false ∧ k < w2.heap.size ∧
      (∀ u, (w2.setCell ⟨k, 0, none⟩ u).heap[k]? = some (.cells #[u, vm] tb (0, 0))) ∧ ∀ u o', Ow B ((w2.setCell ⟨k, 0, none⟩ u).alloc o') vm ms := by
  have hk : k < wr.heap.size := (Array.getElem?_eq_some_iff.1 q1).1
  have e : w2.heap[k]? = some (.cells #[vl, vm] tb (0, 0)) := by
    rw [hg.block k (by simp; omega) (fun e => q4 k e.symm rfl), Below.heap_alloc _ _ _ hk]; exact q1
  have hset : ∀ u, (w2.setCell ⟨k, 0, none⟩ u).heap[k]? = some (.cells #[u, vm] tb (0, 0)) := fun u => by
    rw [heap_setCell_same w2 k 0 _ _ u e]; rfl
  refine ⟨by rw [cell_of_row _ _ _ _ _ _ e]; rfl, by rw [cell_of_row _ _ _ _ _ _ e]; rfl, frozen_of_row _ _ _ _ _ e, frozen_of_row _ _ _ _ _ e, (Array.getElem?_eq_some_iff.1 e).1, hset, fun u o' => ?_⟩
  have h1 : Ow B w2 vm ms := (q3.alloc o).keptC (Chg.of_grown (S := fun b => vl.ownBlock = some b) hg (fun b e _ => e)) (fun b e => (q5 b e).2)
  have h2 : Ow B (w2.setCell ⟨k, 0, none⟩ u) vm ms := h1.keptC (Chg.of_grown (S := fun b => b = k) (grown_set w2 k 0 u) (fun b e _ => (Option.some.inj e).symm)) (fun b e => (q5 b e).1)
  exact h2.alloc o'

/-- Behind the second append. -/
theorem own_late {k : Nat} {w3 w4 : World} {vl vm : Value} {tb : TypeId} (q1 : w3.heap[k]? = some (.cells #[vl, vm] tb (0, 0))) (q5 : ∀ b, vm.ownBlock = some b → b ≠ k) {o : Obj} (hg : (w3.alloc o).grownBy w4 vm.ownBlock) :
    w4.heap[k]? = some (.cells #[vl, vm] tb (0, 0)) ∧ w4.cell? ⟨k, 1, none⟩ = some vm ∧ w4.frozen? ⟨k, 1, none⟩ = false ∧ ∀ u, (w4.setCell ⟨k, 1, none⟩ u).heap[k]? = some (.cells #[vl, u] tb (0, 0)) := by
  have hk : k < w3.heap.size := (Array.getElem?_eq_some_iff.1 q1).1
  have e : w4.heap[k]? = some (.cells #[vl, vm] tb (0, 0)) := by
    rw [hg.block k (by simp; omega) (fun e => q5 k e.symm rfl), Below.heap_alloc _ _ _ hk]; exact q1
  exact ⟨e, by rw [cell_of_row _ _ _ _ _ _ e]; rfl, frozen_of_row _ _ _ _ _ e, fun u => by rw [heap_setCell_same w4 k 1 _ _ u e]; rfl⟩

/-- What the Book is when a list has been taken. -/
theorem own_end {B k : Nat} {D : Nat → Prop} {rs : List (Value × UInt8)} {w wr w2 w4 : World} {vl vm vl2 vm2 v room : Value} {tb : TypeId} {o1 o2 : Obj} {mk : UInt8} {m : Nat} {z : Int} (hz : z = (mk.toNat : Int))
    (hbr : Bk B k D rs wr) (hdw : ∀ b, D b → b < w.heap.size) (hgr : w.grownBy wr v.ownBlock) (hv : ∀ b, v.ownBlock = some b → ¬ D b ∧ B ≤ b ∧ b < w.heap.size) (hroom : Rd wr room (List.replicate m mk)) (hrb : room.ownBlock = v.ownBlock) (hone : room.oneCell' = true)
    (h4 : ∀ b, vl.ownBlock = some b → D b ∧ b ≠ k) (h5 : ∀ b, vm.ownBlock = some b → D b ∧ b ≠ k ∧ vl.ownBlock ≠ some b)
    (h6 : ∀ r ∈ rs, (∃ n, Rd wr r.1 (List.replicate n r.2)) ∧ r.1.oneCell' = true ∧ ∀ b, r.1.ownBlock = some b → D b ∧ b ≠ k ∧ vl.ownBlock ≠ some b ∧ vm.ownBlock ≠ some b)
    (ho2 : w2.ownsRow B 22 1 vl2 (rs.length + 1) (rs.map (·.1) ++ [room])) (hg2 : (wr.alloc o1).grownBy w2 vl.ownBlock) (hw2 : vl2.ownBlock = vl.ownBlock ∨ vl2.ownBlock = some (wr.alloc o1).heap.size)
    (ho4 : w4.ownsRow B 5 1 vm2 (rs.length + 1) (cel (rs.map (·.2)) ++ [.int .u8 z])) (hg4 : ((w2.setCell ⟨k, 0, none⟩ vl2).alloc o2).grownBy w4 vm.ownBlock) (hw4 : vm2.ownBlock = vm.ownBlock ∨ vm2.ownBlock = some ((w2.setCell ⟨k, 0, none⟩ vl2).alloc o2).heap.size)
    (hk5 : (w4.setCell ⟨k, 1, none⟩ vm2).heap[k]? = some (.cells #[vl2, vm2] tb (0, 0))) :
    (∃ r, Bk B k (fun b => D b ∨ v.ownBlock = some b ∨ (w.heap.size ≤ b ∧ b < (w4.setCell ⟨k, 1, none⟩ vm2).heap.size)) (rs ++ [r]) (w4.setCell ⟨k, 1, none⟩ vm2)) ∧ Chg (fun b => D b ∨ v.ownBlock = some b) w (w4.setCell ⟨k, 1, none⟩ vm2) := by
  have hkD := hbr.dk
  have hkw := hdw k hkD
  have hs1 := hgr.size
  have hs2 := hg2.size
  have hs4 := hg4.size
  simp only [World.size_alloc, World.size_setCell] at hs2 hs4
  -- behind w2
  have g25 : Chg (fun b => b = k ∨ vm.ownBlock = some b) w2 (w4.setCell ⟨k, 1, none⟩ vm2) := by
    refine Chg.put ?_ k 1 vm2 (.inl rfl)
    refine (((Chg.refl _ w2).put k 0 vl2 (.inl rfl)).alloc o2).trans (Chg.of_grown hg4 (fun b e _ => .inl (.inr e)))
  have gr5 : Chg (fun b => b = k ∨ vl.ownBlock = some b ∨ vm.ownBlock = some b) wr (w4.setCell ⟨k, 1, none⟩ vm2) := by
    refine (((Chg.refl _ wr).alloc o1).trans (Chg.of_grown hg2 (fun b e _ => .inl (.inr (.inl e))))).trans (g25.mono (fun b _ h => ?_))
    rcases h with h | h
    · exact .inl (.inl h)
    · exact .inl (.inr (.inr h))
  have g45 : Chg (fun b => b = k) w4 (w4.setCell ⟨k, 1, none⟩ vm2) := (Chg.refl _ w4).put k 1 vm2 rfl
  have es5 : (w4.setCell ⟨k, 1, none⟩ vm2).heap.size = w4.heap.size := by simp
  have hlb : ∀ b, vl2.ownBlock = some b → (D b ∨ (w.heap.size ≤ b ∧ b < w4.heap.size)) ∧ b ≠ k ∧ (vl.ownBlock = some b ∨ wr.heap.size < b) ∧ (vl.ownBlock = some b ∨ b ≤ wr.heap.size + 1) := by
    intro b e
    rcases hw2 with q | q
    · rw [q] at e
      exact ⟨.inl (h4 b e).1, (h4 b e).2, .inl e, .inl e⟩
    · rw [q] at e
      simp only [World.size_alloc, Option.some.injEq] at e
      have hlt := (World.ownsRow.lt ho2 b (by rw [q]; simp [e])).2
      exact ⟨.inr ⟨by omega, by omega⟩, by omega, .inr (by omega), .inr (by omega)⟩
  have hmb : ∀ b, vm2.ownBlock = some b → (D b ∨ (w.heap.size ≤ b ∧ b < w4.heap.size)) ∧ b ≠ k ∧ (vm.ownBlock = some b ∨ w2.heap.size < b) := by
    intro b e
    rcases hw4 with q | q
    · rw [q] at e
      exact ⟨.inl (h5 b e).1, (h5 b e).2.1, .inl e⟩
    · rw [q] at e
      simp only [World.size_alloc, World.size_setCell, Option.some.injEq] at e
      have hlt := (World.ownsRow.lt ho4 b (by rw [q]; simp [e])).2
      exact ⟨.inr ⟨by omega, by omega⟩, by omega, .inr (by omega)⟩
  have hDr : ∀ b, D b → b < wr.heap.size := hbr.dlt
  refine ⟨⟨(room, mk), ⟨⟨vl2, vm2, tb, hk5, ?_, ?_, ?_, ?_, ?_⟩, .inl hkD, ?_, ?_⟩⟩, ?_⟩
  · have := ownsRow_keptC ho2 g25 (fun b e h => ?_)
    · simpa using this
    · rcases h with h | h
      · exact (hlb b e).2.1 h
      · rcases (hlb b e).2.2.1 with q | q
        · exact (h5 b h).2.2 q
        · have := hDr b (h5 b h).1; omega
  · have := ownsRow_keptC ho4 g45 (fun b e h => (hmb b e).2.1 h)
    unfold Ow
    rw [List.map_append, cel_append, List.length_append, List.length_map]
    subst hz
    exact this
  · intro b e
    refine ⟨?_, (hlb b e).2.1⟩
    rcases (hlb b e).1 with q | q
    · exact .inl q
    · rw [es5]; exact .inr (.inr q)
  · intro b e
    refine ⟨?_, (hmb b e).2.1, fun e2 => ?_⟩
    · rcases (hmb b e).1 with q | q
      · exact .inl q
      · rw [es5]; exact .inr (.inr q)
    · have q1 := (hlb b e2).2.2
      have q2 := World.ownsRow.lt ho2 b e2
      rcases (hmb b e).2.2 with p | p
      · rcases q1.1 with q | q
        · exact (h5 b p).2.2 q
        · have := hDr b (h5 b p).1; omega
      · omega
  · intro r hr
    rcases List.mem_append.1 hr with hr | hr
    · obtain ⟨⟨n, e1⟩, e2, e3⟩ := h6 r hr
      refine ⟨⟨n, e1.keptC gr5 (fun b e h => ?_)⟩, e2, fun b e => ⟨.inl (e3 b e).1, (e3 b e).2.1, fun q => ?_, fun q => ?_⟩⟩
      · rcases h with h | h | h
        · exact (e3 b e).2.1 h
        · exact (e3 b e).2.2.1 h
        · exact (e3 b e).2.2.2 h
      · rcases (hlb b q).2.2.1 with p | p
        · exact (e3 b e).2.2.1 p
        · have := hDr b (e3 b e).1; omega
      · rcases (hmb b q).2.2 with p | p
        · exact (e3 b e).2.2.2 p
        · have := hDr b (e3 b e).1; omega
    · simp only [List.mem_singleton] at hr
      subst hr
      refine ⟨⟨m, hroom.keptC gr5 (fun b e h => ?_)⟩, hone, fun b e => ?_⟩
      · rw [hrb] at e
        have hnd := (hv b e).1
        rcases h with h | h | h
        · subst h; exact hnd hkD
        · exact hnd (h4 b h).1
        · exact hnd (h5 b h).1
      · simp only [] at e
        rw [hrb] at e
        obtain ⟨hnd, hB, hlt⟩ := hv b e
        refine ⟨.inr (.inl e), fun h => hnd (h ▸ hkD), fun q => ?_, fun q => ?_⟩
        · rcases (hlb b q).2.2.1 with p | p
          · exact hnd (h4 b p).1
          · omega
        · rcases (hmb b q).2.2 with p | p
          · exact hnd (h5 b p).1
          · omega
  · intro b hb
    rcases hb with h | h | h
    · exact hbr.dB b h
    · exact (hv b h).2.1
    · have := hbr.dB k hkD; omega
  · intro b hb
    rw [es5] at hb ⊢
    rcases hb with h | h | h
    · have := hdw b h; omega
    · have := (hv b h).2.2; omega
    · exact h.2
  · refine (Chg.of_grown hgr (fun b e _ => .inr e)).trans (gr5.mono (fun b _ h => ?_))
    rcases h with h | h | h
    · subst h; exact .inl (.inl hkD)
    · exact .inl (.inl (h4 b h).1)
    · exact .inl (.inl (h5 b h).1)

theorem own_shape {w : World} {B : Nat} {e : TypeId} {sz n : Nat} {v : Value} {xs : List Value} (h : w.ownsRow B e sz v n xs) : ∃ a c, v = .slice a n c := by
  rcases h.2 with ⟨e, e0⟩ | ⟨g, cap, cur, e, _⟩
  · rw [e, e0]; exact ⟨_, _, rfl⟩
  · exact ⟨_, _, e⟩
theorem cell_first' (w : World) (n : Nat) (hn : w.heap.size = n) (u : Value) (t : TypeId) : (w.alloc (.cells #[u] t)).cell? ⟨n, 0, none⟩ = some u := by subst hn; rw [World.cell?_alloc_at _ _ _ _ rfl]; rfl
theorem cell_first (w : World) (u : Value) (t : TypeId) : (w.alloc (.cells #[u] t)).cell? ⟨w.heap.size, 0, none⟩ = some u := by rw [World.cell?_alloc_at _ _ _ _ rfl]; rfl

set_option maxHeartbeats 1000000 in
theorem own_big {B k n c : Nat} {D : Nat → Prop} {rs : List (Value × UInt8)} {w : World} {ao : Option Addr} (hb : Bk B k D rs w) (hnc : n ≤ c) (hcm : c ≤ maxLen) (hao : (ao = none ∧ c = 0) ∨ ∃ g, ao = some ⟨g, 0, none⟩ ∧ B ≤ g ∧ g < w.heap.size)
    (hf0 : Fil ao c (UInt8.ofNat (17 + 7 * rs.length)) 0 w) (hv : ∀ b, (Value.slice ao n c).ownBlock = some b → ¬ D b) (hn : rs.length ≤ 1099511627776) (hbig : 4096 < c) :
    Calls Try.prog 15 #[.pointer (some ⟨k, 0, none⟩), .slice ao n c] w fun e w' => e = .returned (.bool true) ∧
      (∃ r, Bk B k (fun b => D b ∨ (Value.slice ao n c).ownBlock = some b ∨ (w.heap.size ≤ b ∧ b < w'.heap.size)) (rs ++ [r]) w') ∧ Chg (fun b => D b ∨ (Value.slice ao n c).ownBlock = some b) w w' := by
  obtain ⟨vl, vm, tb, h1, h2, h3, h4, h5, h6⟩ := hb.ex
  have hcm' := hcm
  unfold maxLen at hcm
  obtain ⟨al, cl, rfl⟩ : ∃ al cl, vl = .slice al rs.length cl := by
    rcases h2.2 with ⟨e, e0⟩ | ⟨g, cap, cur, e, _⟩
    · rw [e, e0]; exact ⟨_, _, rfl⟩
    · exact ⟨_, _, e⟩
  have c0 : w.cell? ⟨k, 0, none⟩ = some (.slice al rs.length cl) := by rw [cell_of_row _ _ _ _ _ _ h1]; rfl
  have emk : (17 + 7 * (rs.length : Int)) % 256 = ((UInt8.ofNat (17 + 7 * rs.length)).toNat : Int) := by rw [M.u8_ofNat]; omega
  have HM : Hid _ := emk
  clear emk h1 h2 h3 h4 h5 h6
  go_enter Try.func15, Try.ntmps15
  go_wp2_with fail
  go_loopw [7] (fun i wr => ∃ j : Nat, j ≤ 4096 ∧ i = .int .i64 j ∧ Fil ao c (UInt8.ofNat (17 + 7 * rs.length)) j wr ∧ w.grownBy wr (Value.slice ao n c).ownBlock) (fun i _ => 4096 - (intOf i).toNat)
  case atStart => exact ⟨0, Nat.zero_le _, rfl, hf0, World.grownBy.refl _ _⟩
  case round =>
    obtain ⟨j, hj, rfl, hfil, hgr⟩ := hrel
    by_cases hlt : j < 4096
    · rcases hao with ⟨rfl, rfl⟩ | ⟨g, rfl, hBg, hgl⟩
      · omega
      · obtain ⟨cur, q1, q2, q3⟩ := hfil g rfl
        have hcj : wr.cell? ⟨g, j, none⟩ = some (cur[j]'(by omega)) := by rw [cell_of_row _ _ _ _ _ _ q1]; simp [show j < cur.size by omega]
        have hfj : wr.frozen? ⟨g, j, none⟩ = false := frozen_of_row _ _ _ _ _ q1
        have HF : Hid _ := And.intro (hfil.put rfl (by omega) _ HM.out) (grown_tr hgr (grown_set wr g j (.int .u8 ((17 + 7 * (rs.length : Int)) % 256))))
        clear hfil hgr q1 q3
        go_wp2
        exact ⟨⟨j + 1, by omega, by go_num, HF.out.1, HF.out.2⟩, by simp [intOf]; omega⟩
    · obtain rfl : j = 4096 := by omega
      have hchg : Chg (fun b => (Value.slice ao n c).ownBlock = some b) w wr := Chg.of_grown hgr (fun b e _ => e)
      have hbr := hb.next hchg (fun b hd e => hv b e hd)
      obtain ⟨vl, vm, tb, h1, h2, h3, h4, h5, h6⟩ := hbr.ex
      have hkr : k < wr.heap.size := hbr.dlt k hbr.dk
      have d0 : wr.cell? ⟨k, 0, none⟩ = some vl := by rw [cell_of_row _ _ _ _ _ _ h1]; rfl
      have hBr : B ≤ wr.heap.size := by have := hbr.dB k hbr.dk; omega
      have HA : Hid _ := And.intro h1 (And.intro h3 (And.intro (fun b e => (h4 b e).2) (fun b e => (h5 b e).2)))
      have HR : Hid _ := hfil
      have HX : Hid _ := And.intro h4 (And.intro h5 h6)
      clear h1 h3 h4 h5 h6 hfil hchg
      have H2 : Hid _ := h2
      clear h2
      go_wp2_with (first | (at_builtin; refine wpList_app1 rfl _ _ 26 rfl B 22 (.slice none 0 0) 24 Try.underlying26 (by kernel_rfl) rfl _ _ _ rfl (World.ownsRow.alloc H2.out _) _ _ _ rfl (cell_first _ _ _) rfl (by unfold maxLen; omega) (by omega) (by simp; omega) ?_; intro vl2 w2 ho2 hg2 hw2; obtain ⟨al2, cl2, rfl⟩ := own_shape ho2; obtain ⟨m0, m1, n0, n1, hk2, hm4, hm5⟩ := own_mid HA.out.1 HA.out.2.1 HA.out.2.2.1 HA.out.2.2.2 hg2; have HM4 : Hid _ := hm4; have HM5 : Hid _ := hm5; clear hm4 hm5) | (at_builtin; refine wpList_app1 rfl _ _ 22 rfl B 5 (.int .u8 0) 1 Try.underlying22 (by kernel_rfl) rfl _ _ _ rfl (HM5.out _ _) _ _ _ rfl (cell_first' _ _ (by simp) _ _) rfl ?hmx ?hmy ?hmz ?_; rotate_right; intro vm2 w4 ho4 hg4 hw4; simp only [List.length_map] at ho4; obtain ⟨am2, cm2, rfl⟩ := own_shape ho4; obtain ⟨x0, x1, x2, x3⟩ := own_late (HM4.out _) (fun b e => (HA.out.2.2.2 b e).1) hg4; have HX3 : Hid _ := And.intro x0 x3; clear x0 x3) | fail)
      case hmx => unfold maxLen; simp; omega
      case hmy => simp; omega
      case hmz => have := hg2.size; simp at this ⊢; omega
      go_ret
      refine ⟨rfl, own_end (v := .slice ao n c) (room := .slice ao 4096 c) HM.out hbr hb.dlt hgr ?_ (Fil.rd HR.out (hao.imp id (fun ⟨g, e, _⟩ => ⟨g, e⟩)) (by omega) hcm') ?_ rfl HX.out.1 HX.out.2.1 HX.out.2.2 ho2 hg2 hw2 ho4 hg4 hw4 (HX3.out.2 _)⟩
      · intro b e
        refine ⟨hv b e, ?_⟩
        rcases hao with ⟨rfl, _⟩ | ⟨g, rfl, q1, q2⟩
        · cases e
        · obtain rfl : g = b := by simpa [Value.ownBlock] using e
          exact ⟨q1, q2⟩
      · cases ao <;> rfl

set_option maxHeartbeats 1000000 in
theorem own_small {B k n c : Nat} {D : Nat → Prop} {rs : List (Value × UInt8)} {w : World} {ao : Option Addr} (hb : Bk B k D rs w) (hnc : n ≤ c) (hcm : c ≤ maxLen) (hao : (ao = none ∧ c = 0) ∨ ∃ g, ao = some ⟨g, 0, none⟩ ∧ B ≤ g ∧ g < w.heap.size)
    (hf0 : Fil ao c (UInt8.ofNat (17 + 7 * rs.length)) 0 w) (hv : ∀ b, (Value.slice ao n c).ownBlock = some b → ¬ D b) (hn : rs.length ≤ 1099511627776) (hbig : ¬ 4096 < c) :
    Calls Try.prog 15 #[.pointer (some ⟨k, 0, none⟩), .slice ao n c] w fun e w' => e = .returned (.bool true) ∧
      (∃ r, Bk B k (fun b => D b ∨ (Value.slice ao n c).ownBlock = some b ∨ (w.heap.size ≤ b ∧ b < w'.heap.size)) (rs ++ [r]) w') ∧ Chg (fun b => D b ∨ (Value.slice ao n c).ownBlock = some b) w w' := by
  obtain ⟨vl, vm, tb, h1, h2, h3, h4, h5, h6⟩ := hb.ex
  have hcm' := hcm
  unfold maxLen at hcm
  obtain ⟨al, cl, rfl⟩ : ∃ al cl, vl = .slice al rs.length cl := by
    rcases h2.2 with ⟨e, e0⟩ | ⟨g, cap, cur, e, _⟩
    · rw [e, e0]; exact ⟨_, _, rfl⟩
    · exact ⟨_, _, e⟩
  have c0 : w.cell? ⟨k, 0, none⟩ = some (.slice al rs.length cl) := by rw [cell_of_row _ _ _ _ _ _ h1]; rfl
  have emk : (17 + 7 * (rs.length : Int)) % 256 = ((UInt8.ofNat (17 + 7 * rs.length)).toNat : Int) := by rw [M.u8_ofNat]; omega
  have HM : Hid _ := emk
  clear emk h1 h2 h3 h4 h5 h6
  go_enter Try.func15, Try.ntmps15
  go_wp2_with fail
  go_loopw [7] (fun i wr => ∃ j : Nat, j ≤ c ∧ i = .int .i64 j ∧ Fil ao c (UInt8.ofNat (17 + 7 * rs.length)) j wr ∧ w.grownBy wr (Value.slice ao n c).ownBlock) (fun i _ => c - (intOf i).toNat)
  case atStart => exact ⟨0, Nat.zero_le _, rfl, hf0, World.grownBy.refl _ _⟩
  case round =>
    obtain ⟨j, hj, rfl, hfil, hgr⟩ := hrel
    by_cases hlt : j < c
    · rcases hao with ⟨rfl, rfl⟩ | ⟨g, rfl, hBg, hgl⟩
      · omega
      · obtain ⟨cur, q1, q2, q3⟩ := hfil g rfl
        have hcj : wr.cell? ⟨g, j, none⟩ = some (cur[j]'(by omega)) := by rw [cell_of_row _ _ _ _ _ _ q1]; simp [show j < cur.size by omega]
        have hfj : wr.frozen? ⟨g, j, none⟩ = false := frozen_of_row _ _ _ _ _ q1
        have HF : Hid _ := And.intro (hfil.put rfl (by omega) _ HM.out) (grown_tr hgr (grown_set wr g j (.int .u8 ((17 + 7 * (rs.length : Int)) % 256))))
        clear hfil hgr q1 q3
        go_wp2
        exact ⟨⟨j + 1, by omega, by go_num, HF.out.1, HF.out.2⟩, by simp [intOf]; omega⟩
    · have ejc : c = j := by omega
      subst ejc
      have hchg : Chg (fun b => (Value.slice ao n c).ownBlock = some b) w wr := Chg.of_grown hgr (fun b e _ => e)
      have hbr := hb.next hchg (fun b hd e => hv b e hd)
      obtain ⟨vl, vm, tb, h1, h2, h3, h4, h5, h6⟩ := hbr.ex
      have hkr : k < wr.heap.size := hbr.dlt k hbr.dk
      have d0 : wr.cell? ⟨k, 0, none⟩ = some vl := by rw [cell_of_row _ _ _ _ _ _ h1]; rfl
      have hBr : B ≤ wr.heap.size := by have := hbr.dB k hbr.dk; omega
      have HA : Hid _ := And.intro h1 (And.intro h3 (And.intro (fun b e => (h4 b e).2) (fun b e => (h5 b e).2)))
      have HR : Hid _ := hfil
      have HX : Hid _ := And.intro h4 (And.intro h5 h6)
      clear h1 h3 h4 h5 h6 hfil hchg
      have H2 : Hid _ := h2
      clear h2
      go_wp2_with (first | (at_builtin; refine wpList_app1 rfl _ _ 26 rfl B 22 (.slice none 0 0) 24 Try.underlying26 (by kernel_rfl) rfl _ _ _ rfl (World.ownsRow.alloc H2.out _) _ _ _ rfl (cell_first _ _ _) rfl (by unfold maxLen; omega) (by omega) (by simp; omega) ?_; intro vl2 w2 ho2 hg2 hw2; obtain ⟨al2, cl2, rfl⟩ := own_shape ho2; obtain ⟨m0, m1, n0, n1, hk2, hm4, hm5⟩ := own_mid HA.out.1 HA.out.2.1 HA.out.2.2.1 HA.out.2.2.2 hg2; have HM4 : Hid _ := hm4; have HM5 : Hid _ := hm5; clear hm4 hm5) | (at_builtin; refine wpList_app1 rfl _ _ 22 rfl B 5 (.int .u8 0) 1 Try.underlying22 (by kernel_rfl) rfl _ _ _ rfl (HM5.out _ _) _ _ _ rfl (cell_first' _ _ (by simp) _ _) rfl ?hmx ?hmy ?hmz ?_; rotate_right; intro vm2 w4 ho4 hg4 hw4; simp only [List.length_map] at ho4; obtain ⟨am2, cm2, rfl⟩ := own_shape ho4; obtain ⟨x0, x1, x2, x3⟩ := own_late (HM4.out _) (fun b e => (HA.out.2.2.2 b e).1) hg4; have HX3 : Hid _ := And.intro x0 x3; clear x0 x3) | fail)
      case hmx => unfold maxLen; simp; omega
      case hmy => simp; omega
      case hmz => have := hg2.size; simp at this ⊢; omega
      go_ret
      refine ⟨rfl, own_end (v := .slice ao n c) (room := .slice ao c c) HM.out hbr hb.dlt hgr ?_ (Fil.rd HR.out (hao.imp id (fun ⟨g, e, _⟩ => ⟨g, e⟩)) (by omega) hcm') ?_ rfl HX.out.1 HX.out.2.1 HX.out.2.2 ho2 hg2 hw2 ho4 hg4 hw4 (HX3.out.2 _)⟩
      · intro b e
        refine ⟨hv b e, ?_⟩
        rcases hao with ⟨rfl, _⟩ | ⟨g, rfl, q1, q2⟩
        · cases e
        · obtain rfl : g = b := by simpa [Value.ownBlock] using e
          exact ⟨q1, q2⟩
      · cases ao <;> rfl


theorem own_any {B C k : Nat} {D : Nat → Prop} {rs : List (Value × UInt8)} {w : World} {v : Value} {l : List UInt8} (hb : Bk B k D rs w) (ho : Ow C w v l) (hC : B ≤ C) (hv : ∀ b, v.ownBlock = some b → ¬ D b) (hn : rs.length ≤ 1099511627776) :
    Calls Try.prog 15 #[.pointer (some ⟨k, 0, none⟩), v] w fun e w' => e = .returned (.bool true) ∧
      (∃ r, Bk B k (fun b => D b ∨ v.ownBlock = some b ∨ (w.heap.size ≤ b ∧ b < w'.heap.size)) (rs ++ [r]) w') ∧ Chg (fun b => D b ∨ v.ownBlock = some b) w w' := by
  obtain ⟨ao, n, c, rfl, hnc, hcm, hao, hf0⟩ : ∃ ao n c, v = .slice ao n c ∧ n ≤ c ∧ c ≤ maxLen ∧ ((ao = none ∧ c = 0) ∨ ∃ g, ao = some ⟨g, 0, none⟩ ∧ B ≤ g ∧ g < w.heap.size) ∧ Fil ao c (UInt8.ofNat (17 + 7 * rs.length)) 0 w := by
    rcases ho.2 with ⟨rfl, e⟩ | ⟨g, cap, cur, rfl, hg, hh, q1, q2, q3, _⟩
    · exact ⟨none, 0, 0, rfl, by omega, by simp, .inl ⟨rfl, rfl⟩, fun g e => by cases e⟩
    · refine ⟨_, _, _, rfl, q1, q2, .inr ⟨g, rfl, by omega, (Array.getElem?_eq_some_iff.1 hh).1⟩, fun g' e => ?_⟩
      simp only [Option.some.injEq, Addr.mk.injEq, and_true] at e
      subst e
      exact ⟨cur, hh, by simpa using q3, fun j hj => by omega⟩
  by_cases hbig : 4096 < c
  · exact own_big hb hnc hcm hao hf0 hv hn hbig
  · exact own_small hb hnc hcm hao hf0 hv hn hbig
end Go.Proofs.Ytlajncjamafomaa
