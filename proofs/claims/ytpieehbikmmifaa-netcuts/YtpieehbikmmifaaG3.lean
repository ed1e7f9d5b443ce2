/- has: is a number in a list. A net's messages, counted. -/
import Derived.Test.YtpieehbikmmifaaG2
import Derived.Test.YtpieehbikmmifaaG1
import Derived.Laws.BitsLemmas
namespace Go.Proofs.Ytpieehbikmmifaa
open Go.RowKit Go.Maps
set_option linter.unusedVariables false
set_option maxRecDepth 100000

/-- The slice value v reads as these numbers. -/
def RdZ (w : World) (v : Value) (l : List Int) : Prop := ∃ ao c, v = .slice ao l.length c ∧ l.length ≤ c ∧ c ≤ maxLen ∧ ∀ i, (h : i < l.length) → ∃ a, ao = some a ∧ w.cell? (a.add i) = some (.int .i64 l[i])
theorem RdZ.of_row {w : World} {B : Nat} {e : TypeId} {v : Value} {l : List Int} (h : w.ownsRow B e 1 v l.length (l.map (.int .i64 ·))) : RdZ w v l := by
  obtain ⟨a, c, e, h1, h2, h3, h4⟩ := row_reads h
  refine ⟨a, c, e, h1, h2, fun i hi => ?_⟩
  obtain ⟨g, rfl, hc⟩ := h4 i (.int .i64 l[i]) (by simp [hi])
  exact ⟨_, rfl, by rw [Addr.add_lit, Nat.zero_add]; exact hc⟩
theorem has_any {v : Value} {l : List Int} {w : World} (h : RdZ w v l) (z : Int) : Calls Try.prog 16 #[v, .int .i64 z] w fun e w' => e = .returned (.bool (decide (z ∈ l))) ∧ w' = w := by
  obtain ⟨ao, c, rfl, h1, h2, h4⟩ := h
  unfold maxLen at h2
  go_enter Try.func16, Try.ntmps16
  go_wp2_with fail
  go_loopw [5] (fun i wr => ∃ k : Nat, k ≤ l.length ∧ i = .int .i64 k ∧ wr = w ∧ ∀ j (hj : j < l.length), j < k → l[j] ≠ z) (fun i _ => l.length - (intOf i).toNat)
  case atStart => exact ⟨0, by omega, rfl, rfl, fun j _ hj => by omega⟩
  case round =>
    obtain ⟨k, hk, rfl, rfl, hno⟩ := hrel
    by_cases hlt : k < l.length
    · obtain ⟨a, rfl, hc⟩ := h4 k hlt
      by_cases hz : l[k] = z
      · have hm : decide (z ∈ l) = true := decide_eq_true (hz ▸ List.getElem_mem hlt)
        have H : Hid _ := hm
        rw [hz] at hc
        clear hz hm hno h4
        go_wp2_with fail
        go_ret
        exact ⟨by rw [H.out]; rfl, rfl⟩
      · have H : Hid _ := And.intro hno hz
        have hzb : (l[k] == z) = false := by simpa using hz
        generalize l[k] = y at hc hzb
        clear hno hz h4
        go_wp2_with fail
        refine ⟨⟨k + 1, by omega, by go_num, by first | rfl | trivial, fun j hj hjk => ?_⟩, by simp [intOf]; omega⟩
        by_cases e : j = k
        · subst e; exact H.out.2
        · exact H.out.1 j hj (by omega)
    · obtain rfl : k = l.length := by omega
      have hm : decide (z ∈ l) = false := decide_eq_false (fun q => by
        obtain ⟨j, hj, e⟩ := List.getElem_of_mem q
        exact hno j hj hj e)
      have H : Hid _ := hm
      clear hm hno h4
      go_wp2_with fail
      go_ret
      exact ⟨by rw [H.out]; rfl, rfl⟩

theorem nrd1 (w : World) (a : Int) (x : UInt8) (ha : a = (x.toNat : Int)) (t : TypeId) : Rd (w.alloc (.cells #[.int .u8 a] t)) (.slice (some ⟨w.heap.size, 0, none⟩) 1 1) [x] := by
  subst ha
  refine Rd.mk rfl (by simp) (by simp [maxLen]) (fun i hi => ?_)
  obtain rfl : i = 0 := by simpa using hi
  rw [Addr.add_lit, World.cell?_alloc_at _ _ _ _ rfl]; rfl
theorem nrd2 (w : World) (a b : Int) (x y : UInt8) (ha : a = (x.toNat : Int)) (hb : b = (y.toNat : Int)) (t : TypeId) : Rd (w.alloc (.cells #[.int .u8 a, .int .u8 b] t)) (.slice (some ⟨w.heap.size, 0, none⟩) 2 2) [x, y] := by
  subst ha; subst hb
  refine Rd.mk rfl (by simp) (by simp [maxLen]) (fun i hi => ?_)
  have hi' : i = 0 ∨ i = 1 := by simp at hi; omega
  rcases hi' with rfl | rfl
  · rw [Addr.add_lit, World.cell?_alloc_at _ _ _ _ rfl]; rfl
  · rw [Addr.add_lit, World.cell?_alloc_at _ _ _ _ rfl]; rfl

theorem box_cell {T : Nat → Prop} {w w1 : World} {F i : Nat} {u : Value} (hc : Chg T w w1) (hT : ¬ T F) (hF : F < w.heap.size) (c : w.cell? ⟨F, i, none⟩ = some u) : w1.cell? ⟨F, i, none⟩ = some u := by
  rw [World.cell?_of_block (hc.block F hF hT)]; exact c
theorem box_at (w : World) (cs : Array Value) (t : TypeId) (i : Nat) : (w.alloc (.cells cs t)).cell? ⟨w.heap.size, i, none⟩ = cs[i]? := by rw [World.cell?_alloc_at _ _ _ _ rfl]

section
variable {B x A last n : Nat} {M : List Pk} {C : Ct} {S : Nat → Prop} {w w' : World}
theorem pend_len (h : Nt B x A last n S M C w) (hI : InvM A last M) : Calls Try.prog 13 #[.pointer (some ⟨x, 0, none⟩)] w fun e w' => ∃ a c, e = .returned (.slice a M.length c) ∧ M.length ≤ c ∧ c ≤ maxLen ∧ Below w.heap.size w w' := by
  refine (pending_any h hI.len (fun p hp => Nat.le_trans (hI.small p hp) (by omega))).mono ?_
  rintro e w1 ⟨v, rfl, Q, hQ, hT, hb⟩
  obtain ⟨a, c, e, h1, h2, _, _⟩ := row_reads hT.row
  have hl : Q.length = M.length := by rw [← hQ, List.length_map]
  rw [hl] at e h1
  exact ⟨a, c, by rw [e], h1, h2, hb⟩
end

/-- A program that is one: the first line of each statement about nets. -/
theorem nawake_any (w : World) : Calls Try.prog 7 #[] w fun e w' => e = .returned (.bool true) ∧ Below w.heap.size w w' := by
  go_enter Try.func7, Try.ntmps7
  go_wp2_with fail
  refine (netNew_ok 3 (by omega) (by omega) w).mono ?_
  rintro e w1 ⟨x, rfl, hN1, hb1⟩
  go_wp2_with fail
  refine (send_ok (hN1.below (Below.al w1 _)) 1 2 (by decide) (by simp) (by omega) (nrd1 w1 7 7 rfl _) (by simp)).mono ?_
  rintro e w2 ⟨rfl, ⟨S2, hN2, _⟩, hc2⟩
  have hI2 : InvM 3 (0 + 1) ([] ++ [(0 + 1, 1, 2, [7])]) := (InvM.nil 3 0).put (by simp) 1 2 (by omega) (by omega) [7] (by simp)
  have hn : isN ([] ++ [(0 + 1, 1, 2, [7])]) 1 = true := (isN_iff hI2.rise 1).2 ⟨(0 + 1, 1, 2, [7]), by simp, by simp⟩
  obtain ⟨p, hp, _⟩ := isN_at hn
  have hpe : p = (0 + 1, 1, 2, [7]) := by simpa using List.mem_of_getElem? hp
  subst hpe
  have hb2 : Below w.heap.size w w2 := hb1.trans (((Below.al w1 (.cells #[.int .u8 7] 5)).mono hN1.leB).trans ((hN1.below (Below.al w1 _)).chg hc2))
  go_wp2_with fail
  refine (deliver_ok hN2 hI2.rise (by simp) 1 hn hp (by simp) (by simp) rfl).mono ?_
  rintro e w3 ⟨v3, rfl, ho3, hN3, hc3⟩
  have hb3 := hb2.trans (hN2.chg hc3)
  obtain ⟨a3, n3, c3, rfl⟩ := rowP_shape ho3
  have hr3 := (ho3.rd.alloc (.cells #[.int .i64 1, .int .i64 1, .int .i64 2, .slice a3 n3 c3] 46)).alloc (.cells #[.int .u8 7] 5)
  have hq3 := nrd1 (w3.alloc (.cells #[.int .i64 1, .int .i64 1, .int .i64 2, .slice a3 n3 c3] 46)) 7 7 rfl 5
  rw [show (w3.alloc (.cells #[.int .i64 1, .int .i64 1, .int .i64 2, .slice a3 n3 c3] 46)).heap.size = w3.heap.size + 1 by simp] at hq3
  go_wp2_with fail
  refine (same_any hr3 hq3).mono ?_
  rintro e w4 ⟨rfl, q4, rfl⟩
  rw [decide_eq_true (show ((0 + 1, 1, 2, [7]) : Pk).2.2.2 = [7] from rfl)]
  go_wp2_with fail
  go_ret
  exact ⟨rfl, hb3.trans ((below_drewN (((Below.refl w3.heap.size w3).alloc (Nat.le_refl _) _).alloc (by simp) _) _).mono hb3.size)⟩
end Go.Proofs.Ytpieehbikmmifaa

/- A net of four actors, and who is cut off in a row of bools. -/
namespace Go.Proofs.Ytpieehbikmmifaa
open Go.RowKit
set_option linter.unusedVariables false
set_option maxRecDepth 100000

/-- The row says the same as C, of four actors. -/
def Rel4 (C : Ct) (F : List Bool) : Prop := ∀ a b : Nat, 1 ≤ a → a ≤ 4 → 1 ≤ b → b ≤ 4 → F[5 * a + b]? = some (C (min (a : Int) (b : Int)) (max (a : Int) (b : Int)))
structure Nc (B x g last n : Nat) (S : Nat → Prop) (M : List Pk) (C : Ct) (F : List Bool) (w : World) : Prop where
  nt : Nt B x 4 last n S M C w
  off : w.heap[g]? = some (.cells (F.map Value.bool).toArray 4 (0, 0))
  len : F.length = 25
  gs : ¬ S g
  rel : Rel4 C F
section
variable {B x g last n : Nat} {S : Nat → Prop} {M : List Pk} {C : Ct} {F : List Bool} {w w' : World}
theorem Nc.lt (h : Nc B x g last n S M C F w) : g < w.heap.size := (Array.getElem?_eq_some_iff.1 h.off).1
theorem Nc.cell (h : Nc B x g last n S M C F w) (k : Nat) (hk : k < 25) : ∃ t, F[k]? = some t ∧ w.cell? ⟨g, k, none⟩ = some (.bool t) ∧ w.frozen? ⟨g, k, none⟩ = false := by
  have hl := h.len
  refine ⟨F[k], List.getElem?_eq_getElem (by omega), ?_, frozen_of_row _ _ _ _ _ h.off⟩
  rw [cell_of_row _ _ _ _ _ _ h.off]
  simp [hl, hk]
theorem Nc.below (h : Nc B x g last n S M C F w) (hb : Below w.heap.size w w') : Nc B x g last n S M C F w' :=
  ⟨h.nt.below hb, by rw [hb.block g h.lt]; exact h.off, h.len, h.gs, h.rel⟩
theorem Nc.turn (h : Nc B x g last n S M C F w) {last' n' : Nat} {S' : Nat → Prop} {M' : List Pk} {C' : Ct} (hN : Nt B x 4 last' n' S' M' C' w') (hc : Chg S w w') (hS : ∀ b, S' b → S b ∨ w.heap.size ≤ b) (hr : Rel4 C' F) : Nc B x g last' n' S' M' C' F w' :=
  ⟨hN, by rw [hc.block g h.lt h.gs]; exact h.off, h.len, fun q => by
    rcases hS g q with q | q
    · exact h.gs q
    · have := h.lt; omega, hr⟩
theorem Nc.set (h : Nc B x g last n S M C F w) (k : Nat) (t : Bool) {C' : Ct} (hr : Rel4 C' (F.set k t)) (hC : Nt B x 4 last n S M C' w) : Nc B x g last n S M C' (F.set k t) (w.setCell ⟨g, k, none⟩ (.bool t)) := by
  have hc : Chg (fun b => b = g) w (w.setCell ⟨g, k, none⟩ (.bool t)) := (Chg.refl (fun b => b = g) w).put g _ _ rfl
  refine ⟨hC.next hc (fun b q e => h.gs (by rw [← e]; exact q)), ?_, by rw [List.length_set]; exact h.len, h.gs, hr⟩
  rw [heap_setCell_same _ _ k _ _ _ h.off]
  simp [List.map_set]
end

/-- Both places of a pair set. -/
def set2 (F : List Bool) (a b : Nat) (t : Bool) : List Bool := (F.set (5 * a + b) t).set (5 * b + a) t
theorem set2_at (F : List Bool) (hl : F.length = 25) (a b p q : Nat) (t : Bool) (ha : 1 ≤ a ∧ a ≤ 4) (hb : 1 ≤ b ∧ b ≤ 4) (hp : 1 ≤ p ∧ p ≤ 4) (hq : 1 ≤ q ∧ q ≤ 4) : (set2 F a b t)[5 * p + q]? = if (min (p : Int) q = min (a : Int) b ∧ max (p : Int) q = max (a : Int) b) then some t else F[5 * p + q]? := by
  unfold set2
  rw [List.getElem?_set, List.length_set, List.getElem?_set]
  by_cases e1 : 5 * b + a = 5 * p + q
  · rw [if_pos e1, if_pos (by omega), if_pos (by omega)]
  · rw [if_neg e1]
    by_cases e2 : 5 * a + b = 5 * p + q
    · rw [if_pos e2, if_pos (by omega), if_pos (by omega)]
    · rw [if_neg e2, if_neg (by omega)]
theorem Rel4.set2 {C : Ct} {F : List Bool} (h : Rel4 C F) (hl : F.length = 25) (a b : Nat) (t : Bool) (ha : 1 ≤ a ∧ a ≤ 4) (hb : 1 ≤ b ∧ b ≤ 4) : Rel4 (setC C (min (a : Int) b) (max (a : Int) b) t) (set2 F a b t) := fun p q h1 h2 h3 h4 => by
  rw [set2_at F hl a b p q t ha hb ⟨h1, h2⟩ ⟨h3, h4⟩]
  unfold setC
  by_cases e : min (p : Int) q = min (a : Int) b ∧ max (p : Int) q = max (a : Int) b
  · rw [if_pos e, if_pos e]
  · rw [if_neg e, if_neg e]; exact h p q h1 h2 h3 h4
theorem Rel4.zero : Rel4 noC (List.replicate 25 false) := fun a b h1 h2 h3 h4 => by
  rw [List.getElem?_replicate, if_pos (by omega)]; rfl
/-- Nobody is cut off from itself. -/
def Self (C : Ct) : Prop := ∀ a : Int, C a a = false
theorem Self.set {C : Ct} (h : Self C) (a b : Int) (hab : a ≠ b) (t : Bool) : Self (setC C (min a b) (max a b) t) := fun p => by
  unfold setC
  rw [if_neg (by omega)]
  exact h p
theorem Nc.set2w {B x g last n n' : Nat} {S : Nat → Prop} {M : List Pk} {C C' : Ct} {F : List Bool} {w w3 : World} (h : Nc B x g last n S M C F w) (hN : Nt B x 4 last n' S M C' w3) (hc : Chg S w w3) (a b : Nat) (t : Bool) (hr : Rel4 C' (set2 F a b t)) : Nc B x g last n' S M C' (set2 F a b t) ((w3.setCell ⟨g, 5 * a + b, none⟩ (.bool t)).setCell ⟨g, 5 * b + a, none⟩ (.bool t)) := by
  have hof : w3.heap[g]? = some (.cells (F.map Value.bool).toArray 4 (0, 0)) := by rw [hc.block g h.lt h.gs]; exact h.off
  have hc1 : Chg (fun b => b = g) w3 (w3.setCell ⟨g, 5 * a + b, none⟩ (.bool t)) := (Chg.refl (fun b => b = g) w3).put g _ _ rfl
  have hc2 : Chg (fun b => b = g) w3 ((w3.setCell ⟨g, 5 * a + b, none⟩ (.bool t)).setCell ⟨g, 5 * b + a, none⟩ (.bool t)) := hc1.put g _ _ rfl
  have h1 : (w3.setCell ⟨g, 5 * a + b, none⟩ (.bool t)).heap[g]? = some (.cells ((F.set (5 * a + b) t).map Value.bool).toArray 4 (0, 0)) := by
    rw [heap_setCell_same _ _ (5 * a + b) _ _ _ hof]
    simp [List.map_set]
  refine ⟨hN.next hc2 (fun b q e => h.gs (by rw [← e]; exact q)), ?_, by unfold set2; rw [List.length_set, List.length_set]; exact h.len, h.gs, hr⟩
  rw [heap_setCell_same _ _ (5 * b + a) _ _ _ h1]
  simp [set2, List.map_set]
theorem Rel4.same {C : Ct} {F : List Bool} (h : Rel4 C F) (hl : F.length = 25) (hs : Self C) (a : Nat) (ha : 1 ≤ a ∧ a ≤ 4) : Rel4 C (Proofs.Ytpieehbikmmifaa.set2 F a a false) := fun p q h1 h2 h3 h4 => by
  rw [set2_at F hl a a p q false ha ha ⟨h1, h2⟩ ⟨h3, h4⟩]
  by_cases e : min (p : Int) q = min (a : Int) a ∧ max (p : Int) q = max (a : Int) a
  · rw [if_pos e, e.1, e.2, show min (a : Int) a = a by omega, show max (a : Int) a = a by omega, hs]
  · rw [if_neg e]; exact h p q h1 h2 h3 h4
/-- The messages that are sent, in their order. -/
def msgs (k : Nat) : List Pk := (List.range k).map (fun i => (i + 1, i / 4 + 1, i % 4 + 1, [UInt8.ofNat (i / 4 + 1), UInt8.ofNat (i % 4 + 1)]))
theorem msgs_len (k : Nat) : (msgs k).length = k := by simp [msgs]
theorem msgs_succ (k : Nat) : msgs (k + 1) = msgs k ++ [(k + 1, k / 4 + 1, k % 4 + 1, [UInt8.ofNat (k / 4 + 1), UInt8.ofNat (k % 4 + 1)])] := by simp [msgs, List.range_succ]
theorem msgs_at (k i : Nat) (h : i < k) : (msgs k)[i]? = some (i + 1, i / 4 + 1, i % 4 + 1, [UInt8.ofNat (i / 4 + 1), UInt8.ofNat (i % 4 + 1)]) := by simp [msgs, h]
theorem msgs_inv (k : Nat) (hk : k ≤ 16) : InvM 4 k (msgs k) := by
  induction k with
  | zero => exact InvM.nil 4 0
  | succ k ih =>
    rw [msgs_succ]
    exact (ih (by omega)).put (by rw [msgs_len]; omega) _ _ (by omega) (by omega) _ (by simp)
/-- What is left of them behind i deliveries. -/
theorem left_head (i : Nat) (h : i < 16) : ((msgs 16).drop i)[0]? = some (i + 1, i / 4 + 1, i % 4 + 1, [UInt8.ofNat (i / 4 + 1), UInt8.ofNat (i % 4 + 1)]) := by
  rw [List.getElem?_drop]; simpa using msgs_at 16 i h
theorem left_inv (i : Nat) : InvM 4 16 ((msgs 16).drop i) := by
  have h := msgs_inv 16 (by omega)
  have hs : ((msgs 16).drop i).Sublist (msgs 16) := List.drop_sublist _ _
  exact ⟨h.rise.sublist hs, fun p hp => h.le p (hs.subset hp), Nat.le_trans hs.length_le h.len, fun p hp => h.act p (hs.subset hp), fun p hp => h.small p (hs.subset hp)⟩
theorem left_pl (i : Nat) (h : i < 16) : plN ((msgs 16).drop i) ((i + 1 : Nat) : Int) = 0 ∧ isN ((msgs 16).drop i) ((i + 1 : Nat) : Int) = true ∧ dropM ((msgs 16).drop i) 0 = (msgs 16).drop (i + 1) := by
  have h0 := left_head i h
  have hp : plN ((msgs 16).drop i) ((i + 1 : Nat) : Int) = 0 := plN_eq (fun k x hk => by omega) (fun x e => by rw [h0] at e; obtain rfl := Option.some.inj e; simp) (by omega)
  refine ⟨hp, ?_, ?_⟩
  · unfold isN; rw [hp, h0]; simp
  · unfold dropM; rw [List.take_zero, List.nil_append, List.drop_drop]
/-- A net and a row of bools beside it. -/
structure Nf (B x g last n : Nat) (S : Nat → Prop) (M : List Pk) (C : Ct) (F : List Bool) (w : World) : Prop where
  nt : Nt B x 4 last n S M C w
  off : w.heap[g]? = some (.cells (F.map Value.bool).toArray 4 (0, 0))
  len : F.length = 25
  gs : ¬ S g
section
variable {B x g last n : Nat} {S : Nat → Prop} {M : List Pk} {C : Ct} {F : List Bool} {w w' : World}
theorem Nc.nf (h : Nc B x g last n S M C F w) : Nf B x g last n S M C F w := ⟨h.nt, h.off, h.len, h.gs⟩
theorem Nf.lt (h : Nf B x g last n S M C F w) : g < w.heap.size := (Array.getElem?_eq_some_iff.1 h.off).1
theorem Nf.cell (h : Nf B x g last n S M C F w) (k : Nat) (t : Bool) (hk : F[k]? = some t) : w.cell? ⟨g, k, none⟩ = some (.bool t) := by
  rw [cell_of_row _ _ _ _ _ _ h.off]
  simp [hk]
theorem Nf.below (h : Nf B x g last n S M C F w) (hb : Below w.heap.size w w') : Nf B x g last n S M C F w' :=
  ⟨h.nt.below hb, by rw [hb.block g h.lt]; exact h.off, h.len, h.gs⟩
theorem Nf.turn (h : Nf B x g last n S M C F w) {M' : List Pk} {C' : Ct} (hN : Nt B x 4 last n S M' C' w') (hc : Chg S w w') : Nf B x g last n S M' C' F w' :=
  ⟨hN, by rw [hc.block g h.lt h.gs]; exact h.off, h.len, h.gs⟩
end
/-- How what was told reads. -/
theorem told_msg {B1 : Nat} {v : Value} {Q : List (Pk × Value)} {w : World} (h : w.ownsRow B1 46 4 v Q.length (pkCs Q)) (hQ : Q.map (·.1) = msgs 16) (i : Nat) (hi : i < 16) : ∃ gp c, v = .slice (some ⟨gp, 0, none⟩) 16 c ∧ 16 ≤ c ∧ c ≤ maxLen ∧ B1 ≤ gp ∧ gp < w.heap.size ∧ w.cell? ⟨gp, i * 4, none⟩ = some (.int .i64 ((i + 1 : Nat) : Int)) ∧ w.cell? ⟨gp, i * 4 + 1, none⟩ = some (.int .i64 ((i / 4 + 1 : Nat) : Int)) ∧ w.cell? ⟨gp, i * 4 + 2, none⟩ = some (.int .i64 ((i % 4 + 1 : Nat) : Int)) := by
  have hl : Q.length = 16 := by have := congrArg List.length hQ; rw [List.length_map, msgs_len] at this; exact this
  obtain ⟨a, c, e, h1, h2, _, h4⟩ := row_reads h
  have hq : Q[i]? = some Q[i] := List.getElem?_eq_getElem (by omega)
  have hm : Q[i].1 = (i + 1, i / 4 + 1, i % 4 + 1, [UInt8.ofNat (i / 4 + 1), UInt8.ofNat (i % 4 + 1)]) := by
    have e2 := congrArg (fun l => l[i]?) hQ
    simp only [List.getElem?_map, hq, Option.map_some, msgs_at 16 i hi, Option.some.injEq] at e2
    exact e2
  obtain ⟨x0, x1, x2, _⟩ := pkCs_at Q i _ hq
  rw [hm] at x0 x1 x2
  obtain ⟨gp, rfl, c0⟩ := h4 _ _ x0
  have kk : ∀ j u, (pkCs Q)[j]? = some u → w.cell? ⟨gp, j, none⟩ = some u := fun j u q => by
    obtain ⟨g', eg, g1⟩ := h4 j u q
    simp only [Option.some.injEq, Addr.mk.injEq, and_true] at eg
    rw [eg]; exact g1
  rw [hl] at e h1
  have hlt := World.ownsRow.lt h gp (by rw [e]; rfl)
  exact ⟨gp, c, e, h1, h2, hlt.1, hlt.2, c0, kk _ _ x1, kk _ _ x2⟩
end Go.Proofs.Ytpieehbikmmifaa

/- A number's last two bits. -/
namespace Go.Proofs.Ytpieehbikmmifaa
open Go.RowKit
set_option linter.unusedVariables false
set_option maxRecDepth 100000
theorem and3_bound (p : Int) : 0 ≤ bits .and .i64 p 3 ∧ bits .and .i64 p 3 ≤ 3 := by
  show 0 ≤ IntKind.i64.wrap ((BitVec.ofInt 64 p &&& BitVec.ofInt 64 3).toNat : Int) ∧ IntKind.i64.wrap ((BitVec.ofInt 64 p &&& BitVec.ofInt 64 3).toNat : Int) ≤ 3
  have h3 : (BitVec.ofInt 64 3).toNat = 3 := by decide
  have hle : (BitVec.ofInt 64 p &&& BitVec.ofInt 64 3).toNat ≤ 3 := by
    rw [BitVec.toNat_and, h3]
    exact Nat.and_le_right
  rw [IntKind.wrap_i64]
  omega
theorem act_of (p : Int) : ∃ a : Nat, wrap64 (1 + bits .and .i64 p 3) = (a : Int) ∧ 1 ≤ a ∧ a ≤ 4 := by
  have h := and3_bound p
  refine ⟨(1 + bits .and .i64 p 3).toNat, ?_, by omega, by omega⟩
  unfold wrap64
  omega
end Go.Proofs.Ytpieehbikmmifaa
