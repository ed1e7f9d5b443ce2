/- Pack: the pieces of any bytes. -/
import Derived.Test.YtlajncjamafomaaG18
import Derived.Test.YtlajncjamafomaaG19
namespace Go.Proofs.Ytlajncjamafomaa
open Go.RowKit
set_option linter.unusedVariables false
set_option maxRecDepth 100000

/-- A row of m texts of which the first are there. -/
structure Fil2 (B g m : Nat) (ls : List (List UInt8)) (us : List Value) (w : World) : Prop where
  row : w.heap[g]? = some (.cells (us ++ List.replicate (m - us.length) (Value.slice none 0 0)).toArray 22 (0, 0))
  len : us.length = ls.length
  le : us.length ≤ m
  el : ∀ (i : Nat) (u : Value) (l : List UInt8), us[i]? = some u → ls[i]? = some l → Ow B w u l
  off : ∀ u ∈ us, ∀ b, u.ownBlock = some b → b ≠ g
  sep : us.Pairwise Apart
theorem Fil2.put {B g m : Nat} {ls : List (List UInt8)} {us : List Value} {w w2 : World} (h : Fil2 B g m ls us w) (hm : us.length < m) (hB : B ≤ w.heap.size) (hb : Below w.heap.size w w2) {u : Value} {l : List UInt8} (ho : Ow w.heap.size w2 u l) (k : Nat) (hk : k = us.length) :
    Fil2 B g m (ls ++ [l]) (us ++ [u]) (w2.setCell ⟨g, k, none⟩ u) ∧ w2.cell? ⟨g, k, none⟩ = some (.slice none 0 0) ∧ w2.frozen? ⟨g, k, none⟩ = false := by
  subst hk
  have hglt : g < w.heap.size := (Array.getElem?_eq_some_iff.1 h.row).1
  have hr2 : w2.heap[g]? = some (.cells (us ++ List.replicate (m - us.length) (Value.slice none 0 0)).toArray 22 (0, 0)) := (hb.block g hglt).trans h.row
  have hc : Chg (fun b => b = g) w2 (w2.setCell ⟨g, us.length, none⟩ u) := (Chg.refl (fun b => b = g) w2).put g us.length u rfl
  have hul : ∀ b, u.ownBlock = some b → w.heap.size ≤ b := fun b e => (World.ownsRow.lt ho b e).1
  have hlen := h.len
  obtain ⟨q, hq⟩ : ∃ q, m - us.length = q + 1 := ⟨m - us.length - 1, by omega⟩
  refine ⟨⟨?_, by simp [hlen], by simp; omega, ?_, ?_, ?_⟩, ?_, frozen_of_row _ _ _ _ _ hr2⟩
  · rw [heap_setCell_same _ g us.length _ _ u hr2]
    congr 2
    rw [hq, List.replicate_succ]
    have : m - (us ++ [u]).length = q := by simp; omega
    rw [this]
    simp
  · intro i x t e1 e2
    by_cases hi : i < us.length
    · rw [List.getElem?_append_left hi] at e1
      rw [List.getElem?_append_left (by omega)] at e2
      exact ((h.el i x t e1 e2).below hb (Nat.le_refl _)).keptC hc (fun b e => h.off x (List.mem_of_getElem? e1) b e)
    · rw [List.getElem?_append_right (by omega), List.getElem?_singleton] at e1
      rw [List.getElem?_append_right (by omega), List.getElem?_singleton] at e2
      split at e1
      · rename_i h0
        rw [if_pos (by omega)] at e2
        obtain rfl := Option.some.inj e1
        obtain rfl := Option.some.inj e2
        exact (ho.keptC hc (fun b e q => by have := hul b e; omega)).mono hB
      · cases e1
  · intro x hx b e
    rcases List.mem_append.1 hx with hx | hx
    · exact h.off x hx b e
    · obtain rfl := List.mem_singleton.1 hx
      have := hul b e
      omega
  · rw [List.pairwise_append]
    refine ⟨h.sep, List.pairwise_singleton .., fun a ha x hx => ?_⟩
    obtain rfl := List.mem_singleton.1 hx
    obtain ⟨i, hi, rfl⟩ := List.getElem_of_mem ha
    exact (h.el i _ (ls[i]'(by omega)) (by simp [hi]) (by simp [hlen ▸ hi])).apart ho (Nat.le_refl _)
  · rw [cell_of_row _ _ _ _ _ _ hr2]
    rw [hq, List.replicate_succ]
    simp
theorem Fil2.own {B g m : Nat} {ls : List (List UInt8)} {us : List Value} {w : World} (h : Fil2 B g m ls us w) (hm : us.length = m) (hml : m ≤ 1099511627776) (hg : B ≤ g) : Ows B w (.slice (some ⟨g, 0, none⟩) m m) ls us := by
  have hr := h.row
  rw [hm, Nat.sub_self, List.replicate_zero, List.append_nil] at hr
  refine ⟨⟨by simp, .inr ⟨g, m, us.toArray, by rw [hm], hg, hr, by omega, by unfold maxLen; omega, by simp [hm], by rw [List.take_of_length_le (by simp [hm])]⟩⟩, h.len, h.el, fun u hu b e q => h.off u hu b e ?_, h.sep⟩
  have := Option.some.inj q
  exact this.symm

theorem pack_err {ao : Option Addr} {n c : Nat} (hn : n ≤ 9223372036854775807) (z : Int) (hz : z < 1 ∨ 1048576 < z ∨ 1048576 < n) (w : World) : Calls Try.prog 9 #[.slice ao n c, .int .i64 z] w fun e w' => e = .returned (.tuple #[.slice none 0 0, .int .i64 1]) ∧ w' = w := by
  by_cases h1 : z < 1
  · go_enter Try.func9, Try.ntmps9
    go_wp2_with fail
    go_ret2
    exact ⟨rfl, rfl⟩
  · by_cases h2 : 1048576 < z
    · go_enter Try.func9, Try.ntmps9
      go_wp2_with fail
      go_ret2
      exact ⟨rfl, rfl⟩
    · have h3 : 1048576 < n := by omega
      have h3' : (1048576 : Int) < (n : Int) := by omega
      go_enter Try.func9, Try.ntmps9
      go_wp2_with fail
      go_ret2
      exact ⟨rfl, rfl⟩

set_option maxHeartbeats 4000000 in
theorem pack_ok {v : Value} {b : List UInt8} {w : World} (hr : Rd w v b) (hb : b.length ≤ 1048576) {size : Nat} (hs1 : 1 ≤ size) (hs2 : size ≤ 1048576) :
    Calls Try.prog 9 #[v, .int .i64 (size : Int)] w fun e w' => ∃ u us, e = .returned (.tuple #[u, .int .i64 0]) ∧ Ows w.heap.size w' u (pkA b size) us ∧ Below w.heap.size w w' := by
  have hr' := hr
  obtain ⟨ao, c, rfl, h1, h2, h3, h4⟩ := hr
  unfold maxLen at h2
  clear h3 h4
  have hc := M.crc_lt b
  have hmle := pkM_le b.length size hs1
  have hat := fun i => pkM_at b.length size i hs1
  obtain ⟨i0, hi, hz0, hz1, hz2⟩ := info_parts Try.info22
  have g1 : ¬ (size : Int) < 1 := by omega
  have g2 : ¬ (size : Int) > 1048576 := by omega
  have g3 : ¬ (b.length : Int) > 1048576 := by omega
  obtain ⟨Q, hQ⟩ : ∃ Q, (b.length + size - 1) / size = Q := ⟨_, rfl⟩
  have hq : ((b.length : Int) + (size : Int) - 1) / (size : Int) = (Q : Int) := by
    have : (b.length : Int) + (size : Int) - 1 = ((b.length + size - 1 : Nat) : Int) := by omega
    rw [this, ← Int.natCast_ediv, hQ]
  have hM : pkM b.length size = max 1 Q := by unfold pkM; rw [hQ]
  rw [hM] at hmle hat
  by_cases hQ1 : Q ≤ 1
  · rw [show max 1 Q = 1 by omega] at hM hmle hat
    have HM : Hid _ := hM
    clear hM hQ
    have hQi : (Q : Int) ≤ 1 := by omega
    go_enter Try.func9, Try.ntmps9
    go_wp2_with fail
    refine (wholeOf_any hr').mono ?_
    rintro e w1 ⟨rfl, hb1⟩
    have hwb := pk_new w1 (.cells #[.int .u64 (M.crc b : Int), .int .u64 (b.length : Int)] 66)
    have hw0 := pk_al w1 (.cells #[.int .u64 (M.crc b : Int), .int .u64 (b.length : Int)] 66)
    have hs0 : w.heap.size ≤ w1.heap.size := hb1.size
    have hs1' : (w1.alloc (.cells #[.int .u64 (M.crc b : Int), .int .u64 (b.length : Int)] 66)).heap.size = w1.heap.size + 1 := by simp
    have hB : w.heap.size ≤ (w1.alloc (.cells #[.int .u64 (M.crc b : Int), .int .u64 (b.length : Int)] 66)).heap.size := by rw [hs1']; omega
    go_wp2_with (first | (at_make; refine wpList_make_full _ rfl _ _ 26 rfl w.heap.size 22 i0 _ 1 Try.underlying26 hi hz0 hz1 _ _ _ _ 1 rfl rfl (by omega) (by omega) (by rw [hz2]; omega) (by unfold maxLen; omega) hB ?_; intro w2 hown hgr) | fail)
    rw [hs1'] at hown
    have hbw2 : Below (w1.heap.size + 1) (w1.alloc (.cells #[.int .u64 (M.crc b : Int), .int .u64 (b.length : Int)] 66)) w2 := by
      have := (Below.refl (w1.heap.size + 1) (w1.alloc (.cells #[.int .u64 (M.crc b : Int), .int .u64 (b.length : Int)] 66))).grown hgr (by rw [hs1']; exact Nat.le_refl _) (fun k hk => by cases hk)
      exact this
    have hwb2 : w2.heap[w1.heap.size]? = some (.cells #[.int .u64 (M.crc b : Int), .int .u64 (b.length : Int)] 66 (0, 0)) := (hbw2.block _ (by omega)).trans hwb
    have hB2 : Below w.heap.size w w2 := hb1.trans ((hw0.mono hs0).trans (hbw2.mono (by omega)))
    have hF0 : Fil2 w.heap.size (w1.heap.size + 1) 1 [] [] w2 := by
      rcases hown.2 with ⟨q, _⟩ | ⟨g, cap, cur, q, hg, hh, q1, q2, q3, q4⟩
      · cases q
      · simp only [Value.slice.injEq, Option.some.injEq, Addr.mk.injEq, and_true, true_and] at q
        obtain ⟨rfl, rfl⟩ := q
        refine ⟨?_, rfl, Nat.zero_le _, by simp, by simp, .nil⟩
        rw [hh]
        congr 2
        apply Array.ext'
        have e : (madeCells (Value.slice none 0 0).cells (1 * 1)).toList = List.replicate 1 (Value.slice none 0 0) := by
          rw [show (Value.slice none 0 0).cells = #[Value.slice none 0 0] from rfl, toList_madeCells_one]
          (try simp)
        rw [e] at q4
        simp only [List.nil_append, List.length_nil, Nat.sub_zero]
        rw [← q4, List.take_of_length_le (by rw [Array.length_toList, q3]; omega)]
    have hsz2 : w1.heap.size + 1 < w2.heap.size := (Array.getElem?_eq_some_iff.1 hF0.row).1
    clear hown hgr hbw2 hb1 hw0 hwb hB
    generalize hg0 : w1.heap.size = g0 at *
    have Hg0 : Hid _ := hg0
    clear hg0
    go_loopw [9, 10, 11, 36] (fun _ _ _ x wr => ∃ (k : Nat) (us : List Value), k ≤ 1 ∧ x = .int .i64 k ∧ us.length = k ∧ Fil2 w.heap.size (g0 + 1) 1 ((pkA b size).take k) us wr ∧ Below w.heap.size w wr ∧ wr.heap[g0]? = some (.cells #[.int .u64 (M.crc b : Int), .int .u64 (b.length : Int)] 66 (0, 0))) (fun _ _ _ x _ => 1 - (intOf x).toNat)
    case atStart => exact ⟨0, [], Nat.zero_le _, rfl, rfl, by simpa using hF0, hB2, hwb2⟩
    case round =>
      obtain ⟨k, us, hk, rfl, hul, hF, hbl, hwk⟩ := hrel
      clear hF0 hB2 hwb2
      by_cases hlt : k < 1
      · have hlt' : (k : Int) < 1 := by omega
        obtain ⟨K, hK⟩ : ∃ K, k * size = K := ⟨_, rfl⟩
        have hKl : K ≤ b.length := by rw [← hK]; exact hat k hlt
        have hKi : (k : Int) * (size : Int) = (K : Int) := by rw [← hK]; simp
        obtain ⟨c0, c1, cz⟩ := cells2 hwk
        have hrk := hr'.below hbl (Nat.le_refl _)
        have hset := fun (W : World) (u : Value) (q1 : Below wr.heap.size wr W) (q2 : Ow wr.heap.size W u (pkI b size k)) => hF.put (by omega) hbl.size q1 q2 k hul.symm
        have hpi : pkI b size k = pkW (M.crc b) b.length 1 k (pkP b size k) := by unfold pkI; rw [HM.out]
        have htk : (pkA b size).take k ++ [pkI b size k] = (pkA b size).take (k + 1) := by
          have hl2 : k < (pkA b size).length := by rw [pkA_len, HM.out]; exact hlt
          rw [List.take_succ_eq_append_getElem hl2, pkA_get b size k (by rw [HM.out]; exact hlt)]
        have hpl := pkP_len b size k
        have HS : Hid _ := And.intro hset (And.intro hpi (And.intro htk (And.intro hul hK)))
        clear hset hpi htk hul hK hF
        obtain ⟨J, hJ⟩ : ∃ J, min (K + size) b.length = J := ⟨_, rfl⟩
        have hpc := hrk.piece K J (by omega) (by omega) (if c = K then ao else ao.map (fun a => a.add K)) ⟨fun h => by rw [if_pos h], fun h => by rw [if_neg h]⟩
        have epp : (b.take J).drop K = pkP b size k := by rw [← hJ, ← HS.out.2.2.2.2]; rfl
        rw [epp] at hpc
        have HPC : Hid (Rd wr (.slice (if c = K then ao else ao.map (fun a => a.add K)) (J - K) (c - K)) (pkP b size k)) := hpc
        clear hpc epp
        have fin : ∀ (x : Option Addr) (n' c' : Nat), Rd wr (.slice x n' c') (pkP b size k) → Calls Try.prog 32 #[.agg #[.int .u64 (M.crc b : Int), .int .u64 (b.length : Int), .int .u64 1, .int .u64 (k : Int), .slice x n' c']] wr fun e w' => ∃ v', e = .returned v' ∧ (∃ q1 q2 q3, v' = .slice q1 q2 q3) ∧ Ow wr.heap.size w' v' (pkI b size k) ∧ Below wr.heap.size wr w' := fun x n' c' hx => by
          refine (written_any (s := M.crc b) (n := b.length) (m := 1) (i := k) (by omega) (by omega) (by omega) (by omega) hx (by omega)).mono ?_
          rintro e w' ⟨v', rfl, ho, hb'⟩
          rw [← HS.out.2.1] at ho
          obtain ⟨q1, q2, q3⟩ := ho.shape
          exact ⟨v', rfl, ⟨_, _, _, q3⟩, ho, hb'⟩
        by_cases hmn : K + size ≤ b.length
        · obtain rfl : K + size = J := by omega
          have hmi : ((K : Int) + (size : Int)) ≤ (b.length : Int) := by omega
          by_cases hcK : c = K
          · subst hcK
            omega
          · have hx := HPC.out
            rw [if_neg hcK] at hx
            go_wp2_with fail
            refine (fin _ _ _ (hx.cong ?_ ?_ ?_)).mono ?_
            · first | rfl | (simp; done)
            · first | rfl | omega
            · first | rfl | omega
            rintro e w3 ⟨v3, rfl, ⟨q1, q2, q3, rfl⟩, ho3, hb3⟩
            obtain ⟨hF3, k3, z3⟩ := HS.out.1 w3 _ hb3 ho3
            have HF3 : Hid _ := hF3
            clear hF3
            have hch : Chg (fun b => b = g0 + 1) w3 (w3.setCell ⟨g0 + 1, k, none⟩ (.slice q1 q2 q3)) := (Chg.refl (fun b => b = g0 + 1) w3).put (g0 + 1) k _ rfl
            go_wp2_with fail
            have hwlt := (Array.getElem?_eq_some_iff.1 hwk).1
            have hsz3 := hb3.size
            refine ⟨⟨k + 1, us ++ [.slice q1 q2 q3], by omega, by go_num, by simp [HS.out.2.2.2.1], HS.out.2.2.1 ▸ HF3.out, (hbl.trans (hb3.mono hbl.size)).trans (hch.below (fun b e => by have := Hg0.out; omega) (by omega)), ?_⟩, by simp [intOf]; omega⟩
            rw [hch.block g0 (by omega) (by omega), hb3.block g0 hwlt]
            exact hwk
        · obtain rfl : b.length = J := by omega
          have hmi : (b.length : Int) < ((K : Int) + (size : Int)) := by omega
          by_cases hcK : c = K
          · subst hcK
            have hx := HPC.out
            rw [if_pos rfl] at hx
            go_wp2_with fail
            refine (fin _ _ _ (hx.cong ?_ ?_ ?_)).mono ?_
            · first | rfl | (simp; done)
            · first | rfl | omega
            · first | rfl | omega
            rintro e w3 ⟨v3, rfl, ⟨q1, q2, q3, rfl⟩, ho3, hb3⟩
            obtain ⟨hF3, k3, z3⟩ := HS.out.1 w3 _ hb3 ho3
            have HF3 : Hid _ := hF3
            clear hF3
            have hch : Chg (fun b => b = g0 + 1) w3 (w3.setCell ⟨g0 + 1, k, none⟩ (.slice q1 q2 q3)) := (Chg.refl (fun b => b = g0 + 1) w3).put (g0 + 1) k _ rfl
            go_wp2_with fail
            have hwlt := (Array.getElem?_eq_some_iff.1 hwk).1
            have hsz3 := hb3.size
            refine ⟨⟨k + 1, us ++ [.slice q1 q2 q3], by omega, by go_num, by simp [HS.out.2.2.2.1], HS.out.2.2.1 ▸ HF3.out, (hbl.trans (hb3.mono hbl.size)).trans (hch.below (fun b e => by have := Hg0.out; omega) (by omega)), ?_⟩, by simp [intOf]; omega⟩
            rw [hch.block g0 (by omega) (by omega), hb3.block g0 hwlt]
            exact hwk
          · have hx := HPC.out
            rw [if_neg hcK] at hx
            go_wp2_with fail
            refine (fin _ _ _ (hx.cong ?_ ?_ ?_)).mono ?_
            · first | rfl | (simp; done)
            · first | rfl | omega
            · first | rfl | omega
            rintro e w3 ⟨v3, rfl, ⟨q1, q2, q3, rfl⟩, ho3, hb3⟩
            obtain ⟨hF3, k3, z3⟩ := HS.out.1 w3 _ hb3 ho3
            have HF3 : Hid _ := hF3
            clear hF3
            have hch : Chg (fun b => b = g0 + 1) w3 (w3.setCell ⟨g0 + 1, k, none⟩ (.slice q1 q2 q3)) := (Chg.refl (fun b => b = g0 + 1) w3).put (g0 + 1) k _ rfl
            go_wp2_with fail
            have hwlt := (Array.getElem?_eq_some_iff.1 hwk).1
            have hsz3 := hb3.size
            refine ⟨⟨k + 1, us ++ [.slice q1 q2 q3], by omega, by go_num, by simp [HS.out.2.2.2.1], HS.out.2.2.1 ▸ HF3.out, (hbl.trans (hb3.mono hbl.size)).trans (hch.below (fun b e => by have := Hg0.out; omega) (by omega)), ?_⟩, by simp [intOf]; omega⟩
            rw [hch.block g0 (by omega) (by omega), hb3.block g0 hwlt]
            exact hwk
      · obtain rfl : k = 1 := by omega
        go_wp2_with fail
        go_ret2
        have hown := hF.own hul (by omega) (by have := Hg0.out; omega)
        rw [List.take_of_length_le (by rw [pkA_len, HM.out]; exact Nat.le_refl _)] at hown
        exact ⟨_, us, rfl, hown, hbl⟩
  · obtain ⟨m, hm⟩ : ∃ m, max 1 Q = m := ⟨_, rfl⟩
    obtain rfl : Q = m := by omega
    rw [hm] at hM hmle hat
    have HM : Hid _ := hM
    clear hM hQ hm
    have hQi : 1 < (Q : Int) := by omega
    go_enter Try.func9, Try.ntmps9
    go_wp2_with fail
    refine (wholeOf_any hr').mono ?_
    rintro e w1 ⟨rfl, hb1⟩
    have hwb := pk_new w1 (.cells #[.int .u64 (M.crc b : Int), .int .u64 (b.length : Int)] 66)
    have hw0 := pk_al w1 (.cells #[.int .u64 (M.crc b : Int), .int .u64 (b.length : Int)] 66)
    have hs0 : w.heap.size ≤ w1.heap.size := hb1.size
    have hs1' : (w1.alloc (.cells #[.int .u64 (M.crc b : Int), .int .u64 (b.length : Int)] 66)).heap.size = w1.heap.size + 1 := by simp
    have hB : w.heap.size ≤ (w1.alloc (.cells #[.int .u64 (M.crc b : Int), .int .u64 (b.length : Int)] 66)).heap.size := by rw [hs1']; omega
    go_wp2_with (first | (at_make; refine wpList_make_full _ rfl _ _ 26 rfl w.heap.size 22 i0 _ 1 Try.underlying26 hi hz0 hz1 _ _ _ _ Q rfl rfl (by omega) (by omega) (by rw [hz2]; omega) (by unfold maxLen; omega) hB ?_; intro w2 hown hgr) | fail)
    rw [hs1'] at hown
    have hbw2 : Below (w1.heap.size + 1) (w1.alloc (.cells #[.int .u64 (M.crc b : Int), .int .u64 (b.length : Int)] 66)) w2 := by
      have := (Below.refl (w1.heap.size + 1) (w1.alloc (.cells #[.int .u64 (M.crc b : Int), .int .u64 (b.length : Int)] 66))).grown hgr (by rw [hs1']; exact Nat.le_refl _) (fun k hk => by cases hk)
      exact this
    have hwb2 : w2.heap[w1.heap.size]? = some (.cells #[.int .u64 (M.crc b : Int), .int .u64 (b.length : Int)] 66 (0, 0)) := (hbw2.block _ (by omega)).trans hwb
    have hB2 : Below w.heap.size w w2 := hb1.trans ((hw0.mono hs0).trans (hbw2.mono (by omega)))
    have hF0 : Fil2 w.heap.size (w1.heap.size + 1) Q [] [] w2 := by
      rcases hown.2 with ⟨q, _⟩ | ⟨g, cap, cur, q, hg, hh, q1, q2, q3, q4⟩
      · cases q
      · simp only [Value.slice.injEq, Option.some.injEq, Addr.mk.injEq, and_true, true_and] at q
        obtain ⟨rfl, rfl⟩ := q
        refine ⟨?_, rfl, Nat.zero_le _, by simp, by simp, .nil⟩
        rw [hh]
        congr 2
        apply Array.ext'
        have e : (madeCells (Value.slice none 0 0).cells (Q * 1)).toList = List.replicate Q (Value.slice none 0 0) := by
          rw [show (Value.slice none 0 0).cells = #[Value.slice none 0 0] from rfl, toList_madeCells_one]
          (try simp)
        rw [e] at q4
        simp only [List.nil_append, List.length_nil, Nat.sub_zero]
        rw [← q4, List.take_of_length_le (by rw [Array.length_toList, q3]; omega)]
    have hsz2 : w1.heap.size + 1 < w2.heap.size := (Array.getElem?_eq_some_iff.1 hF0.row).1
    clear hown hgr hbw2 hb1 hw0 hwb hB
    generalize hg0 : w1.heap.size = g0 at *
    have Hg0 : Hid _ := hg0
    clear hg0
    go_loopw [9, 10, 11, 36] (fun _ _ _ x wr => ∃ (k : Nat) (us : List Value), k ≤ Q ∧ x = .int .i64 k ∧ us.length = k ∧ Fil2 w.heap.size (g0 + 1) Q ((pkA b size).take k) us wr ∧ Below w.heap.size w wr ∧ wr.heap[g0]? = some (.cells #[.int .u64 (M.crc b : Int), .int .u64 (b.length : Int)] 66 (0, 0))) (fun _ _ _ x _ => Q - (intOf x).toNat)
    case atStart => exact ⟨0, [], Nat.zero_le _, rfl, rfl, by simpa using hF0, hB2, hwb2⟩
    case round =>
      obtain ⟨k, us, hk, rfl, hul, hF, hbl, hwk⟩ := hrel
      clear hF0 hB2 hwb2
      by_cases hlt : k < Q
      · have hlt' : (k : Int) < (Q : Int) := by omega
        obtain ⟨K, hK⟩ : ∃ K, k * size = K := ⟨_, rfl⟩
        have hKl : K ≤ b.length := by rw [← hK]; exact hat k hlt
        have hKi : (k : Int) * (size : Int) = (K : Int) := by rw [← hK]; simp
        obtain ⟨c0, c1, cz⟩ := cells2 hwk
        have hrk := hr'.below hbl (Nat.le_refl _)
        have hset := fun (W : World) (u : Value) (q1 : Below wr.heap.size wr W) (q2 : Ow wr.heap.size W u (pkI b size k)) => hF.put (by omega) hbl.size q1 q2 k hul.symm
        have hpi : pkI b size k = pkW (M.crc b) b.length Q k (pkP b size k) := by unfold pkI; rw [HM.out]
        have htk : (pkA b size).take k ++ [pkI b size k] = (pkA b size).take (k + 1) := by
          have hl2 : k < (pkA b size).length := by rw [pkA_len, HM.out]; exact hlt
          rw [List.take_succ_eq_append_getElem hl2, pkA_get b size k (by rw [HM.out]; exact hlt)]
        have hpl := pkP_len b size k
        have HS : Hid _ := And.intro hset (And.intro hpi (And.intro htk (And.intro hul hK)))
        clear hset hpi htk hul hK hF
        obtain ⟨J, hJ⟩ : ∃ J, min (K + size) b.length = J := ⟨_, rfl⟩
        have hpc := hrk.piece K J (by omega) (by omega) (if c = K then ao else ao.map (fun a => a.add K)) ⟨fun h => by rw [if_pos h], fun h => by rw [if_neg h]⟩
        have epp : (b.take J).drop K = pkP b size k := by rw [← hJ, ← HS.out.2.2.2.2]; rfl
        rw [epp] at hpc
        have HPC : Hid (Rd wr (.slice (if c = K then ao else ao.map (fun a => a.add K)) (J - K) (c - K)) (pkP b size k)) := hpc
        clear hpc epp
        have fin : ∀ (x : Option Addr) (n' c' : Nat), Rd wr (.slice x n' c') (pkP b size k) → Calls Try.prog 32 #[.agg #[.int .u64 (M.crc b : Int), .int .u64 (b.length : Int), .int .u64 (Q : Int), .int .u64 (k : Int), .slice x n' c']] wr fun e w' => ∃ v', e = .returned v' ∧ (∃ q1 q2 q3, v' = .slice q1 q2 q3) ∧ Ow wr.heap.size w' v' (pkI b size k) ∧ Below wr.heap.size wr w' := fun x n' c' hx => by
          refine (written_any (s := M.crc b) (n := b.length) (m := Q) (i := k) (by omega) (by omega) (by omega) (by omega) hx (by omega)).mono ?_
          rintro e w' ⟨v', rfl, ho, hb'⟩
          rw [← HS.out.2.1] at ho
          obtain ⟨q1, q2, q3⟩ := ho.shape
          exact ⟨v', rfl, ⟨_, _, _, q3⟩, ho, hb'⟩
        by_cases hmn : K + size ≤ b.length
        · obtain rfl : K + size = J := by omega
          have hmi : ((K : Int) + (size : Int)) ≤ (b.length : Int) := by omega
          by_cases hcK : c = K
          · subst hcK
            omega
          · have hx := HPC.out
            rw [if_neg hcK] at hx
            go_wp2_with fail
            refine (fin _ _ _ (hx.cong ?_ ?_ ?_)).mono ?_
            · first | rfl | (simp; done)
            · first | rfl | omega
            · first | rfl | omega
            rintro e w3 ⟨v3, rfl, ⟨q1, q2, q3, rfl⟩, ho3, hb3⟩
            obtain ⟨hF3, k3, z3⟩ := HS.out.1 w3 _ hb3 ho3
            have HF3 : Hid _ := hF3
            clear hF3
            have hch : Chg (fun b => b = g0 + 1) w3 (w3.setCell ⟨g0 + 1, k, none⟩ (.slice q1 q2 q3)) := (Chg.refl (fun b => b = g0 + 1) w3).put (g0 + 1) k _ rfl
            go_wp2_with fail
            have hwlt := (Array.getElem?_eq_some_iff.1 hwk).1
            have hsz3 := hb3.size
            refine ⟨⟨k + 1, us ++ [.slice q1 q2 q3], by omega, by go_num, by simp [HS.out.2.2.2.1], HS.out.2.2.1 ▸ HF3.out, (hbl.trans (hb3.mono hbl.size)).trans (hch.below (fun b e => by have := Hg0.out; omega) (by omega)), ?_⟩, by simp [intOf]; omega⟩
            rw [hch.block g0 (by omega) (by omega), hb3.block g0 hwlt]
            exact hwk
        · obtain rfl : b.length = J := by omega
          have hmi : (b.length : Int) < ((K : Int) + (size : Int)) := by omega
          by_cases hcK : c = K
          · subst hcK
            have hx := HPC.out
            rw [if_pos rfl] at hx
            go_wp2_with fail
            refine (fin _ _ _ (hx.cong ?_ ?_ ?_)).mono ?_
            · first | rfl | (simp; done)
            · first | rfl | omega
            · first | rfl | omega
            rintro e w3 ⟨v3, rfl, ⟨q1, q2, q3, rfl⟩, ho3, hb3⟩
            obtain ⟨hF3, k3, z3⟩ := HS.out.1 w3 _ hb3 ho3
            have HF3 : Hid _ := hF3
            clear hF3
            have hch : Chg (fun b => b = g0 + 1) w3 (w3.setCell ⟨g0 + 1, k, none⟩ (.slice q1 q2 q3)) := (Chg.refl (fun b => b = g0 + 1) w3).put (g0 + 1) k _ rfl
            go_wp2_with fail
            have hwlt := (Array.getElem?_eq_some_iff.1 hwk).1
            have hsz3 := hb3.size
            refine ⟨⟨k + 1, us ++ [.slice q1 q2 q3], by omega, by go_num, by simp [HS.out.2.2.2.1], HS.out.2.2.1 ▸ HF3.out, (hbl.trans (hb3.mono hbl.size)).trans (hch.below (fun b e => by have := Hg0.out; omega) (by omega)), ?_⟩, by simp [intOf]; omega⟩
            rw [hch.block g0 (by omega) (by omega), hb3.block g0 hwlt]
            exact hwk
          · have hx := HPC.out
            rw [if_neg hcK] at hx
            go_wp2_with fail
            refine (fin _ _ _ (hx.cong ?_ ?_ ?_)).mono ?_
            · first | rfl | (simp; done)
            · first | rfl | omega
            · first | rfl | omega
            rintro e w3 ⟨v3, rfl, ⟨q1, q2, q3, rfl⟩, ho3, hb3⟩
            obtain ⟨hF3, k3, z3⟩ := HS.out.1 w3 _ hb3 ho3
            have HF3 : Hid _ := hF3
            clear hF3
            have hch : Chg (fun b => b = g0 + 1) w3 (w3.setCell ⟨g0 + 1, k, none⟩ (.slice q1 q2 q3)) := (Chg.refl (fun b => b = g0 + 1) w3).put (g0 + 1) k _ rfl
            go_wp2_with fail
            have hwlt := (Array.getElem?_eq_some_iff.1 hwk).1
            have hsz3 := hb3.size
            refine ⟨⟨k + 1, us ++ [.slice q1 q2 q3], by omega, by go_num, by simp [HS.out.2.2.2.1], HS.out.2.2.1 ▸ HF3.out, (hbl.trans (hb3.mono hbl.size)).trans (hch.below (fun b e => by have := Hg0.out; omega) (by omega)), ?_⟩, by simp [intOf]; omega⟩
            rw [hch.block g0 (by omega) (by omega), hb3.block g0 hwlt]
            exact hwk
      · obtain rfl : k = Q := by omega
        go_wp2_with fail
        go_ret2
        have hown := hF.own hul (by omega) (by have := Hg0.out; omega)
        rw [List.take_of_length_le (by rw [pkA_len, HM.out]; exact Nat.le_refl _)] at hown
        exact ⟨_, us, rfl, hown, hbl⟩
end Go.Proofs.Ytlajncjamafomaa
