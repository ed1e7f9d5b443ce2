/- The document's Pack. -/
import Derived.Test.YtlajncjamafomaaG36
import Derived.Test.YtlajncjamafomaaG32
import Derived.Test.YtlajncjamafomaaG31
namespace Go.Proofs.Ytlajncjamafomaa
open Go.RowKit
set_option linter.unusedVariables false
set_option maxRecDepth 100000

theorem rpack_err {ao : Option Addr} {n c : Nat} (hn : n ≤ 9223372036854775807) (z : Int) (hz : z < 1 ∨ 1048576 < z ∨ 1048576 < n) (w : World) : Calls Try.prog 11 #[.slice ao n c, .int .i64 z] w fun e w' => e = .returned (.tuple #[.slice none 0 0, .int .i64 1]) ∧ w' = w := by
  by_cases h1 : z < 1
  · go_enter Try.func11, Try.ntmps11
    go_wp2_with fail
    go_ret2
    exact ⟨rfl, rfl⟩
  · by_cases h2 : 1048576 < z
    · go_enter Try.func11, Try.ntmps11
      go_wp2_with fail
      go_ret2
      exact ⟨rfl, rfl⟩
    · have h3 : 1048576 < n := by omega
      have h3' : (1048576 : Int) < (n : Int) := by omega
      go_enter Try.func11, Try.ntmps11
      go_wp2_with fail
      go_ret2
      exact ⟨rfl, rfl⟩

set_option maxHeartbeats 8000000 in
theorem rpack_ok {v : Value} {b : List UInt8} {w : World} (hr : Rd w v b) (hb : b.length ≤ 1048576) {size : Nat} (hs1 : 1 ≤ size) (hs2 : size ≤ 1048576) :
    Calls Try.prog 11 #[v, .int .i64 (size : Int)] w fun e w' => ∃ u us, e = .returned (.tuple #[u, .int .i64 0]) ∧ Ows w.heap.size w' u (pkA b size) us ∧ Below w.heap.size w w' := by
  have hr' := hr
  obtain ⟨ao, c, rfl, h1, h2, h3, h4⟩ := hr
  unfold maxLen at h2
  clear h3 h4
  have hc := M.crc_lt b
  have hmle := pkM_le b.length size hs1
  have hat := fun i => pkM_at b.length size i hs1
  have g1 : ¬ (size : Int) < 1 := by omega
  have g2 : ¬ (size : Int) > 1048576 := by omega
  have g3 : ¬ (b.length : Int) > 1048576 := by omega
  obtain ⟨Q, hQ⟩ : ∃ Q, (b.length + size - 1) / size = Q := ⟨_, rfl⟩
  have hq : ((b.length : Int) + (size : Int) - 1) / (size : Int) = (Q : Int) := by
    have : (b.length : Int) + (size : Int) - 1 = ((b.length + size - 1 : Nat) : Int) := by omega
    rw [this, ← Int.natCast_ediv, hQ]
  have hM : pkM b.length size = max 1 Q := by unfold pkM; rw [hQ]
  rw [hM] at hmle hat
  by_cases hQ1 : Q < 1
  · rw [show max 1 Q = 1 by omega] at hM hmle hat
    have HM : Hid _ := hM
    clear hM hQ
    have hQi : ((Q : Int) == 0) = true := by simp; omega
    go_enter Try.func11, Try.ntmps11
    go_wp2_with fail
    go_loopw [7, 8, 9, 10] (fun out x _ _ wr => ∃ (k : Nat) (us : List Value), k ≤ 1 ∧ x = .int .i64 k ∧ Ows w.heap.size wr out ((pkA b size).take k) us ∧ us.length = k ∧ Below w.heap.size w wr) (fun _ x _ _ _ => 1 - (intOf x).toNat)
    case atStart => exact ⟨0, [], Nat.zero_le _, rfl, Ows.nil _ _, rfl, Below.refl _ _⟩
    case round =>
      obtain ⟨k, us, hk, rfl, hos, hul, hbl⟩ := hrel
      have hB := hbl.size
      obtain ⟨xo, yo, hoe⟩ : ∃ xo yo, _ = Value.slice xo k yo := by
        obtain ⟨xo, yo, e, _⟩ := hos.rds
        rw [← hos.len, hul] at e
        exact ⟨xo, yo, e⟩
      subst hoe
      by_cases hlt : k < 1
      · have hlt' : (k : Int) < 1 := by omega
        obtain ⟨K, hK⟩ : ∃ K, k * size = K := ⟨_, rfl⟩
        have hKl : K ≤ b.length := by rw [← hK]; exact hat k hlt
        have hKi : (k : Int) * (size : Int) = (K : Int) := by rw [← hK]; simp
        have hKw : IntKind.i64.wrap (K : Int) = (K : Int) := by rw [IntKind.wrap_i64]; omega
        have hK0 : (0 : Int) ≤ (K : Int) := by omega
        have hbc : (b.length : Int) ≤ (c : Int) := by omega
        have hKb : (K : Int) ≤ (b.length : Int) := by omega
        have hrk := hr'.below hbl (Nat.le_refl _)
        have hpi : pkI b size k = pkW (M.crc b) b.length 1 k (pkP b size k) := by unfold pkI; rw [HM.out]
        have htk : (pkA b size).take k ++ [pkI b size k] = (pkA b size).take (k + 1) := by
          have hl2 : k < (pkA b size).length := by rw [pkA_len, HM.out]; exact hlt
          rw [List.take_succ_eq_append_getElem hl2, pkA_get b size k (by rw [HM.out]; exact hlt)]
        have hpl := pkP_len b size k
        have hrl := pkRow_len (M.crc b) b.length 1 k (pkP b size k)
        have hsm : Calls Try.prog 34 #[.slice ao b.length c] wr.drew fun e w' => e = .returned (.int .u32 (M.crc b : Int)) ∧ Below wr.heap.size wr w' := by
          refine (rsum_any (hrk.below (pk_drew wr) (Nat.le_refl _))).mono ?_
          rintro e w' ⟨rfl, j, rfl⟩
          exact ⟨rfl, below_drewN (pk_drew wr) j⟩
        have hv : ∀ (x : Nat) (W : World), x < 18446744073709551616 → Below wr.heap.size wr W → Calls Try.prog 33 #[.int .u64 (x : Int)] W fun e w' => ∃ v', e = .returned v' ∧ Ow W.heap.size w' v' (M.vi x) ∧ Below wr.heap.size wr w' ∧ Below W.heap.size W w' := fun x W hx hW => by
          refine (rvarint_any x W hx).mono ?_
          rintro e w' ⟨v', rfl, ho, hb'⟩
          exact ⟨v', rfl, ho, hW.trans (hb'.mono hW.size), hb'⟩
        have hwc : IntKind.u64.wrap (M.crc b : Int) = (M.crc b : Int) := by rw [IntKind.wrap_u64]; omega
        have hwl : IntKind.u64.wrap (b.length : Int) = (b.length : Int) := by rw [IntKind.wrap_u64]; omega
        have hwk : IntKind.u64.wrap (k : Int) = (k : Int) := by rw [IntKind.wrap_u64]; omega
        have hwm : IntKind.u64.wrap 1 = 1 := by rw [IntKind.wrap_u64]; omega
        have fin : ∀ (w1 w2 w3 w4 w5 : World) (q1 q2 q3 q4 : Value) (x : Option Addr) (n' c' : Nat), Below wr.heap.size wr w1 → Below w1.heap.size w1 w2 → Below w2.heap.size w2 w3 → Below w3.heap.size w3 w4 → Below w4.heap.size w4 w5 → Ow w1.heap.size w2 q1 (M.vi (M.crc b)) → Ow w2.heap.size w3 q2 (M.vi b.length) → Ow w3.heap.size w4 q3 (M.vi 1) → Ow w4.heap.size w5 q4 (M.vi k) → Rd wr (.slice x n' c') (pkP b size k) →
            Calls Try.prog 36 #[.slice (some ⟨w5.heap.size, 0, none⟩) 5 5] (w5.alloc (.cells #[q1, q2, q3, q4, .slice x n' c'] 22)) fun e w' => ∃ v', e = .returned v' ∧ Ow wr.heap.size w' v' (M.row [M.vi (M.crc b), M.vi b.length, M.vi 1, M.vi k, pkP b size k]) ∧ Below wr.heap.size wr w' := fun w1 w2 w3 w4 w5 q1 q2 q3 q4 x n' c' g1 g2 g3 g4 g5 o1 o2 o3 o4 hx => by
          have t4 : Below w3.heap.size w3 w5 := g4.trans (g5.mono g4.size)
          have t3 : Below w2.heap.size w2 w5 := g3.trans (t4.mono g3.size)
          have t2 : Below w1.heap.size w1 w5 := g2.trans (t3.mono g2.size)
          have t1 : Below wr.heap.size wr w5 := g1.trans (t2.mono g1.size)
          refine (rrow_any (rds5 (o1.below t3 (Nat.le_refl _)).rd (o2.below t4 (Nat.le_refl _)).rd (o3.below g5 (Nat.le_refl _)).rd o4.rd (hx.below t1 (Nat.le_refl _)) 22 _ rfl) (by omega) (by simp)).mono ?_
          rintro e w' ⟨v', rfl, ho, hb'⟩
          have s1 := t1.size
          exact ⟨v', rfl, ho.mono (by simp; omega), t1.trans (((Below.refl wr.heap.size w5).alloc s1 _).trans (hb'.mono (by simp; omega)))⟩
        have frm : ∀ (W : World) (u : Value), Below wr.heap.size wr W → Ow wr.heap.size W u (M.row [M.vi (M.crc b), M.vi b.length, M.vi 1, M.vi k, pkP b size k]) → Calls Try.prog 35 #[u] W fun e w' => ∃ v', e = .returned v' ∧ Ow wr.heap.size w' v' (pkI b size k) ∧ Below wr.heap.size wr w' := fun W u hW ho => by
          refine (rframe_any ho.rd (by omega)).mono ?_
          rintro e w' ⟨v', rfl, ho', hb'⟩
          rw [hpi]
          exact ⟨v', rfl, ho'.mono hW.size, hW.trans (hb'.mono hW.size)⟩
        have HS : Hid _ := And.intro fin (And.intro frm (And.intro htk (And.intro hul hK)))
        have n1 := fun (W : World) (hW : Below wr.heap.size wr W) => hv (M.crc b) W (by omega) hW
        have n2 := fun (W : World) (hW : Below wr.heap.size wr W) => hv b.length W (by omega) hW
        have n3 := fun (W : World) (hW : Below wr.heap.size wr W) => hv 1 W (by omega) hW
        have n4 := fun (W : World) (hW : Below wr.heap.size wr W) => hv k W (by omega) hW
        clear fin frm htk hul hK hpi hrl hv
        generalize hRW : M.row [M.vi (M.crc b), M.vi b.length, M.vi 1, M.vi k, pkP b size k] = RW at *
        generalize M.vi (M.crc b) = y1 at *
        generalize M.vi b.length = y2 at *
        generalize M.vi 1 = y3 at *
        generalize M.vi k = y4 at *
        generalize M.crc b = cr at *
        clear hRW
        obtain ⟨J, hJ⟩ : ∃ J, min (K + size) b.length = J := ⟨_, rfl⟩
        have hpc := hrk.piece K J (by omega) (by omega) (if c = K then ao else ao.map (fun a => a.add K)) ⟨fun h => by rw [if_pos h], fun h => by rw [if_neg h]⟩
        have epp : (b.take J).drop K = pkP b size k := by rw [← hJ, ← HS.out.2.2.2.2]; rfl
        rw [epp] at hpc
        have HPC : Hid (Rd wr (.slice (if c = K then ao else ao.map (fun a => a.add K)) (J - K) (c - K)) (pkP b size k)) := hpc
        clear hpc epp hrk
        have hcl : c ≤ 9223372036854775807 := by omega
        by_cases hmn : K + size ≤ b.length
        · obtain rfl : K + size = J := by omega
          have hmi : ¬ (b.length : Int) < ((K : Int) + (size : Int)) := by omega
          have hcK : ¬ c = K := by omega
          have hx := HPC.out
          rw [if_neg hcK] at hx
          obtain ⟨J, hJ'⟩ : ∃ J, K + size = J := ⟨_, rfl⟩
          rw [hJ'] at hx
          have hJi : (K : Int) + (size : Int) = (J : Int) := by omega
          have hJb : J ≤ b.length := by omega
          have hKJ : K ≤ J := by omega
          have hJi2 : (J : Int) ≤ (b.length : Int) := by omega
          have hJc : (J : Int) ≤ (c : Int) := by omega
          have hKJi : (K : Int) ≤ (J : Int) := by omega
          have hJ0 : (0 : Int) ≤ (J : Int) := by omega
          have hJcn : J ≤ c := by omega
          clear hJ hJ'
          go_wp2_with fail
          go_region_held3 (fun w' => True) (trivial) (first
            | (go_at_call 33; refine (n4 w4 hB4).mono ?_; rintro e w5 ⟨v5, rfl, ho5, hB5, hb5⟩; obtain ⟨a5, d5, rfl⟩ := ho5.shape)
            | (go_at_call 33; refine (n3 w3 hB3).mono ?_; rintro e w4 ⟨v4, rfl, ho4, hB4, hb4⟩; obtain ⟨a4, d4, rfl⟩ := ho4.shape)
            | (go_at_call 33; refine (n2 w2 hB2).mono ?_; rintro e w3 ⟨v3, rfl, ho3, hB3, hb3⟩; obtain ⟨a3, d3, rfl⟩ := ho3.shape)
            | (go_at_call 33; refine (n1 w1 hB1).mono ?_; rintro e w2 ⟨v2, rfl, ho2, hB2, hb2⟩; obtain ⟨a2, d2, rfl⟩ := ho2.shape)
            | (go_at_call 34; refine hsm.mono ?_; rintro e w1 ⟨rfl, hB1⟩)
            | fail)
          go_wp2_with fail
          refine (HS.out.1 w1 w2 w3 w4 w5 _ _ _ _ _ _ _ hB1 hb2 hb3 hb4 hb5 ho2 ho3 ho4 ho5 (hx.cong ?_ ?_ ?_)).mono ?_
          · first | rfl | (simp; done)
          · first | rfl | omega
          · first | rfl | omega
          rintro e w6 ⟨v6, rfl, ho6, hB6⟩
          go_wp2_with fail
          refine (HS.out.2.1 w6 v6 hB6 ho6).mono ?_
          rintro e w7 ⟨v7, rfl, ho7, hB7⟩
          have hul : us.length = k := HS.out.2.2.2.1
          have h24 := Try.info22
          obtain ⟨a7, c7, e7⟩ := ho7.shape
          subst e7
          have hos7 := hos.below hB7 (Nat.le_refl _)
          have hB7s : w.heap.size ≤ w7.heap.size := Nat.le_trans hB hB7.size
          have hlu : us.length ≤ 1048577 := by omega
          have HUL : Hid _ := hul
          clear hul
          go_wp2_with (first | (at_builtin; (refine wpList_app1 rfl _ _ 26 rfl w.heap.size 22 (.slice none 0 0) 24 Try.underlying26 h24 rfl _ us.length us rfl (World.ownsRow.alloc hos7.row _) _ _ _ rfl (cell_new1 _ _ _) rfl ?hmx ?hmy ?hmz ?_; rotate_right; intro v8 w8 ho8 hg8 hw8)) | fail)
          case hmx => unfold maxLen; omega
          case hmy => omega
          case hmz => rw [World.size_alloc]; omega
          have hos8 : Ows w.heap.size w8 v8 ((pkA b size).take k ++ [pkI b size k]) (us ++ [.slice a7 (pkI b size k).length c7]) := hos.snoc hB7 (Nat.le_refl _) ho7 hB ho8 hg8 hw8
          have hb8 : Below w.heap.size w w8 := (hbl.trans (hB7.mono hB)).trans (((Below.refl w.heap.size w7).alloc hB7s _).trans ((Below.refl w.heap.size _).grown hg8 (by rw [World.size_alloc]; omega) (fun q hq => (World.ownsRow.lt hos7.row q hq).1)))
          rw [HS.out.2.2.1] at hos8
          exact ⟨⟨k + 1, _, by omega, by go_num, hos8, by rw [List.length_append, HUL.out]; rfl, hb8⟩, by simp [intOf]; omega⟩
        · obtain rfl : b.length = J := by omega
          have hmi : (b.length : Int) < ((K : Int) + (size : Int)) := by omega
          by_cases hcK : c = K
          · subst hcK
            have hx := HPC.out
            rw [if_pos rfl] at hx
            go_wp2_with fail
            go_region_held3 (fun w' => True) (trivial) (first
              | (go_at_call 33; refine (n4 w4 hB4).mono ?_; rintro e w5 ⟨v5, rfl, ho5, hB5, hb5⟩; obtain ⟨a5, d5, rfl⟩ := ho5.shape)
              | (go_at_call 33; refine (n3 w3 hB3).mono ?_; rintro e w4 ⟨v4, rfl, ho4, hB4, hb4⟩; obtain ⟨a4, d4, rfl⟩ := ho4.shape)
              | (go_at_call 33; refine (n2 w2 hB2).mono ?_; rintro e w3 ⟨v3, rfl, ho3, hB3, hb3⟩; obtain ⟨a3, d3, rfl⟩ := ho3.shape)
              | (go_at_call 33; refine (n1 w1 hB1).mono ?_; rintro e w2 ⟨v2, rfl, ho2, hB2, hb2⟩; obtain ⟨a2, d2, rfl⟩ := ho2.shape)
              | (go_at_call 34; refine hsm.mono ?_; rintro e w1 ⟨rfl, hB1⟩)
              | fail)
            go_wp2_with fail
            refine (HS.out.1 w1 w2 w3 w4 w5 _ _ _ _ _ _ _ hB1 hb2 hb3 hb4 hb5 ho2 ho3 ho4 ho5 (hx.cong ?_ ?_ ?_)).mono ?_
            · first | rfl | (simp; done)
            · first | rfl | omega
            · first | rfl | omega
            rintro e w6 ⟨v6, rfl, ho6, hB6⟩
            go_wp2_with fail
            refine (HS.out.2.1 w6 v6 hB6 ho6).mono ?_
            rintro e w7 ⟨v7, rfl, ho7, hB7⟩
            have hul : us.length = k := HS.out.2.2.2.1
            have h24 := Try.info22
            obtain ⟨a7, c7, e7⟩ := ho7.shape
            subst e7
            have hos7 := hos.below hB7 (Nat.le_refl _)
            have hB7s : w.heap.size ≤ w7.heap.size := Nat.le_trans hB hB7.size
            have hlu : us.length ≤ 1048577 := by omega
            have HUL : Hid _ := hul
            clear hul
            go_wp2_with (first | (at_builtin; (refine wpList_app1 rfl _ _ 26 rfl w.heap.size 22 (.slice none 0 0) 24 Try.underlying26 h24 rfl _ us.length us rfl (World.ownsRow.alloc hos7.row _) _ _ _ rfl (cell_new1 _ _ _) rfl ?hmx ?hmy ?hmz ?_; rotate_right; intro v8 w8 ho8 hg8 hw8)) | fail)
            case hmx => unfold maxLen; omega
            case hmy => omega
            case hmz => rw [World.size_alloc]; omega
            have hos8 : Ows w.heap.size w8 v8 ((pkA b size).take k ++ [pkI b size k]) (us ++ [.slice a7 (pkI b size k).length c7]) := hos.snoc hB7 (Nat.le_refl _) ho7 hB ho8 hg8 hw8
            have hb8 : Below w.heap.size w w8 := (hbl.trans (hB7.mono hB)).trans (((Below.refl w.heap.size w7).alloc hB7s _).trans ((Below.refl w.heap.size _).grown hg8 (by rw [World.size_alloc]; omega) (fun q hq => (World.ownsRow.lt hos7.row q hq).1)))
            rw [HS.out.2.2.1] at hos8
            exact ⟨⟨k + 1, _, by omega, by go_num, hos8, by rw [List.length_append, HUL.out]; rfl, hb8⟩, by simp [intOf]; omega⟩
          · have hx := HPC.out
            rw [if_neg hcK] at hx
            go_wp2_with fail
            go_region_held3 (fun w' => True) (trivial) (first
              | (go_at_call 33; refine (n4 w4 hB4).mono ?_; rintro e w5 ⟨v5, rfl, ho5, hB5, hb5⟩; obtain ⟨a5, d5, rfl⟩ := ho5.shape)
              | (go_at_call 33; refine (n3 w3 hB3).mono ?_; rintro e w4 ⟨v4, rfl, ho4, hB4, hb4⟩; obtain ⟨a4, d4, rfl⟩ := ho4.shape)
              | (go_at_call 33; refine (n2 w2 hB2).mono ?_; rintro e w3 ⟨v3, rfl, ho3, hB3, hb3⟩; obtain ⟨a3, d3, rfl⟩ := ho3.shape)
              | (go_at_call 33; refine (n1 w1 hB1).mono ?_; rintro e w2 ⟨v2, rfl, ho2, hB2, hb2⟩; obtain ⟨a2, d2, rfl⟩ := ho2.shape)
              | (go_at_call 34; refine hsm.mono ?_; rintro e w1 ⟨rfl, hB1⟩)
              | fail)
            go_wp2_with fail
            refine (HS.out.1 w1 w2 w3 w4 w5 _ _ _ _ _ _ _ hB1 hb2 hb3 hb4 hb5 ho2 ho3 ho4 ho5 (hx.cong ?_ ?_ ?_)).mono ?_
            · first | rfl | (simp; done)
            · first | rfl | omega
            · first | rfl | omega
            rintro e w6 ⟨v6, rfl, ho6, hB6⟩
            go_wp2_with fail
            refine (HS.out.2.1 w6 v6 hB6 ho6).mono ?_
            rintro e w7 ⟨v7, rfl, ho7, hB7⟩
            have hul : us.length = k := HS.out.2.2.2.1
            have h24 := Try.info22
            obtain ⟨a7, c7, e7⟩ := ho7.shape
            subst e7
            have hos7 := hos.below hB7 (Nat.le_refl _)
            have hB7s : w.heap.size ≤ w7.heap.size := Nat.le_trans hB hB7.size
            have hlu : us.length ≤ 1048577 := by omega
            have HUL : Hid _ := hul
            clear hul
            go_wp2_with (first | (at_builtin; (refine wpList_app1 rfl _ _ 26 rfl w.heap.size 22 (.slice none 0 0) 24 Try.underlying26 h24 rfl _ us.length us rfl (World.ownsRow.alloc hos7.row _) _ _ _ rfl (cell_new1 _ _ _) rfl ?hmx ?hmy ?hmz ?_; rotate_right; intro v8 w8 ho8 hg8 hw8)) | fail)
            case hmx => unfold maxLen; omega
            case hmy => omega
            case hmz => rw [World.size_alloc]; omega
            have hos8 : Ows w.heap.size w8 v8 ((pkA b size).take k ++ [pkI b size k]) (us ++ [.slice a7 (pkI b size k).length c7]) := hos.snoc hB7 (Nat.le_refl _) ho7 hB ho8 hg8 hw8
            have hb8 : Below w.heap.size w w8 := (hbl.trans (hB7.mono hB)).trans (((Below.refl w.heap.size w7).alloc hB7s _).trans ((Below.refl w.heap.size _).grown hg8 (by rw [World.size_alloc]; omega) (fun q hq => (World.ownsRow.lt hos7.row q hq).1)))
            rw [HS.out.2.2.1] at hos8
            exact ⟨⟨k + 1, _, by omega, by go_num, hos8, by rw [List.length_append, HUL.out]; rfl, hb8⟩, by simp [intOf]; omega⟩
      · obtain rfl : k = 1 := by omega
        go_wp2_with fail
        go_ret2
        rw [List.take_of_length_le (by rw [pkA_len, HM.out]; exact Nat.le_refl _)] at hos
        exact ⟨_, us, rfl, hos, hbl⟩
  · obtain ⟨m, hm⟩ : ∃ m, max 1 Q = m := ⟨_, rfl⟩
    obtain rfl : Q = m := by omega
    rw [hm] at hM hmle hat
    have HM : Hid _ := hM
    clear hM hQ hm
    have hQi : ((Q : Int) == 0) = false := by simp; omega
    go_enter Try.func11, Try.ntmps11
    go_wp2_with fail
    go_loopw [7, 8, 9, 10] (fun out x _ _ wr => ∃ (k : Nat) (us : List Value), k ≤ Q ∧ x = .int .i64 k ∧ Ows w.heap.size wr out ((pkA b size).take k) us ∧ us.length = k ∧ Below w.heap.size w wr) (fun _ x _ _ _ => Q - (intOf x).toNat)
    case atStart => exact ⟨0, [], Nat.zero_le _, rfl, Ows.nil _ _, rfl, Below.refl _ _⟩
    case round =>
      obtain ⟨k, us, hk, rfl, hos, hul, hbl⟩ := hrel
      have hB := hbl.size
      obtain ⟨xo, yo, hoe⟩ : ∃ xo yo, _ = Value.slice xo k yo := by
        obtain ⟨xo, yo, e, _⟩ := hos.rds
        rw [← hos.len, hul] at e
        exact ⟨xo, yo, e⟩
      subst hoe
      by_cases hlt : k < Q
      · have hlt' : (k : Int) < (Q : Int) := by omega
        obtain ⟨K, hK⟩ : ∃ K, k * size = K := ⟨_, rfl⟩
        have hKl : K ≤ b.length := by rw [← hK]; exact hat k hlt
        have hKi : (k : Int) * (size : Int) = (K : Int) := by rw [← hK]; simp
        have hKw : IntKind.i64.wrap (K : Int) = (K : Int) := by rw [IntKind.wrap_i64]; omega
        have hK0 : (0 : Int) ≤ (K : Int) := by omega
        have hbc : (b.length : Int) ≤ (c : Int) := by omega
        have hKb : (K : Int) ≤ (b.length : Int) := by omega
        have hrk := hr'.below hbl (Nat.le_refl _)
        have hpi : pkI b size k = pkW (M.crc b) b.length Q k (pkP b size k) := by unfold pkI; rw [HM.out]
        have htk : (pkA b size).take k ++ [pkI b size k] = (pkA b size).take (k + 1) := by
          have hl2 : k < (pkA b size).length := by rw [pkA_len, HM.out]; exact hlt
          rw [List.take_succ_eq_append_getElem hl2, pkA_get b size k (by rw [HM.out]; exact hlt)]
        have hpl := pkP_len b size k
        have hrl := pkRow_len (M.crc b) b.length Q k (pkP b size k)
        have hsm : Calls Try.prog 34 #[.slice ao b.length c] wr.drew fun e w' => e = .returned (.int .u32 (M.crc b : Int)) ∧ Below wr.heap.size wr w' := by
          refine (rsum_any (hrk.below (pk_drew wr) (Nat.le_refl _))).mono ?_
          rintro e w' ⟨rfl, j, rfl⟩
          exact ⟨rfl, below_drewN (pk_drew wr) j⟩
        have hv : ∀ (x : Nat) (W : World), x < 18446744073709551616 → Below wr.heap.size wr W → Calls Try.prog 33 #[.int .u64 (x : Int)] W fun e w' => ∃ v', e = .returned v' ∧ Ow W.heap.size w' v' (M.vi x) ∧ Below wr.heap.size wr w' ∧ Below W.heap.size W w' := fun x W hx hW => by
          refine (rvarint_any x W hx).mono ?_
          rintro e w' ⟨v', rfl, ho, hb'⟩
          exact ⟨v', rfl, ho, hW.trans (hb'.mono hW.size), hb'⟩
        have hwc : IntKind.u64.wrap (M.crc b : Int) = (M.crc b : Int) := by rw [IntKind.wrap_u64]; omega
        have hwl : IntKind.u64.wrap (b.length : Int) = (b.length : Int) := by rw [IntKind.wrap_u64]; omega
        have hwk : IntKind.u64.wrap (k : Int) = (k : Int) := by rw [IntKind.wrap_u64]; omega
        have hwm : IntKind.u64.wrap (Q : Int) = (Q : Int) := by rw [IntKind.wrap_u64]; omega
        have fin : ∀ (w1 w2 w3 w4 w5 : World) (q1 q2 q3 q4 : Value) (x : Option Addr) (n' c' : Nat), Below wr.heap.size wr w1 → Below w1.heap.size w1 w2 → Below w2.heap.size w2 w3 → Below w3.heap.size w3 w4 → Below w4.heap.size w4 w5 → Ow w1.heap.size w2 q1 (M.vi (M.crc b)) → Ow w2.heap.size w3 q2 (M.vi b.length) → Ow w3.heap.size w4 q3 (M.vi Q) → Ow w4.heap.size w5 q4 (M.vi k) → Rd wr (.slice x n' c') (pkP b size k) →
            Calls Try.prog 36 #[.slice (some ⟨w5.heap.size, 0, none⟩) 5 5] (w5.alloc (.cells #[q1, q2, q3, q4, .slice x n' c'] 22)) fun e w' => ∃ v', e = .returned v' ∧ Ow wr.heap.size w' v' (M.row [M.vi (M.crc b), M.vi b.length, M.vi Q, M.vi k, pkP b size k]) ∧ Below wr.heap.size wr w' := fun w1 w2 w3 w4 w5 q1 q2 q3 q4 x n' c' g1 g2 g3 g4 g5 o1 o2 o3 o4 hx => by
          have t4 : Below w3.heap.size w3 w5 := g4.trans (g5.mono g4.size)
          have t3 : Below w2.heap.size w2 w5 := g3.trans (t4.mono g3.size)
          have t2 : Below w1.heap.size w1 w5 := g2.trans (t3.mono g2.size)
          have t1 : Below wr.heap.size wr w5 := g1.trans (t2.mono g1.size)
          refine (rrow_any (rds5 (o1.below t3 (Nat.le_refl _)).rd (o2.below t4 (Nat.le_refl _)).rd (o3.below g5 (Nat.le_refl _)).rd o4.rd (hx.below t1 (Nat.le_refl _)) 22 _ rfl) (by omega) (by simp)).mono ?_
          rintro e w' ⟨v', rfl, ho, hb'⟩
          have s1 := t1.size
          exact ⟨v', rfl, ho.mono (by simp; omega), t1.trans (((Below.refl wr.heap.size w5).alloc s1 _).trans (hb'.mono (by simp; omega)))⟩
        have frm : ∀ (W : World) (u : Value), Below wr.heap.size wr W → Ow wr.heap.size W u (M.row [M.vi (M.crc b), M.vi b.length, M.vi Q, M.vi k, pkP b size k]) → Calls Try.prog 35 #[u] W fun e w' => ∃ v', e = .returned v' ∧ Ow wr.heap.size w' v' (pkI b size k) ∧ Below wr.heap.size wr w' := fun W u hW ho => by
          refine (rframe_any ho.rd (by omega)).mono ?_
          rintro e w' ⟨v', rfl, ho', hb'⟩
          rw [hpi]
          exact ⟨v', rfl, ho'.mono hW.size, hW.trans (hb'.mono hW.size)⟩
        have HS : Hid _ := And.intro fin (And.intro frm (And.intro htk (And.intro hul hK)))
        have n1 := fun (W : World) (hW : Below wr.heap.size wr W) => hv (M.crc b) W (by omega) hW
        have n2 := fun (W : World) (hW : Below wr.heap.size wr W) => hv b.length W (by omega) hW
        have n3 := fun (W : World) (hW : Below wr.heap.size wr W) => hv Q W (by omega) hW
        have n4 := fun (W : World) (hW : Below wr.heap.size wr W) => hv k W (by omega) hW
        clear fin frm htk hul hK hpi hrl hv
        generalize hRW : M.row [M.vi (M.crc b), M.vi b.length, M.vi Q, M.vi k, pkP b size k] = RW at *
        generalize M.vi (M.crc b) = y1 at *
        generalize M.vi b.length = y2 at *
        generalize M.vi Q = y3 at *
        generalize M.vi k = y4 at *
        generalize M.crc b = cr at *
        clear hRW
        obtain ⟨J, hJ⟩ : ∃ J, min (K + size) b.length = J := ⟨_, rfl⟩
        have hpc := hrk.piece K J (by omega) (by omega) (if c = K then ao else ao.map (fun a => a.add K)) ⟨fun h => by rw [if_pos h], fun h => by rw [if_neg h]⟩
        have epp : (b.take J).drop K = pkP b size k := by rw [← hJ, ← HS.out.2.2.2.2]; rfl
        rw [epp] at hpc
        have HPC : Hid (Rd wr (.slice (if c = K then ao else ao.map (fun a => a.add K)) (J - K) (c - K)) (pkP b size k)) := hpc
        clear hpc epp hrk
        have hcl : c ≤ 9223372036854775807 := by omega
        by_cases hmn : K + size ≤ b.length
        · obtain rfl : K + size = J := by omega
          have hmi : ¬ (b.length : Int) < ((K : Int) + (size : Int)) := by omega
          have hcK : ¬ c = K := by omega
          have hx := HPC.out
          rw [if_neg hcK] at hx
          obtain ⟨J, hJ'⟩ : ∃ J, K + size = J := ⟨_, rfl⟩
          rw [hJ'] at hx
          have hJi : (K : Int) + (size : Int) = (J : Int) := by omega
          have hJb : J ≤ b.length := by omega
          have hKJ : K ≤ J := by omega
          have hJi2 : (J : Int) ≤ (b.length : Int) := by omega
          have hJc : (J : Int) ≤ (c : Int) := by omega
          have hKJi : (K : Int) ≤ (J : Int) := by omega
          have hJ0 : (0 : Int) ≤ (J : Int) := by omega
          have hJcn : J ≤ c := by omega
          clear hJ hJ'
          go_wp2_with fail
          go_region_held3 (fun w' => True) (trivial) (first
            | (go_at_call 33; refine (n4 w4 hB4).mono ?_; rintro e w5 ⟨v5, rfl, ho5, hB5, hb5⟩; obtain ⟨a5, d5, rfl⟩ := ho5.shape)
            | (go_at_call 33; refine (n3 w3 hB3).mono ?_; rintro e w4 ⟨v4, rfl, ho4, hB4, hb4⟩; obtain ⟨a4, d4, rfl⟩ := ho4.shape)
            | (go_at_call 33; refine (n2 w2 hB2).mono ?_; rintro e w3 ⟨v3, rfl, ho3, hB3, hb3⟩; obtain ⟨a3, d3, rfl⟩ := ho3.shape)
            | (go_at_call 33; refine (n1 w1 hB1).mono ?_; rintro e w2 ⟨v2, rfl, ho2, hB2, hb2⟩; obtain ⟨a2, d2, rfl⟩ := ho2.shape)
            | (go_at_call 34; refine hsm.mono ?_; rintro e w1 ⟨rfl, hB1⟩)
            | fail)
          go_wp2_with fail
          refine (HS.out.1 w1 w2 w3 w4 w5 _ _ _ _ _ _ _ hB1 hb2 hb3 hb4 hb5 ho2 ho3 ho4 ho5 (hx.cong ?_ ?_ ?_)).mono ?_
          · first | rfl | (simp; done)
          · first | rfl | omega
          · first | rfl | omega
          rintro e w6 ⟨v6, rfl, ho6, hB6⟩
          go_wp2_with fail
          refine (HS.out.2.1 w6 v6 hB6 ho6).mono ?_
          rintro e w7 ⟨v7, rfl, ho7, hB7⟩
          have hul : us.length = k := HS.out.2.2.2.1
          have h24 := Try.info22
          obtain ⟨a7, c7, e7⟩ := ho7.shape
          subst e7
          have hos7 := hos.below hB7 (Nat.le_refl _)
          have hB7s : w.heap.size ≤ w7.heap.size := Nat.le_trans hB hB7.size
          have hlu : us.length ≤ 1048577 := by omega
          have HUL : Hid _ := hul
          clear hul
          go_wp2_with (first | (at_builtin; (refine wpList_app1 rfl _ _ 26 rfl w.heap.size 22 (.slice none 0 0) 24 Try.underlying26 h24 rfl _ us.length us rfl (World.ownsRow.alloc hos7.row _) _ _ _ rfl (cell_new1 _ _ _) rfl ?hmx ?hmy ?hmz ?_; rotate_right; intro v8 w8 ho8 hg8 hw8)) | fail)
          case hmx => unfold maxLen; omega
          case hmy => omega
          case hmz => rw [World.size_alloc]; omega
          have hos8 : Ows w.heap.size w8 v8 ((pkA b size).take k ++ [pkI b size k]) (us ++ [.slice a7 (pkI b size k).length c7]) := hos.snoc hB7 (Nat.le_refl _) ho7 hB ho8 hg8 hw8
          have hb8 : Below w.heap.size w w8 := (hbl.trans (hB7.mono hB)).trans (((Below.refl w.heap.size w7).alloc hB7s _).trans ((Below.refl w.heap.size _).grown hg8 (by rw [World.size_alloc]; omega) (fun q hq => (World.ownsRow.lt hos7.row q hq).1)))
          rw [HS.out.2.2.1] at hos8
          exact ⟨⟨k + 1, _, by omega, by go_num, hos8, by rw [List.length_append, HUL.out]; rfl, hb8⟩, by simp [intOf]; omega⟩
        · obtain rfl : b.length = J := by omega
          have hmi : (b.length : Int) < ((K : Int) + (size : Int)) := by omega
          by_cases hcK : c = K
          · subst hcK
            have hx := HPC.out
            rw [if_pos rfl] at hx
            go_wp2_with fail
            go_region_held3 (fun w' => True) (trivial) (first
              | (go_at_call 33; refine (n4 w4 hB4).mono ?_; rintro e w5 ⟨v5, rfl, ho5, hB5, hb5⟩; obtain ⟨a5, d5, rfl⟩ := ho5.shape)
              | (go_at_call 33; refine (n3 w3 hB3).mono ?_; rintro e w4 ⟨v4, rfl, ho4, hB4, hb4⟩; obtain ⟨a4, d4, rfl⟩ := ho4.shape)
              | (go_at_call 33; refine (n2 w2 hB2).mono ?_; rintro e w3 ⟨v3, rfl, ho3, hB3, hb3⟩; obtain ⟨a3, d3, rfl⟩ := ho3.shape)
              | (go_at_call 33; refine (n1 w1 hB1).mono ?_; rintro e w2 ⟨v2, rfl, ho2, hB2, hb2⟩; obtain ⟨a2, d2, rfl⟩ := ho2.shape)
              | (go_at_call 34; refine hsm.mono ?_; rintro e w1 ⟨rfl, hB1⟩)
              | fail)
            go_wp2_with fail
            refine (HS.out.1 w1 w2 w3 w4 w5 _ _ _ _ _ _ _ hB1 hb2 hb3 hb4 hb5 ho2 ho3 ho4 ho5 (hx.cong ?_ ?_ ?_)).mono ?_
            · first | rfl | (simp; done)
            · first | rfl | omega
            · first | rfl | omega
            rintro e w6 ⟨v6, rfl, ho6, hB6⟩
            go_wp2_with fail
            refine (HS.out.2.1 w6 v6 hB6 ho6).mono ?_
            rintro e w7 ⟨v7, rfl, ho7, hB7⟩
            have hul : us.length = k := HS.out.2.2.2.1
            have h24 := Try.info22
            obtain ⟨a7, c7, e7⟩ := ho7.shape
            subst e7
            have hos7 := hos.below hB7 (Nat.le_refl _)
            have hB7s : w.heap.size ≤ w7.heap.size := Nat.le_trans hB hB7.size
            have hlu : us.length ≤ 1048577 := by omega
            have HUL : Hid _ := hul
            clear hul
            go_wp2_with (first | (at_builtin; (refine wpList_app1 rfl _ _ 26 rfl w.heap.size 22 (.slice none 0 0) 24 Try.underlying26 h24 rfl _ us.length us rfl (World.ownsRow.alloc hos7.row _) _ _ _ rfl (cell_new1 _ _ _) rfl ?hmx ?hmy ?hmz ?_; rotate_right; intro v8 w8 ho8 hg8 hw8)) | fail)
            case hmx => unfold maxLen; omega
            case hmy => omega
            case hmz => rw [World.size_alloc]; omega
            have hos8 : Ows w.heap.size w8 v8 ((pkA b size).take k ++ [pkI b size k]) (us ++ [.slice a7 (pkI b size k).length c7]) := hos.snoc hB7 (Nat.le_refl _) ho7 hB ho8 hg8 hw8
            have hb8 : Below w.heap.size w w8 := (hbl.trans (hB7.mono hB)).trans (((Below.refl w.heap.size w7).alloc hB7s _).trans ((Below.refl w.heap.size _).grown hg8 (by rw [World.size_alloc]; omega) (fun q hq => (World.ownsRow.lt hos7.row q hq).1)))
            rw [HS.out.2.2.1] at hos8
            exact ⟨⟨k + 1, _, by omega, by go_num, hos8, by rw [List.length_append, HUL.out]; rfl, hb8⟩, by simp [intOf]; omega⟩
          · have hx := HPC.out
            rw [if_neg hcK] at hx
            go_wp2_with fail
            go_region_held3 (fun w' => True) (trivial) (first
              | (go_at_call 33; refine (n4 w4 hB4).mono ?_; rintro e w5 ⟨v5, rfl, ho5, hB5, hb5⟩; obtain ⟨a5, d5, rfl⟩ := ho5.shape)
              | (go_at_call 33; refine (n3 w3 hB3).mono ?_; rintro e w4 ⟨v4, rfl, ho4, hB4, hb4⟩; obtain ⟨a4, d4, rfl⟩ := ho4.shape)
              | (go_at_call 33; refine (n2 w2 hB2).mono ?_; rintro e w3 ⟨v3, rfl, ho3, hB3, hb3⟩; obtain ⟨a3, d3, rfl⟩ := ho3.shape)
              | (go_at_call 33; refine (n1 w1 hB1).mono ?_; rintro e w2 ⟨v2, rfl, ho2, hB2, hb2⟩; obtain ⟨a2, d2, rfl⟩ := ho2.shape)
              | (go_at_call 34; refine hsm.mono ?_; rintro e w1 ⟨rfl, hB1⟩)
              | fail)
            go_wp2_with fail
            refine (HS.out.1 w1 w2 w3 w4 w5 _ _ _ _ _ _ _ hB1 hb2 hb3 hb4 hb5 ho2 ho3 ho4 ho5 (hx.cong ?_ ?_ ?_)).mono ?_
            · first | rfl | (simp; done)
            · first | rfl | omega
            · first | rfl | omega
            rintro e w6 ⟨v6, rfl, ho6, hB6⟩
            go_wp2_with fail
            refine (HS.out.2.1 w6 v6 hB6 ho6).mono ?_
            rintro e w7 ⟨v7, rfl, ho7, hB7⟩
            have hul : us.length = k := HS.out.2.2.2.1
            have h24 := Try.info22
            obtain ⟨a7, c7, e7⟩ := ho7.shape
            subst e7
            have hos7 := hos.below hB7 (Nat.le_refl _)
            have hB7s : w.heap.size ≤ w7.heap.size := Nat.le_trans hB hB7.size
            have hlu : us.length ≤ 1048577 := by omega
            have HUL : Hid _ := hul
            clear hul
            go_wp2_with (first | (at_builtin; (refine wpList_app1 rfl _ _ 26 rfl w.heap.size 22 (.slice none 0 0) 24 Try.underlying26 h24 rfl _ us.length us rfl (World.ownsRow.alloc hos7.row _) _ _ _ rfl (cell_new1 _ _ _) rfl ?hmx ?hmy ?hmz ?_; rotate_right; intro v8 w8 ho8 hg8 hw8)) | fail)
            case hmx => unfold maxLen; omega
            case hmy => omega
            case hmz => rw [World.size_alloc]; omega
            have hos8 : Ows w.heap.size w8 v8 ((pkA b size).take k ++ [pkI b size k]) (us ++ [.slice a7 (pkI b size k).length c7]) := hos.snoc hB7 (Nat.le_refl _) ho7 hB ho8 hg8 hw8
            have hb8 : Below w.heap.size w w8 := (hbl.trans (hB7.mono hB)).trans (((Below.refl w.heap.size w7).alloc hB7s _).trans ((Below.refl w.heap.size _).grown hg8 (by rw [World.size_alloc]; omega) (fun q hq => (World.ownsRow.lt hos7.row q hq).1)))
            rw [HS.out.2.2.1] at hos8
            exact ⟨⟨k + 1, _, by omega, by go_num, hos8, by rw [List.length_append, HUL.out]; rfl, hb8⟩, by simp [intOf]; omega⟩
      · obtain rfl : k = Q := by omega
        go_wp2_with fail
        go_ret2
        rw [List.take_of_length_le (by rw [pkA_len, HM.out]; exact Nat.le_refl _)] at hos
        exact ⟨_, us, rfl, hos, hbl⟩
end Go.Proofs.Ytlajncjamafomaa
