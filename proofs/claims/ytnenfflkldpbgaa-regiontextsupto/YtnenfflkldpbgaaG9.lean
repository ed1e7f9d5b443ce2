/- The document's Encode of a region. -/
import Derived.Test.YtnenfflkldpbgaaG6
import Derived.Test.YtnenfflkldpbgaaG4
import Derived.Test.YtnenfflkldpbgaaG2
namespace Go.Proofs.Ytnenfflkldpbgaa
open Go.RowKit
set_option linter.unusedVariables false
set_option maxRecDepth 100000

set_option maxHeartbeats 4000000 in
theorem rencR_any {id cf vr : UInt64} {sv ev pv : Value} {s e : List UInt8} {ps : List Pe} {w : World} (hs : Rd w sv s) (he : Rd w ev e) (hp : RdPe w pv ps) (hok : ∀ p ∈ ps, okPe p) (hsl : s.length ≤ 268435456) (hel : e.length ≤ 268435456) (hpl : ps.length ≤ 268435456) :
    Calls Try.prog 31 #[.agg #[.int .u64 (id.toNat : Int), sv, ev, .int .u64 (cf.toNat : Int), .int .u64 (vr.toNat : Int), pv]] w fun x w' => ∃ v', x = .returned v' ∧ Ow w.heap.size w' v' (rnc (id, s, e, cf, vr, ps)) ∧ Below w.heap.size w w' := by
  have hrl := rnc_len2 (id, s, e, cf, vr, ps)
  simp only [] at hrl
  have HRS : Hid (Rd w sv s ∧ Rd w ev e ∧ RdPe w pv ps) := ⟨hs, he, hp⟩
  obtain ⟨sa, sc, rfl⟩ := hs.shp
  obtain ⟨ea, ec, rfl⟩ := he.shp
  obtain ⟨pa, pk, rfl, hpk1, hpk2⟩ := hp.shape
  clear hs he hp
  have hB0 : Below w.heap.size w (w.alloc (.cells #[.int .u64 (id.toNat : Int), .slice sa s.length sc, .slice ea e.length ec, .int .u64 (cf.toNat : Int), .int .u64 (vr.toNat : Int), .slice pa ps.length pk] 28)) := u_al w _
  have hx0 : (w.alloc (.cells #[.int .u64 (id.toNat : Int), .slice sa s.length sc, .slice ea e.length ec, .int .u64 (cf.toNat : Int), .int .u64 (vr.toNat : Int), .slice pa ps.length pk] 28)).heap[w.heap.size]? = some (.cells #[.int .u64 (id.toNat : Int), .slice sa s.length sc, .slice ea e.length ec, .int .u64 (cf.toNat : Int), .int .u64 (vr.toNat : Int), .slice pa ps.length pk] 28 (0, 0)) := heap_alloc_new w _
  have n1 : ∀ W, Calls Try.prog 56 #[.int .u64 (id.toNat : Int)] W fun e w' => ∃ v', e = .returned v' ∧ Ow W.heap.size w' v' (M.vi id.toNat) ∧ Below W.heap.size W w' := fun W => rvarint_any id.toNat W id.toNat_lt
  have n2 : ∀ W, Calls Try.prog 56 #[.int .u64 (cf.toNat : Int)] W fun e w' => ∃ v', e = .returned v' ∧ Ow W.heap.size w' v' (M.vi cf.toNat) ∧ Below W.heap.size W w' := fun W => rvarint_any cf.toNat W cf.toNat_lt
  have n3 : ∀ W, Calls Try.prog 56 #[.int .u64 (vr.toNat : Int)] W fun e w' => ∃ v', e = .returned v' ∧ Ow W.heap.size w' v' (M.vi vr.toNat) ∧ Below W.heap.size W w' := fun W => rvarint_any vr.toNat W vr.toNat_lt
  have hrn : rnc (id, s, e, cf, vr, ps) = M.row ([M.vi id.toNat, s, e, M.vi cf.toNat, M.vi vr.toNat] ++ ps.map pnc) := rfl
  rw [hrn] at hrl ⊢
  clear hrn
  generalize M.vi id.toNat = vi1 at *
  generalize M.vi cf.toNat = vi2 at *
  generalize M.vi vr.toNat = vi3 at *
  go_enter Try.func31, Try.ntmps31
  go_wp2_with fail
  generalize (w.alloc (.cells #[.int .u64 (id.toNat : Int), .slice sa s.length sc, .slice ea e.length ec, .int .u64 (cf.toNat : Int), .int .u64 (vr.toNat : Int), .slice pa ps.length pk] 28)) = W0 at *
  have kc : ∀ W, Below W0.heap.size W0 W → W.heap[w.heap.size]? = some (.cells #[.int .u64 (id.toNat : Int), .slice sa s.length sc, .slice ea e.length ec, .int .u64 (cf.toNat : Int), .int .u64 (vr.toNat : Int), .slice pa ps.length pk] 28 (0, 0)) := fun W hW => (hW.block _ (lt_of_some hx0)).trans hx0
  obtain ⟨a0, a1, a2, a3, a4, a5, _⟩ := cells6 hx0
  have HKC : Hid _ := kc
  clear kc
  go_region_held3 (fun w' => w'.cell? ⟨w.heap.size, 0, none⟩ = some (.int .u64 (id.toNat : Int)) ∧ w'.cell? ⟨w.heap.size, 1, none⟩ = some (.slice sa s.length sc) ∧ w'.cell? ⟨w.heap.size, 2, none⟩ = some (.slice ea e.length ec) ∧ w'.cell? ⟨w.heap.size, 3, none⟩ = some (.int .u64 (cf.toNat : Int)) ∧ w'.cell? ⟨w.heap.size, 4, none⟩ = some (.int .u64 (vr.toNat : Int))) (go_keep) (first
    | (go_at_call 56; refine (n3 w2).mono ?_; rintro e w3 ⟨v3, rfl, ho3, hb3⟩; obtain ⟨b3, d3, rfl⟩ := ho3.shape; have hB3 := hB2.trans (hb3.mono hB2.size); obtain ⟨u0, u1, u2, u3, u4, u5, _⟩ := cells6 (HKC.out w3 hB3))
    | (go_at_call 56; refine (n2 w1).mono ?_; rintro e w2 ⟨v2, rfl, ho2, hb2⟩; obtain ⟨b2, d2, rfl⟩ := ho2.shape; have hB2 := hb1.trans (hb2.mono hb1.size); obtain ⟨t0, t1, t2, t3, t4, t5, _⟩ := cells6 (HKC.out w2 hB2))
    | (go_at_call 56; refine (n1 W0.drew).mono ?_; rintro e w1 ⟨v1, rfl, ho1, hb1'⟩; have hb1 : Below W0.heap.size W0 w1 := (u_drew W0).trans hb1'; obtain ⟨b1, d1, rfl⟩ := ho1.shape; obtain ⟨s0, s1, s2, s3, s4, s5, _⟩ := cells6 (HKC.out w1 hb1))
    | fail)
  have hW3 : Below w.heap.size w w3 := hB0.trans (hB3.mono hB0.size)
  have r1 : Rd w3 (.slice b1 vi1.length d1) vi1 := (ho1.below (hb2.trans (hb3.mono hb2.size)) (Nat.le_refl _)).rd
  have r2 : Rd w3 (.slice b2 vi2.length d2) vi2 := (ho2.below hb3 (Nat.le_refl _)).rd
  have HO4 : Hid _ := owf5 (B := W0.heap.size) r1 (HRS.out.1.below hW3 (Nat.le_refl _)) (HRS.out.2.1.below hW3 (Nat.le_refl _)) r2 ho3.rd hB3.size w3.heap.size rfl
  have hb34 := u_al w3 (.cells #[.slice b1 vi1.length d1, .slice sa s.length sc, .slice ea e.length ec, .slice b2 vi2.length d2, .slice b3 vi3.length d3] 23)
  have hW4 : Below w.heap.size w (w3.alloc (.cells #[.slice b1 vi1.length d1, .slice sa s.length sc, .slice ea e.length ec, .slice b2 vi2.length d2, .slice b3 vi3.length d3] 23)) := hW3.trans (hb34.mono hW3.size)
  have hB4 : Below W0.heap.size W0 (w3.alloc (.cells #[.slice b1 vi1.length d1, .slice sa s.length sc, .slice ea e.length ec, .slice b2 vi2.length d2, .slice b3 vi3.length d3] 23)) := hB3.trans (hb34.mono hB3.size)
  obtain ⟨g0, g1, g2, g3, g4, g5, _⟩ := cells6 (HKC.out _ hB4)
  clear a0 a1 a2 a3 a4 a5 s0 s1 s2 s3 s4 s5 t0 t1 t2 t3 t4 t5 u0 u1 u2 u3 u4 u5 r1 r2 n1 n2 n3 ho1 ho2 ho3 hb34 hx0
  generalize hW4e : (w3.alloc (.cells #[.slice b1 vi1.length d1, .slice sa s.length sc, .slice ea e.length ec, .slice b2 vi2.length d2, .slice b3 vi3.length d3] 23)) = W4 at *
  clear hW4e
  have h24 := Try.infoBR
  go_wp2_with fail
  go_loopw [3, 4, 5, 6] (fun fv i _ _ wr => ∃ (k : Nat) (us : List Value), k ≤ ps.length ∧ i = .int .i64 k ∧ OwF W0.heap.size wr fv ([vi1, s, e, vi2, vi3] ++ (ps.take k).map pnc) us ∧ Below W0.heap.size W0 wr) (fun _ i _ _ _ => ps.length - (intOf i).toNat)
  case atStart => exact ⟨0, _, Nat.zero_le _, rfl, by simpa using HO4.out, hB4⟩
  case round =>
    obtain ⟨k, us, hk, rfl, hos, hb0⟩ := hrel
    have hb : Below w.heap.size w wr := hB0.trans (hb0.mono hB0.size)
    have hB := hb.size
    clear g0 g1 g2 g3 g4 g5
    obtain ⟨_, _, _, _, _, g5, _⟩ := cells6 (HKC.out wr hb0)
    by_cases hlt : k < ps.length
    · obtain ⟨ao', c', e1, _, _, _, h4⟩ := HRS.out.2.2.below hb (Nat.le_refl _)
      simp only [Value.slice.injEq, true_and] at e1
      obtain ⟨rfl, rfl⟩ := e1
      obtain ⟨a, rfl, q0, q1, q2⟩ := h4 k _ (List.getElem?_eq_getElem hlt)
      clear h4
      have HV : Hid _ := flds_take [vi1, s, e, vi2, vi3] ps k hlt
      have hpo := hok ps[k] (List.getElem_mem hlt)
      have hul : us.length = k + 5 := by have := hos.len; simp at this; omega
      have hul2 : us.length ≤ 4294967296 := by omega
      clear hul
      generalize ps[k] = p at *
      obtain ⟨p0, p1, p2⟩ := p
      obtain ⟨hp1, hp2⟩ := hpo
      simp only [] at hp1 hp2 q0 q1 q2
      obtain ⟨m, rfl⟩ := Int.eq_ofNat_of_zero_le hp1
      have hm : m < 2147483648 := by omega
      clear hp1 hp2
      have hkl : (k : Int) < (ps.length : Int) := by omega
      have hwm : IntKind.u64.wrap (m : Int) = (m : Int) := by rw [IntKind.wrap_u64]; omega
      have hpl2 := pnc_len (p0, (m : Int), p2)
      have HPN : Hid (pnc (p0, (m : Int), p2) = M.row [M.vi p0.toNat, M.vi m, M.vi (lrn p2)]) := pnc_at p0 m p2
      rw [pnc_at] at hpl2
      have n1 : ∀ W, Calls Try.prog 56 #[.int .u64 (p0.toNat : Int)] W fun e w' => ∃ v', e = .returned v' ∧ Ow W.heap.size w' v' (M.vi p0.toNat) ∧ Below W.heap.size W w' := fun W => rvarint_any p0.toNat W p0.toNat_lt
      have n2 : ∀ W, Calls Try.prog 56 #[.int .u64 (m : Int)] W fun e w' => ∃ v', e = .returned v' ∧ Ow W.heap.size w' v' (M.vi m) ∧ Below W.heap.size W w' := fun W => rvarint_any m W (by omega)
      have n3 : ∀ W, Calls Try.prog 56 #[.int .u64 (lrn p2 : Int)] W fun e w' => ∃ v', e = .returned v' ∧ Ow W.heap.size w' v' (M.vi (lrn p2)) ∧ Below W.heap.size W w' := fun W => rvarint_any (lrn p2) W (by unfold lrn; split <;> omega)
      have hal := u_al wr (.cells #[.int .u64 (p0.toNat : Int), .int .i64 (m : Int), .bool p2] 31)
      have hbp : (wr.alloc (.cells #[.int .u64 (p0.toNat : Int), .int .i64 (m : Int), .bool p2] 31)).heap[wr.heap.size]? = _ := heap_alloc_new wr _
      have hosA := hos.below hal (Nat.le_refl _)
      have hbA := hb.trans (hal.mono hB)
      have hb0A := hb0.trans (hal.mono hb0.size)
      obtain ⟨e0, e1, e2, _⟩ := cells3 hbp
      obtain ⟨xo, xn, yo, hfv⟩ : ∃ a n c, u3 = .slice a n c := by obtain ⟨a, c, q, _⟩ := hos.rds; exact ⟨_, _, _, q⟩
      subst hfv
      have hmain : ∀ (wA w1 w2 w3 : World) (p q r : Value), Below wA.heap.size wA w1 → Below w1.heap.size w1 w2 → Below w2.heap.size w2 w3 → Ow wA.heap.size w1 p (M.vi p0.toNat) → Ow w1.heap.size w2 q (M.vi m) → Ow w2.heap.size w3 r (M.vi (lrn p2)) →
          Calls Try.prog 57 #[.slice (some ⟨w3.heap.size, 0, none⟩) 3 3] (w3.alloc (.cells #[p, q, r] 23)) fun e w' => ∃ v', e = .returned v' ∧ Ow wA.heap.size w' v' (pnc (p0, (m : Int), p2)) ∧ Below wA.heap.size wA w' := fun wA w1 w2 w3 p q r g1 g2 g3 o1 o2 o3 => by
        rw [HPN.out]
        refine (rrow_any (rds3 (o1.below (g2.trans (g3.mono g2.size)) (Nat.le_refl _)).rd (o2.below g3 (Nat.le_refl _)).rd o3.rd 23 _ rfl) (by omega) (by simp)).mono ?_
        rintro e w' ⟨v', rfl, ho, hb⟩
        have b0 : Below wA.heap.size wA w3 := g1.trans ((g2.mono g1.size).trans (g3.mono (Nat.le_trans g1.size g2.size)))
        have s0 := b0.size
        exact ⟨v', rfl, ho.mono (by simp; omega), b0.trans (((Below.refl wA.heap.size w3).alloc s0 _).trans (hb.mono (by simp; omega)))⟩
      have HM : Hid _ := hmain
      clear hmain
      have KP : Hid (∀ W, Below (wr.alloc (.cells #[.int .u64 (p0.toNat : Int), .int .i64 (m : Int), .bool p2] 31)).heap.size (wr.alloc (.cells #[.int .u64 (p0.toNat : Int), .int .i64 (m : Int), .bool p2] 31)) W → W.heap[wr.heap.size]? = some (.cells #[.int .u64 (p0.toNat : Int), .int .i64 (m : Int), .bool p2] 31 (0, 0))) := fun W hW => (hW.block _ (lt_of_some hbp)).trans hbp
      have hszA : wr.heap.size < (wr.alloc (.cells #[.int .u64 (p0.toNat : Int), .int .i64 (m : Int), .bool p2] 31)).heap.size := lt_of_some hbp
      have hrowlt := World.ownsRow.lt hos.row
      have fin : ∀ (w4 w5 : World) (u4 v5 : Value), Below (wr.alloc (.cells #[.int .u64 (p0.toNat : Int), .int .i64 (m : Int), .bool p2] 31)).heap.size (wr.alloc (.cells #[.int .u64 (p0.toNat : Int), .int .i64 (m : Int), .bool p2] 31)) w4 → Ow (wr.alloc (.cells #[.int .u64 (p0.toNat : Int), .int .i64 (m : Int), .bool p2] 31)).heap.size w4 u4 (pnc (p0, (m : Int), p2)) → w5.ownsRow W0.heap.size 23 1 v5 (us.length + 1) (us ++ [u4]) → (w4.alloc (.cells #[u4] 23)).grownBy w5 (Value.slice xo xn yo).ownBlock → (v5.ownBlock = (Value.slice xo xn yo).ownBlock ∨ v5.ownBlock = some (w4.alloc (.cells #[u4] 23)).heap.size) →
          OwF W0.heap.size w5 v5 ([vi1, s, e, vi2, vi3] ++ (ps.take (k + 1)).map pnc) (us ++ [u4]) ∧ Below W0.heap.size W0 w5 ∧ w5.heap[wr.heap.size]? = some (.cells #[.int .u64 (p0.toNat : Int), .int .i64 (m : Int), .bool p2] 31 (0, 0)) := fun w4 w5 u4 v5 hb4 hu4 ho5 hg5 hv5 => by
        have hos4 := hosA.below hb4 (Nat.le_refl _)
        have hal4 := u_al w4 (.cells #[u4] 23)
        have hb04 := hb0A.trans (hb4.mono hb0A.size)
        have hos7 := (hos4.below hal4 (Nat.le_refl _)).snoc (hu4.rd.below hal4 (Nat.le_refl _)) (fun _ b e q => by have h1 := (World.ownsRow.lt hu4 b e).1; have h2 := (hrowlt b q).2; omega) ho5 hg5 hv5
        have hk4 := KP.out w4 hb4
        rw [HV.out]
        refine ⟨hos7, hb04.trans (((Below.refl W0.heap.size w4).alloc hb04.size _).trans ((Below.refl W0.heap.size _).grown hg5 (by rw [World.size_alloc]; have := hb04.size; omega) (fun k hk => (World.ownsRow.lt hos4.row k hk).1))), ?_⟩
        rw [hg5.block wr.heap.size (by rw [World.size_alloc]; have := lt_of_some hk4; omega) (fun q => by have := (hrowlt _ q.symm).2; omega)]
        exact (hal4.block _ (lt_of_some hk4)).trans hk4
      have HFIN : Hid _ := fin
      have HROW : Hid ((wr.alloc (.cells #[.int .u64 (p0.toNat : Int), .int .i64 (m : Int), .bool p2] 31)).ownsRow W0.heap.size 23 1 (.slice xo xn yo) us.length us) := hosA.row
      have hW0A : W0.heap.size ≤ (wr.alloc (.cells #[.int .u64 (p0.toNat : Int), .int .i64 (m : Int), .bool p2] 31)).heap.size := hb0A.size
      clear fin hosA hos hbA hbp hal hb0A hrowlt HPN hpl2
      generalize pnc (p0, (m : Int), p2) = pn at *
      generalize M.vi p0.toNat = vp at *
      generalize M.vi m = vm at *
      have HLR : Hid (lrn p2 = if p2 then 1 else 0) := rfl
      generalize lrn p2 = ln at *
      generalize M.vi ln = vl at *
      cases p2 with
      | true =>
        obtain rfl : ln = 1 := HLR.out
        go_wp2_with fail
        generalize (wr.alloc (.cells #[.int .u64 (p0.toNat : Int), .int .i64 (m : Int), .bool true] 31)) = wA at *
        go_region_held3 (fun w' => w'.cell? ⟨wr.heap.size, 0, none⟩ = some (.int .u64 (p0.toNat : Int)) ∧ w'.cell? ⟨wr.heap.size, 1, none⟩ = some (.int .i64 (m : Int))) (go_keep) (first
          | (refine step_app1 rfl _ _ 53 rfl W0.heap.size 23 (.slice none 0 0) 24 Try.underlying53 h24 rfl (.slice xo xn yo) us.length us rfl (World.ownsRow.alloc (ownsRow_bel HROW.out kb4 (Nat.le_refl _)) _) _ _ (.slice j4a pn.length j4d) rfl (cell_new1 y4 _ _) rfl (by unfold maxLen; omega) (by omega) (by rw [World.size_alloc]; have := kb4.size; omega) ?_; intro v5 y5 ko5 hg5 hv5; obtain ⟨hfa, hfb, hfc⟩ := HFIN.out y4 y5 _ v5 kb4 ko4 ko5 hg5 hv5; obtain ⟨j0, j1, j2, _⟩ := cells3 hfc; obtain ⟨a5, m5, c5, rfl⟩ : ∃ a m c, v5 = .slice a m c := (by obtain ⟨a, c, q, _⟩ := hfa.rds; exact ⟨_, _, _, q⟩))
          | (go_at_call 57; refine (HM.out wA y1 y2 y3 _ _ _ kb1 kb2 kb3 ko1 ko2 ko3).mono ?_; rintro e y4 ⟨v4, rfl, ko4, kb4⟩; obtain ⟨j4a, j4d, rfl⟩ := ko4.shape; obtain ⟨i0, i1, i2, _⟩ := cells3 (KP.out y4 kb4))
          | (go_at_call 56; refine (n3 y2).mono ?_; rintro e y3 ⟨v3, rfl, ko3, kb3⟩; obtain ⟨j3a, j3d, rfl⟩ := ko3.shape; obtain ⟨h0, h1, h2, _⟩ := cells3 (KP.out y3 (kB2.trans (kb3.mono kB2.size))))
          | (go_at_call 56; refine (n2 y1).mono ?_; rintro e y2 ⟨v2, rfl, ko2, kb2⟩; obtain ⟨j2a, j2d, rfl⟩ := ko2.shape; have kB2 := kb1.trans (kb2.mono kb1.size); obtain ⟨t0, t1, t2, _⟩ := cells3 (KP.out y2 kB2))
          | (go_at_call 56; refine (n1 wA.drew).mono ?_; rintro e y1 ⟨v1, rfl, ko1, kb1'⟩; have kb1 : Below wA.heap.size wA y1 := (u_drew wA).trans kb1'; obtain ⟨j1a, j1d, rfl⟩ := ko1.shape; obtain ⟨s0, s1, s2, _⟩ := cells3 (KP.out y1 kb1))
          | fail)
        go_wp2_with fail
        exact ⟨⟨k + 1, us ++ [.slice j4a pn.length j4d], by omega, by go_num, hfa, hfb⟩, by simp [intOf]; omega⟩
      | false =>
        obtain rfl : ln = 0 := HLR.out
        go_wp2_with fail
        generalize (wr.alloc (.cells #[.int .u64 (p0.toNat : Int), .int .i64 (m : Int), .bool false] 31)) = wA at *
        go_region_held3 (fun w' => w'.cell? ⟨wr.heap.size, 0, none⟩ = some (.int .u64 (p0.toNat : Int)) ∧ w'.cell? ⟨wr.heap.size, 1, none⟩ = some (.int .i64 (m : Int))) (go_keep) (first
          | (refine step_app1 rfl _ _ 53 rfl W0.heap.size 23 (.slice none 0 0) 24 Try.underlying53 h24 rfl (.slice xo xn yo) us.length us rfl (World.ownsRow.alloc (ownsRow_bel HROW.out kb4 (Nat.le_refl _)) _) _ _ (.slice j4a pn.length j4d) rfl (cell_new1 y4 _ _) rfl (by unfold maxLen; omega) (by omega) (by rw [World.size_alloc]; have := kb4.size; omega) ?_; intro v5 y5 ko5 hg5 hv5; obtain ⟨hfa, hfb, hfc⟩ := HFIN.out y4 y5 _ v5 kb4 ko4 ko5 hg5 hv5; obtain ⟨j0, j1, j2, _⟩ := cells3 hfc; obtain ⟨a5, m5, c5, rfl⟩ : ∃ a m c, v5 = .slice a m c := (by obtain ⟨a, c, q, _⟩ := hfa.rds; exact ⟨_, _, _, q⟩))
          | (go_at_call 57; refine (HM.out wA y1 y2 y3 _ _ _ kb1 kb2 kb3 ko1 ko2 ko3).mono ?_; rintro e y4 ⟨v4, rfl, ko4, kb4⟩; obtain ⟨j4a, j4d, rfl⟩ := ko4.shape; obtain ⟨i0, i1, i2, _⟩ := cells3 (KP.out y4 kb4))
          | (go_at_call 56; refine (n3 y2).mono ?_; rintro e y3 ⟨v3, rfl, ko3, kb3⟩; obtain ⟨j3a, j3d, rfl⟩ := ko3.shape; obtain ⟨h0, h1, h2, _⟩ := cells3 (KP.out y3 (kB2.trans (kb3.mono kB2.size))))
          | (go_at_call 56; refine (n2 y1).mono ?_; rintro e y2 ⟨v2, rfl, ko2, kb2⟩; obtain ⟨j2a, j2d, rfl⟩ := ko2.shape; have kB2 := kb1.trans (kb2.mono kb1.size); obtain ⟨t0, t1, t2, _⟩ := cells3 (KP.out y2 kB2))
          | (go_at_call 56; refine (n1 wA.drew).mono ?_; rintro e y1 ⟨v1, rfl, ko1, kb1'⟩; have kb1 : Below wA.heap.size wA y1 := (u_drew wA).trans kb1'; obtain ⟨j1a, j1d, rfl⟩ := ko1.shape; obtain ⟨s0, s1, s2, _⟩ := cells3 (KP.out y1 kb1))
          | fail)
        go_wp2_with fail
        exact ⟨⟨k + 1, us ++ [.slice j4a pn.length j4d], by omega, by go_num, hfa, hfb⟩, by simp [intOf]; omega⟩
    · obtain rfl : k = ps.length := by omega
      rw [List.take_of_length_le (Nat.le_refl _)] at hos
      have hvl : ([vi1, s, e, vi2, vi3] ++ ps.map pnc).length ≤ 4294967296 := by simp; omega
      have hrds := hos.rds
      generalize hL : [vi1, s, e, vi2, vi3] ++ ps.map pnc = L at *
      have HL : Hid _ := hL
      clear hL
      clear HO4 hos
      have hrow := rrow_any hrds (by omega) (by omega)
      obtain ⟨qa, qc, rfl, _⟩ := hrds
      go_wp2_with fail
      refine hrow.mono ?_
      rintro x w8 ⟨u8, rfl, ho8, hb8⟩
      go_wp2_with fail
      go_ret
      exact ⟨_, rfl, by have := ho8.mono hB; rw [← HL.out] at this; exact this, hb.trans (hb8.mono hB)⟩
end Go.Proofs.Ytnenfflkldpbgaa
