/- merged, walked. -/
import Derived.Test.YtnapkomjegbhcaaG35
import Derived.Deep.RegionHeld3
namespace Go.Proofs.Ytnapkomjegbhcaa
open Go.RowKit
set_option linter.unusedVariables false
set_option maxRecDepth 100000

theorem ownsRow_base {B B' n s : Nat} {e : TypeId} {w : World} {v : Value} {xs : List Value} (h : w.ownsRow B e s v n xs) (hB : B' ≤ B) : w.ownsRow B' e s v n xs := by
  obtain ⟨h1, h2⟩ := h
  refine ⟨h1, ?_⟩
  rcases h2 with h2 | ⟨g, cap, cur, hv, hg, r⟩
  · exact .inl h2
  · exact .inr ⟨g, cap, cur, hv, by omega, r⟩
theorem row_sl {B n s : Nat} {e : TypeId} {w : World} {v : Value} {xs : List Value} (h : w.ownsRow B e s v n xs) : ∃ a m c, v = .slice a m c := by
  rcases h.2 with h2 | ⟨g, cap, cur, hv, _⟩
  · exact ⟨_, _, _, h2.1⟩
  · exact ⟨_, _, _, hv⟩
theorem AllR.from {B g n c : Nat} {rs : List Rg} {w : World} (h : AllR B (.slice (some ⟨g, 0, none⟩) n c) rs w) (o m : Nat) : ∀ j u, (c6s (((rs.drop o).take m).map Rg.v6))[j]? = some u → w.cell? ((⟨g, o * 6, none⟩ : Addr).add j) = some u := by
  intro j u hju
  rw [c6s_get] at hju
  rw [List.getElem?_map, List.getElem?_take, List.getElem?_drop] at hju
  by_cases hjm : j / 6 < m
  · rw [if_pos hjm] at hju
    cases hr : rs[o + j / 6]? with
    | none => rw [hr] at hju; simp at hju
    | some r =>
      rw [hr] at hju
      simp only [Option.map_some, Option.bind_some] at hju
      obtain ⟨ao, c', e, h1, h2, h3⟩ := h.rds
      simp only [Value.slice.injEq] at e
      obtain ⟨_, a, ea, hat⟩ := h3 (o + j / 6) r.r3 (by rw [List.getElem?_map, hr]; rfl)
      rw [← e.1] at ea
      obtain rfl := Option.some.inj ea
      have := hat (j % 6) u hju
      rw [Addr.add_lit, Nat.zero_add] at this
      rw [Addr.add_lit]
      by_cases hj0 : j % 6 = 0
      · rw [if_pos hj0] at this
        rw [show o * 6 + j = (o + j / 6) * 6 by omega]
        exact this
      · rw [if_neg hj0] at this
        rw [show o * 6 + j = (o + j / 6) * 6 + j % 6 by omega]
        exact this
  · rw [if_neg hjm] at hju
    simp at hju
theorem up_alX {W0 W W' : World} (h : Below W0.heap.size W0 W) (h' : Below W.heap.size W W') : Below W0.heap.size W0 W' := h.trans (h'.mono h.size)
/-- Behind the call of Merge: where its answer lies. -/
def MB (wr : World) (g i k : Nat) (r q : Rg) (ce : Int) (m e : Value) (wx : World) : Prop :=
  ∃ (gm : Nat) (ec : Int), m = .pointer (some ⟨gm, 0, none⟩) ∧ e = .int .i64 ec ∧ (ec = 0 ↔ ce = 0) ∧ Below wr.heap.size wr wx ∧ (ce = 0 → ∃ a1 n1 c1 a2 n2 c2 a3 n3 c3, wx.heap[gm]? = some (.cells #[.int .u64 (r.id.toNat : Int), .slice a1 n1 c1, .slice a2 n2 c2, .int .u64 1, .int .u64 ((mrg r q (.slice a1 n1 c1) (.slice a2 n2 c2) (.slice a3 n3 c3)).vr.toNat : Int), .slice a3 n3 c3] 34 (0, 0)) ∧ OwR wr.heap.size wx (.slice a1 n1 c1) (.slice a2 n2 c2) (.slice a3 n3 c3) (mrg r q (.slice a1 n1 c1) (.slice a2 n2 c2) (.slice a3 n3 c3)).s (mrg r q (.slice a1 n1 c1) (.slice a2 n2 c2) (.slice a3 n3 c3)).e r.pe)
set_option maxHeartbeats 8000000 in
theorem merged_any {B N V : Nat} {v : Value} {rs : List Rg} {w : World} (h : CI B N V v rs w) (hV : V ≤ 1000000) (hl : 2 ≤ rs.length) (hu : rs.length ≤ 100) (x : Int) :
    Calls Try.prog 13 #[v, .int .i64 x] w fun r w' => ∃ v' rs', r = .returned v' ∧ CI B N (V + 1) v' rs' w' ∧ rs'.length ≤ rs.length ∧ Below B w w' := by
  obtain ⟨g, c, rfl, hc1, hc2, hgB, hgl, -⟩ := h.all.some_ h.ne
  unfold maxLen at hc2
  obtain ⟨k, hk, hkl⟩ := mask_modR x rs.length (by omega)
  have HCI : Hid (CI B N V (.slice (some ⟨g, 0, none⟩) rs.length c) rs w) := h
  clear h
  have hn0 : ¬ (rs.length : Int) = 0 := by omega
  have hn0' : ((rs.length : Int) == 0) = false := by rw [beq_eq_false_iff_ne]; exact hn0
  have hwk : IntKind.i64.wrap (k : Int) = (k : Int) := by rw [IntKind.wrap_i64]; omega
  generalize hnn : rs.length = n at *
  have HN : Hid (rs.length = n) := hnn
  clear hnn
  go_enter Try.func13, Try.ntmps13
  go_wp2_with fail
  go_loopw [6, 7, 8] (fun i _ _ wr => ∃ i0 : Nat, i0 ≤ n ∧ i = .int .i64 i0 ∧ Below w.heap.size w wr) (fun i _ _ _ => n - (intOf i).toNat)
  case atStart => exact ⟨0, Nat.zero_le _, rfl, Below.refl _ _⟩
  case round =>
    obtain ⟨i, hi, rfl, hb⟩ := hrel
    by_cases hlt : i < n
    · have hki : (i : Int) < (n : Int) := by omega
      have hkk : (k : Int) < (n : Int) := by omega
      have hC := HCI.out.below hb (Nat.le_refl _)
      have hi' : i < rs.length := by rw [HN.out]; exact hlt
      have hk' : k < rs.length := by rw [HN.out]; exact hkl
      obtain ⟨mE, mO⟩ := hC.merge_call hV hi' hk'
      obtain ⟨ri, hri⟩ : ∃ ri, rs[i] = ri := ⟨_, rfl⟩
      obtain ⟨rk, hrk⟩ : ∃ rk, rs[k] = rk := ⟨_, rfl⟩
      rw [hri, hrk] at mE mO
      have gi : rs[i]? = some ri := by rw [List.getElem?_eq_getElem hi', hri]
      have gk : rs[k]? = some rk := by rw [List.getElem?_eq_getElem hk', hrk]
      have HC6 : Hid (∀ W, Below wr.heap.size wr W → C6 g (i * 6) ri.v6 W ∧ C6 g (k * 6) rk.v6 W) := fun W hW => by
        have hW' := hC.all.below hW (Nat.le_refl _)
        exact ⟨hW'.c6 gi, hW'.c6 gk⟩
      have HMO : Hid (Sl ri.sv ∧ Sl ri.ev ∧ Sl ri.pv ∧ Sl rk.sv ∧ Sl rk.ev ∧ Sl rk.pv) := by
        have o1 := hC.all.own _ (List.mem_of_getElem? gi)
        have o2 := hC.all.own _ (List.mem_of_getElem? gk)
        obtain ⟨a1, b1, e1⟩ := o1.s.rd.shp
        obtain ⟨a2, b2, e2⟩ := o1.e.rd.shp
        obtain ⟨a3, b3, e3⟩ := o1.p.shape
        obtain ⟨a4, b4, e4⟩ := o2.s.rd.shp
        obtain ⟨a5, b5, e5⟩ := o2.e.rd.shp
        obtain ⟨a6, b6, e6⟩ := o2.p.shape
        exact ⟨⟨_, _, _, e1⟩, ⟨_, _, _, e2⟩, ⟨_, _, _, e3⟩, ⟨_, _, _, e4⟩, ⟨_, _, _, e5⟩, ⟨_, _, _, e6⟩⟩
      have HG : Hid (rs[i]? = some ri ∧ rs[k]? = some rk) := ⟨gi, gk⟩
      obtain ⟨ce, hce⟩ : ∃ ce, cmgE ri.id rk.id ri.vr rk.vr ri.s ri.e rk.s rk.e ri.pe rk.pe = ce := ⟨_, rfl⟩
      have HCE : Hid (cmgE ri.id rk.id ri.vr rk.vr ri.s ri.e rk.s rk.e ri.pe rk.pe = ce) := hce
      rw [hce] at mE mO
      obtain ⟨⟨iC0, iC1, iC2, iC3, iC4, iC5⟩, ⟨kC0, kC1, kC2, kC3, kC4, kC5⟩⟩ := HC6.out wr (Below.refl _ _)
      simp only [Rg.v6] at iC0 iC1 iC2 iC3 iC4 iC5 kC0 kC1 kC2 kC3 kC4 kC5
      have HMEO : Hid _ := And.intro mE mO
      clear gi gk hri hrk hce hC mE mO
      go_upto_region 5 with fail
      go_cut [7, 8] from 15 to 54 (fun m e wx => MB wr g i k ri rk ce m e wx)
      case first =>
        obtain ⟨mE, mO⟩ := HMEO.out
        obtain ⟨⟨x1, x2, x3, e1⟩, ⟨x4, x5, x6, e2⟩, ⟨x7, x8, x9, e3⟩, ⟨y1, y2, y3, e4⟩, ⟨y4, y5, y6, e5⟩, ⟨y7, y8, y9, e6⟩⟩ := HMO.out
        rw [e1, e2, e3, e4, e5, e6] at mE mO
        rw [e1] at iC1
        rw [e2] at iC2
        rw [e3] at iC5
        rw [e4] at kC1
        rw [e5] at kC2
        rw [e6] at kC5
        have H12 : Hid (∀ W : World, Below wr.heap.size wr W → W.cell? ⟨g, i * 6, none⟩ = some (.int .u64 (ri.id.toNat : Int)) ∧ W.cell? ⟨g, i * 6 + 1, none⟩ = some (.slice x1 x2 x3) ∧ W.cell? ⟨g, i * 6 + 2, none⟩ = some (.slice x4 x5 x6) ∧ W.cell? ⟨g, i * 6 + 3, none⟩ = some (.int .u64 1) ∧ W.cell? ⟨g, i * 6 + 4, none⟩ = some (.int .u64 (ri.vr.toNat : Int)) ∧ W.cell? ⟨g, i * 6 + 5, none⟩ = some (.slice x7 x8 x9) ∧ W.cell? ⟨g, k * 6, none⟩ = some (.int .u64 (rk.id.toNat : Int)) ∧ W.cell? ⟨g, k * 6 + 1, none⟩ = some (.slice y1 y2 y3) ∧ W.cell? ⟨g, k * 6 + 2, none⟩ = some (.slice y4 y5 y6) ∧ W.cell? ⟨g, k * 6 + 3, none⟩ = some (.int .u64 1) ∧ W.cell? ⟨g, k * 6 + 4, none⟩ = some (.int .u64 (rk.vr.toNat : Int)) ∧ W.cell? ⟨g, k * 6 + 5, none⟩ = some (.slice y7 y8 y9)) := fun W hW => by
          obtain ⟨⟨q0, q1, q2, q3, q4, q5⟩, ⟨p0, p1, p2, p3, p4, p5⟩⟩ := HC6.out W hW
          simp only [Rg.v6] at q0 q1 q2 q3 q4 q5 p0 p1 p2 p3 p4 p5
          rw [e1] at q1
          rw [e2] at q2
          rw [e3] at q5
          rw [e4] at p1
          rw [e5] at p2
          rw [e6] at p5
          exact ⟨q0, q1, q2, q3, q4, q5, p0, p1, p2, p3, p4, p5⟩
        have hB0 : Below wr.heap.size wr wr := Below.refl _ _
        have hBd : Below wr.heap.size wr wr.drew := Below.dN wr 1
        have hBa : Below wr.heap.size wr (wr.alloc (.cells #[.int .u64 0, .slice none 0 0, .slice none 0 0, .int .u64 0, .int .u64 0, .slice none 0 0] 34)) := g_al _ _
        have hBad : Below wr.heap.size wr (wr.alloc (.cells #[.int .u64 0, .slice none 0 0, .slice none 0 0, .int .u64 0, .int .u64 0, .slice none 0 0] 34)).drew := up_alX hBa (Below.dN _ 1)
        have hzn := heap_alloc_new wr (.cells #[.int .u64 0, .slice none 0 0, .slice none 0 0, .int .u64 0, .int .u64 0, .slice none 0 0] 34)
        have HZN : Hid ((wr.alloc (.cells #[.int .u64 0, .slice none 0 0, .slice none 0 0, .int .u64 0, .int .u64 0, .slice none 0 0] 34)).heap[wr.heap.size]? = some (.cells #[.int .u64 0, .slice none 0 0, .slice none 0 0, .int .u64 0, .int .u64 0, .slice none 0 0] 34 (0, 0))) := hzn
        clear hzn
        have hgwr : g < wr.heap.size := by have := hb.size; omega
        have hng : ¬ g = wr.heap.size := by omega
        have hng2 : ¬ wr.heap.size = g := by omega
        by_cases hz : ce = 0
        · have hmO := mO hz
          clear mE mO e1 e2 e3 e4 e5 e6
          go_region_held3 (fun w' => w'.cell? ⟨g, i * 6, none⟩ = some (.int .u64 (ri.id.toNat : Int)) ∧ w'.cell? ⟨g, i * 6 + 1, none⟩ = some (.slice x1 x2 x3) ∧ w'.cell? ⟨g, i * 6 + 2, none⟩ = some (.slice x4 x5 x6) ∧ w'.cell? ⟨g, i * 6 + 3, none⟩ = some (.int .u64 1) ∧ w'.cell? ⟨g, i * 6 + 4, none⟩ = some (.int .u64 (ri.vr.toNat : Int)) ∧ w'.cell? ⟨g, i * 6 + 5, none⟩ = some (.slice x7 x8 x9) ∧ w'.cell? ⟨g, k * 6, none⟩ = some (.int .u64 (rk.id.toNat : Int)) ∧ w'.cell? ⟨g, k * 6 + 1, none⟩ = some (.slice y1 y2 y3) ∧ w'.cell? ⟨g, k * 6 + 2, none⟩ = some (.slice y4 y5 y6) ∧ w'.cell? ⟨g, k * 6 + 3, none⟩ = some (.int .u64 1) ∧ w'.cell? ⟨g, k * 6 + 4, none⟩ = some (.int .u64 (rk.vr.toNat : Int)) ∧ w'.cell? ⟨g, k * 6 + 5, none⟩ = some (.slice y7 y8 y9)) (go_keep) (first
            | (go_at_call 10; refine (hmO _ (by assumption)).mono ?_; rintro x w1 ⟨a1, n1, c1, a2, n2, c2, a3, n3, c3, rfl, ho, hb1⟩; have hbW : Below wr.heap.size wr w1 := (by first | exact up_alX hB0 hb1 | exact up_alX hBd hb1 | exact up_alX hBa hb1 | exact up_alX hBad hb1); obtain ⟨t0, t1, t2, t3, t4, t5, t6, t7, t8, t9, t10, t11⟩ := H12.out w1 hbW; have hoW : OwR wr.heap.size w1 (.slice a1 n1 c1) (.slice a2 n2 c2) (.slice a3 n3 c3) (mrg ri rk (.slice a1 n1 c1) (.slice a2 n2 c2) (.slice a3 n3 c3)).s (mrg ri rk (.slice a1 n1 c1) (.slice a2 n2 c2) (.slice a3 n3 c3)).e ri.pe := ho.mono (by first | exact hB0.size | exact hBd.size | exact hBa.size | exact hBad.size); have hgw1 : ¬ g = w1.heap.size := (by have := hbW.size; omega); have hgw2 : ¬ w1.heap.size = g := (by have := hbW.size; omega); (try (have hz1 : w1.heap[wr.heap.size]? = some (.cells #[.int .u64 0, .slice none 0 0, .slice none 0 0, .int .u64 0, .int .u64 0, .slice none 0 0] 34 (0, 0)) := (hb1.block _ (by simp)).trans HZN.out; obtain ⟨s0, s1, s2, s3, s4, s5, sf⟩ := cells6 hz1; have sf0 := sf 0; have sf1 := sf 1; have sf2 := sf 2; have sf3 := sf 3; have sf4 := sf 4; have sf5 := sf 5; clear sf; have hne : ∀ b, Bl (.slice a1 n1 c1) (.slice a2 n2 c2) (.slice a3 n3 c3) b → ¬ b = wr.heap.size := (fun b hbl z => by have := (ho.lt hbl).1; simp at this; omega))))
            | fail)
          · go_wp2_with fail
            go_meet
            refine ⟨_, 0, rfl, rfl, ⟨fun _ => hz, fun _ => rfl⟩, up_alX hbW (g_al w1 _), fun _ => ⟨_, _, _, _, _, _, _, _, _, heap_alloc_new w1 _, hoW.below (g_al w1 _) (Nat.le_refl _)⟩⟩
          · go_wp2_with fail
            go_meet
            refine ⟨_, 0, rfl, rfl, ⟨fun _ => hz, fun _ => rfl⟩, hbW.trans ((put6C w1 wr.heap.size _ _ _ _ _ _).below (fun b q => by omega) hbW.size), fun _ => ⟨_, _, _, _, _, _, _, _, _, put6R hz1, hoW.keptB (put6C w1 wr.heap.size _ _ _ _ _ _) (fun b hbl z => hne b hbl z)⟩⟩
        · have hmE := mE hz
          clear mE mO e1 e2 e3 e4 e5 e6
          go_region_held3 (fun w' => w'.cell? ⟨g, i * 6, none⟩ = some (.int .u64 (ri.id.toNat : Int)) ∧ w'.cell? ⟨g, i * 6 + 1, none⟩ = some (.slice x1 x2 x3) ∧ w'.cell? ⟨g, i * 6 + 2, none⟩ = some (.slice x4 x5 x6) ∧ w'.cell? ⟨g, i * 6 + 3, none⟩ = some (.int .u64 1) ∧ w'.cell? ⟨g, i * 6 + 4, none⟩ = some (.int .u64 (ri.vr.toNat : Int)) ∧ w'.cell? ⟨g, i * 6 + 5, none⟩ = some (.slice x7 x8 x9) ∧ w'.cell? ⟨g, k * 6, none⟩ = some (.int .u64 (rk.id.toNat : Int)) ∧ w'.cell? ⟨g, k * 6 + 1, none⟩ = some (.slice y1 y2 y3) ∧ w'.cell? ⟨g, k * 6 + 2, none⟩ = some (.slice y4 y5 y6) ∧ w'.cell? ⟨g, k * 6 + 3, none⟩ = some (.int .u64 1) ∧ w'.cell? ⟨g, k * 6 + 4, none⟩ = some (.int .u64 (rk.vr.toNat : Int)) ∧ w'.cell? ⟨g, k * 6 + 5, none⟩ = some (.slice y7 y8 y9)) (go_keep) (first
            | (go_at_call 10; refine (hmE _ (by assumption)).mono ?_; rintro x w1 ⟨ec, hec, rfl, hb1⟩; have hbW : Below wr.heap.size wr w1 := (by first | exact up_alX hB0 hb1 | exact up_alX hBd hb1 | exact up_alX hBa hb1 | exact up_alX hBad hb1); obtain ⟨t0, t1, t2, t3, t4, t5, t6, t7, t8, t9, t10, t11⟩ := H12.out w1 hbW; have hgw1 : ¬ g = w1.heap.size := (by have := hbW.size; omega); have hgw2 : ¬ w1.heap.size = g := (by have := hbW.size; omega); (try (have hz1 : w1.heap[wr.heap.size]? = some (.cells #[.int .u64 0, .slice none 0 0, .slice none 0 0, .int .u64 0, .int .u64 0, .slice none 0 0] 34 (0, 0)) := (hb1.block _ (by simp)).trans HZN.out; obtain ⟨s0, s1, s2, s3, s4, s5, sf⟩ := cells6 hz1; have sf0 := sf 0; have sf1 := sf 1; have sf2 := sf 2; have sf3 := sf 3; have sf4 := sf 4; have sf5 := sf 5; clear sf)))
            | fail)
          · go_wp2_with fail
            go_meet
            exact ⟨_, ec, rfl, rfl, ⟨fun q => absurd q hec, fun q => absurd q hz⟩, up_alX hbW (g_al w1 _), fun q => absurd q hz⟩
          · go_wp2_with fail
            go_meet
            exact ⟨_, ec, rfl, rfl, ⟨fun q => absurd q hec, fun q => absurd q hz⟩, hbW.trans ((put6C w1 wr.heap.size _ _ _ _ _ _).below (fun b q => by omega) hbW.size), fun q => absurd q hz⟩
      case rest =>
      obtain ⟨gm, ec, rfl, rfl, hec, hbx, hok⟩ := hcut
      have hBw : Below w.heap.size w wc := hb.trans (hbx.mono hb.size)
      have hwi : IntKind.i64.wrap ((i : Int) + 1) = ((i + 1 : Nat) : Int) := by rw [IntKind.wrap_i64]; omega
      clear iC0 iC1 iC2 iC3 iC4 iC5 kC0 kC1 kC2 kC3 kC4 kC5 HC6 HMO HMEO
      by_cases hik : i = k
      · have HIK : Hid (i = k) := hik
        have g1 : ((i : Int) != (k : Int)) = false := by rw [hik]; simp
        have g2 : (i != k) = false := by rw [hik]; simp
        clear hik hok hec
        go_wp2_with fail
        exact ⟨⟨i + 1, by omega, by go_num, hBw⟩, by simp [intOf]; omega⟩
      · have g1 : ((i : Int) != (k : Int)) = true := by simp; omega
        have g2 : (i != k) = true := by simpa using hik
        by_cases hz : ec = 0
        · have hce := hec.1 hz
          obtain ⟨a1, n1, c1, a2, n2, c2, a3, n3, c3, hbm, how⟩ := hok hce
          subst hz
          have hC := HCI.out.below hBw (Nat.le_refl _)
          have hgi : rs[i] = ri := by have := HG.out.1; rw [List.getElem?_eq_getElem hi'] at this; exact Option.some.inj this
          have hgk : rs[k] = rk := by have := HG.out.2; rw [List.getElem?_eq_getElem hk'] at this; exact Option.some.inj this
          have hsz := hb.size
          have hcc := hC.all.c6 HG.out.1
          obtain ⟨d0, d1, d2, d3, d4, d5⟩ := hcc
          have hfz := hC.all.froz hC.ne
          have hf0 := hfz (i * 6)
          have hf1 := hfz (i * 6 + 1)
          have hf2 := hfz (i * 6 + 2)
          have hf3 := hfz (i * 6 + 3)
          have hf4 := hfz (i * 6 + 4)
          have hf5 := hfz (i * 6 + 5)
          have hput := hC.all
          rw [← HN.out] at hput
          have hput := hput.put hi' (mrg ri rk (.slice a1 n1 c1) (.slice a2 n2 c2) (.slice a3 n3 c3)) (how.mono (by omega)) (fun b hbl z => by have := (how.lt hbl).1; omega)
          rw [HN.out] at hput
          obtain ⟨vm, hvm⟩ : ∃ vm, (mrg ri rk (.slice a1 n1 c1) (.slice a2 n2 c2) (.slice a3 n3 c3)).vr = vm := ⟨_, rfl⟩
          rw [hvm] at hbm
          have HPUT : Hid (AllR B (.slice (some ⟨g, 0, none⟩) n c) (rs.set i (mrg ri rk (.slice a1 n1 c1) (.slice a2 n2 c2) (.slice a3 n3 c3))) ((((((wc.setCell ⟨g, i * 6, none⟩ (.int .u64 (ri.id.toNat : Int))).setCell ⟨g, i * 6 + 1, none⟩ (.slice a1 n1 c1)).setCell ⟨g, i * 6 + 2, none⟩ (.slice a2 n2 c2)).setCell ⟨g, i * 6 + 3, none⟩ (.int .u64 1)).setCell ⟨g, i * 6 + 4, none⟩ (.int .u64 (vm.toNat : Int))).setCell ⟨g, i * 6 + 5, none⟩ (.slice a3 n3 c3)) ∧ Chg (fun b => b = g) wc ((((((wc.setCell ⟨g, i * 6, none⟩ (.int .u64 (ri.id.toNat : Int))).setCell ⟨g, i * 6 + 1, none⟩ (.slice a1 n1 c1)).setCell ⟨g, i * 6 + 2, none⟩ (.slice a2 n2 c2)).setCell ⟨g, i * 6 + 3, none⟩ (.int .u64 1)).setCell ⟨g, i * 6 + 4, none⟩ (.int .u64 (vm.toNat : Int))).setCell ⟨g, i * 6 + 5, none⟩ (.slice a3 n3 c3))) := by rw [← hvm]; exact hput
          have HRS : Hid (Prt (((rs.set i (mrg ri rk (.slice a1 n1 c1) (.slice a2 n2 c2) (.slice a3 n3 c3))).eraseIdx k).map Rg.r3) ∧ (((rs.set i (mrg ri rk (.slice a1 n1 c1) (.slice a2 n2 c2) (.slice a3 n3 c3))).eraseIdx k).map Rg.id).Nodup ∧ ∀ r ∈ (rs.set i (mrg ri rk (.slice a1 n1 c1) (.slice a2 n2 c2) (.slice a3 n3 c3))).eraseIdx k, r.Ok N (V + 1)) := by
            have q1 := hC.merge_prt hi' hk' hik (by rw [hgi, hgk]; exact cmg_flw (HCE.out.trans hce)) (.slice a1 n1 c1) (.slice a2 n2 c2) (.slice a3 n3 c3)
            have q2 := hC.merge_nd (k := k) hi' rs[k] (.slice a1 n1 c1) (.slice a2 n2 c2) (.slice a3 n3 c3)
            have q3 := hC.merge_ok hV hi' hk' (.slice a1 n1 c1) (.slice a2 n2 c2) (.slice a3 n3 c3)
            rw [hgi, hgk] at q1 q2 q3
            exact ⟨q1, q2, q3⟩
          obtain ⟨m0, m1, m2, m3, m4, m5, -⟩ := cells6 hbm
          simp only [Rg.v6] at d0 d1 d2 d3 d4 d5
          generalize hrs' : rs.set i (mrg ri rk (.slice a1 n1 c1) (.slice a2 n2 c2) (.slice a3 n3 c3)) = rs' at *
          have HLR : Hid (rs'.length = n) := by show _ = _; rw [← hrs', List.length_set]; exact HN.out
          clear hbm hok hec how hC hput hfz hvm hrs'
          go_upto_region 8 with fail
          generalize ((((((wc.setCell ⟨g, i * 6, none⟩ (.int .u64 (ri.id.toNat : Int))).setCell ⟨g, i * 6 + 1, none⟩ (.slice a1 n1 c1)).setCell ⟨g, i * 6 + 2, none⟩ (.slice a2 n2 c2)).setCell ⟨g, i * 6 + 3, none⟩ (.int .u64 1)).setCell ⟨g, i * 6 + 4, none⟩ (.int .u64 (vm.toNat : Int))).setCell ⟨g, i * 6 + 5, none⟩ (.slice a3 n3 c3)) = W6 at *
          clear d0 d1 d2 d3 d4 d5 hf0 hf1 hf2 hf3 hf4 hf5 m0 m1 m2 m3 m4 m5
          have hkn : k + 1 ≤ n := by omega
          have hA6 := HPUT.out.1
          have hms1 : ((rs'.take k).map Rg.v6).length = k := by have := HLR.out; simp; omega
          have hms2 : ((rs'.drop (k + 1)).map Rg.v6).length = n - (k + 1) := by have := HLR.out; simp; omega
          have hnw1 : ∀ j u, (c6s ((rs'.take k).map Rg.v6))[j]? = some u → W6.cell? ((⟨g, 0, none⟩ : Addr).add j) = some u := fun j u hju => by
            have := hA6.from 0 k j u (by simpa using hju)
            simpa using this
          have HNW2 : Hid (∀ W : World, Below W6.heap.size W6 W → ∀ j u, (c6s ((rs'.drop (k + 1)).map Rg.v6))[j]? = some u → W.cell? ((⟨g, (k + 1) * 6, none⟩ : Addr).add j) = some u) := fun W hW j u hju => by
            refine (hA6.below hW (Nat.le_refl _)).from (k + 1) n j u ?_
            rw [List.take_of_length_le (by have := HLR.out; simp; omega)]
            exact hju
          have HONE1 : Hid (∀ u ∈ c6s ((rs'.take k).map Rg.v6), u.oneCell' = true) := c6s_one (fun r hr => hA6.own r (List.mem_of_mem_take hr))
          have HONE2 : Hid (∀ u ∈ c6s ((rs'.drop (k + 1)).map Rg.v6), u.oneCell' = true) := c6s_one (fun r hr => hA6.own r (List.mem_of_mem_drop hr))
          have HFIN : Hid (∀ (v5 : Value) (w5 : World), w5.ownsRow W6.heap.size 34 6 v5 ((rs'.take k).map Rg.v6 ++ (rs'.drop (k + 1)).map Rg.v6).length (c6s ((rs'.take k).map Rg.v6 ++ (rs'.drop (k + 1)).map Rg.v6)) → Below W6.heap.size W6 w5 → CI B N (V + 1) v5 (rs'.eraseIdx k) w5 ∧ (rs'.eraseIdx k).length ≤ n ∧ Below B w w5) := fun v5 w5 ho hb5 => by
            have he : (rs'.take k).map Rg.v6 ++ (rs'.drop (k + 1)).map Rg.v6 = (rs'.eraseIdx k).map Rg.v6 := by rw [List.eraseIdx_eq_take_drop_succ, List.map_append]
            rw [he, List.length_map] at ho
            have hsz6 : w.heap.size ≤ W6.heap.size := by have := HPUT.out.2.size; have := hBw.size; omega
            refine ⟨⟨⟨ownsRow_base ho (by omega), fun r hr => ((hA6.own r (List.mem_of_mem_eraseIdx hr)).below hb5 (Nat.le_refl _)), fun r hr b hbl e => ?_⟩, HRS.out.2.2, HRS.out.2.1, HRS.out.1⟩, ?_, ?_⟩
            · have h1 := ((hA6.own r (List.mem_of_mem_eraseIdx hr)).lt hbl).2
              have h2 := (World.ownsRow.lt ho b e).1
              omega
            · have := HLR.out
              have := List.length_eraseIdx_le rs' k
              omega
            · exact (hBw.mono (by omega)).trans ((HPUT.out.2.below (fun b e => by omega) (by have := hBw.size; omega)).trans (hb5.mono (by omega)))
          by_cases hcb : c = k + 1
          · have hnn2 : n - (k + 1) = 0 := by omega
            rw [hnn2] at hms2
            have hnw2 : ∀ W : World, Below W6.heap.size W6 W → ∀ j u, (c6s ((rs'.drop (k + 1)).map Rg.v6))[j]? = some u → W.cell? ((⟨g, 0, none⟩ : Addr).add j) = some u := fun W hW j u hju => by
              rw [List.length_eq_zero_iff.1 hms2] at hju
              simp [c6s] at hju
            have hnk : n = k + 1 := by omega
            clear hnn2
            subst hcb
            subst hnk
            go_wp2_with (first
              | (have hq := ho3; at_builtin; refine wpList_appRg rfl _ _ rfl W6.heap.size _ ((rs'.take k).map Rg.v6) rfl ho3 ⟨g, 0, none⟩ 0 0 ((rs'.drop (k + 1)).map Rg.v6) hms2 rfl (hnw2 _ hb3) HONE2.out hb3.size (by rw [List.length_map, List.length_take]; omega) ?_; intro v5 w5 ho5 hg5 hv5; have HE5 : Hid _ := HFIN.out v5 w5 ho5 (hb3.grown hg5 hb3.size (fun j e => (World.ownsRow.lt ho3 j e).1)); obtain ⟨p1, p2, p3, rfl⟩ := row_sl ho5; clear ho5 hg5 hv5)
              | (at_builtin; refine wpList_appRg rfl _ _ rfl W6.heap.size _ [] rfl (World.ownsRow_nil _ _ _ _) ⟨g, 0, none⟩ k (k + 1) ((rs'.take k).map Rg.v6) hms1 rfl hnw1 HONE1.out (Nat.le_refl _) (by simp; omega) ?_; rw [List.nil_append]; intro v3 w3 ho3 hg3 hv3; have hb3 : Below W6.heap.size W6 w3 := (Below.refl _ _).grown hg3 (Nat.le_refl _) (fun j e => by cases e); obtain ⟨p1, p2, p3, rfl⟩ := row_sl ho3; clear hg3 hv3)
              | fail)
            go_ret
            exact ⟨_, _, rfl, HE5.out⟩
          · have hnw2 := HNW2.out
            go_wp2_with (first
              | (have hq := ho3; at_builtin; refine wpList_appRg rfl _ _ rfl W6.heap.size _ ((rs'.take k).map Rg.v6) rfl ho3 ⟨g, (k + 1) * 6, none⟩ (n - (k + 1)) (c - (k + 1)) ((rs'.drop (k + 1)).map Rg.v6) hms2 rfl (hnw2 _ hb3) HONE2.out hb3.size (by rw [List.length_map, List.length_take]; omega) ?_; intro v5 w5 ho5 hg5 hv5; have HE5 : Hid _ := HFIN.out v5 w5 ho5 (hb3.grown hg5 hb3.size (fun j e => (World.ownsRow.lt ho3 j e).1)); obtain ⟨p1, p2, p3, rfl⟩ := row_sl ho5; clear ho5 hg5 hv5)
              | (at_builtin; refine wpList_appRg rfl _ _ rfl W6.heap.size _ [] rfl (World.ownsRow_nil _ _ _ _) ⟨g, 0, none⟩ k c ((rs'.take k).map Rg.v6) hms1 rfl hnw1 HONE1.out (Nat.le_refl _) (by simp; omega) ?_; rw [List.nil_append]; intro v3 w3 ho3 hg3 hv3; have hb3 : Below W6.heap.size W6 w3 := (Below.refl _ _).grown hg3 (Nat.le_refl _) (fun j e => by cases e); obtain ⟨p1, p2, p3, rfl⟩ := row_sl ho3; clear hg3 hv3)
              | fail)
            go_ret
            exact ⟨_, _, rfl, HE5.out⟩
        · have g3 : (ec == 0) = false := by rw [beq_eq_false_iff_ne]; exact hz
          clear hok hec
          go_wp2_with fail
          exact ⟨⟨i + 1, by omega, by go_num, hBw⟩, by simp [intOf]; omega⟩
    · have HE : Hid (CI B N (V + 1) (.slice (some ⟨g, 0, none⟩) n c) rs wr ∧ Below B w wr) := by
        have h1 := HCI.out
        exact ⟨(h1.below hb (Nat.le_refl _)).mono (Nat.le_refl _) (by omega), hb.mono (by omega)⟩
      go_wp2_with fail
      go_ret
      exact ⟨_, rs, rfl, HE.out.1, by rw [HN.out]; exact Nat.le_refl _, HE.out.2⟩
end Go.Proofs.Ytnapkomjegbhcaa
