/- Where Split was answered OK: the two lie in the row in the place of the one. -/
import Derived.Test.YtnapkomjegbhcaaG41
import Derived.Test.YtnapkomjegbhcaaG42
import Derived.Deep.CutRange
namespace Go.Proofs.Ytnapkomjegbhcaa
open Go.RowKit
set_option linter.unusedVariables false
set_option maxRecDepth 1000000

/-- The 'if' over that slot. -/
def condOf (n : Nat) : Code → Option Code
  | .cond (.tmp m) a b => if m = n then some (.cond (.tmp m) a b) else match condOf n a with
    | some c => some c
    | none => condOf n b
  | .cond _ a b => match condOf n a with
    | some c => some c
    | none => condOf n b
  | .seq a b => match condOf n a with
    | some c => some c
    | none => condOf n b
  | .block _ c => condOf n c
  | .loop c => condOf n c
  | .scope c => condOf n c
  | _ => none
noncomputable def code61 : Code := ((Try.f3.body.bind (condOf 61)).getD .skip)
theorem news_one {W : World} (u : V6) : ∀ j x, (c6s [u])[j]? = some x → (W.alloc (.cells #[.int .u64 u.1, u.2.1, u.2.2.1, .int .u64 u.2.2.2.1, .int .u64 u.2.2.2.2.1, u.2.2.2.2.2] 34)).cell? ((⟨W.heap.size, 0, none⟩ : Addr).add j) = some x := by
  intro j x h
  have e : c6s [u] = c6 u := by simp [c6s]
  rw [e] at h
  have hj : j < 6 := (List.getElem?_eq_some_iff.1 h).1
  rw [Addr.add_lit, Nat.zero_add, cell_of_row _ _ _ _ _ _ (heap_alloc_new W _)]
  simpa [c6] using h
set_option maxHeartbeats 8000000 in
theorem walk61 {B D V : Nat} {rs : List Rg} {key : List UInt8} {r : Rg} {nx : UInt64} {x1 x2 x3 x4 x5 x6 r1 r4 r7 : Option Addr} {y1 z1 y2 z2 y3 z3 y4 z4 y5 z5 y6 z6 r2 r3 r5 r6 r8 r9 ga gb g n c k : Nat} {wc : World} {K : Act → World → Prop} {Q : Exit → Act → World → Prop} (t0 t1 t2 t3 t4 t5 t6 t9 t13 t14 t15 t16 t17 t18 t19 t20 t21 t22 t23 t24 t25 t26 t27 t28 t29 t30 t31 t32 t33 t34 t35 t36 t37 t38 t39 t40 t41 t42 t43 t44 t45 t46 t47 t48 t49 t50 t51 t52 t53 t54 t55 t56 t57 t58 t59 t60 t62 t63 t64 t65 t66 t67 t68 t69 t70 t71 t72 t73 t74 t75 t76 t77 t78 t79 t80 t81 t82 t83 t84 t85 t86 t87 t88 t89 t90 t91 t92 t93 t94 t95 t96 t97 t98 t99 t100 t101 t102 t103 t104 t105 t106 t107 t108 t109 t110 t111 t112 t113 t114 t115 t116 t117 t118 t119 t120 t121 t122 t123 t124 t125 t126 t127 t128 t129 t130 t131 t132 t133 t134 t135 t136 t137 t138 t139 t140 t141 t142 t143 t144 t145 t146 t147 t148 t149 t150 t151 t152 t153 t154 t155 t156 t157 t158 t159 t160 t161 t162 t163 t164 t165 t166 t167 t168 t169 t170 t171 t172 t173 t174 t175 t176 t177 t178 t179 t180 t181 t182 t183 t184 t185 t186 t187 t188 t189 t190 t191 t192 t193 t194 t195 t196 t197 t198 t199 t200 t201 t202 t203 t204 t205 t206 t207 t208 t209 t210 t211 : Value)
    (hC : CI B nx.toNat V (.slice (some ⟨g, 0, none⟩) n c) rs wc) (hn : rs.length = n) (hr : rs[k]? = some r) (hsv : r.sv = .slice r1 r2 r3) (hev : r.ev = .slice r4 r5 r6) (hpv : r.pv = .slice r7 r8 r9)
    (hN1 : 10 ≤ nx.toNat) (hN : nx.toNat ≤ 1000000) (hV : V ≤ 1000000) (hu : n ≤ 100) (hnc : n ≤ c) (hcm : c ≤ 9223372036854775807) (hgB : B ≤ g) (hgD : g < D) (hDw : D ≤ wc.heap.size)
    (hcov : cov r.s r.e key = true) (hk1 : key ≠ r.s) (hk2 : key.length ≤ 64)
    (bl : wc.heap[ga]? = some (.cells #[.int .u64 (r.id.toNat : Int), .slice x1 y1 z1, .slice x2 y2 z2, .int .u64 1, .int .u64 ((r.vr.toNat : Int) + 1), .slice x3 y3 z3] 34 (0, 0))) (bh : wc.heap[gb]? = some (.cells #[.int .u64 (nx.toNat : Int), .slice x4 y4 z4, .slice x5 y5 z5, .int .u64 1, .int .u64 ((r.vr.toNat : Int) + 1), .slice x6 y6 z6] 34 (0, 0)))
    (o1 : OwR D wc (.slice x1 y1 z1) (.slice x2 y2 z2) (.slice x3 y3 z3) r.s key r.pe) (o2 : OwR D wc (.slice x4 y4 z4) (.slice x5 y5 z5) (.slice x6 y6 z6) key r.e (pe3 (nx + 1) (nx + 2) (nx + 3)))
    (hga : D ≤ ga) (hgb : D ≤ gb)
    (hK : ∀ (u14 u15 u62 u63 u64 u65 u66 u67 u68 u69 u70 u71 u72 u73 u74 u75 u76 u77 u78 u79 u80 u81 u82 u83 u84 u85 u86 u87 u88 u89 u90 u91 u92 u93 u94 u95 u96 u97 u98 u99 u100 u101 u102 u103 u104 u105 u106 u107 u108 u109 u110 u111 u112 u113 u114 u115 u116 u117 u118 u119 u120 u121 u122 u123 u124 u125 u126 u127 u128 u129 u130 u131 u132 u133 u134 u135 u136 u137 u138 u139 u140 u141 u142 u143 u144 u145 : Value) (v' : Value) (w' : World), CI B (nx.toNat + 4) (V + 1) v' (rs.set k (rgL r key (.slice x1 y1 z1) (.slice x2 y2 z2) (.slice x3 y3 z3)) ++ [(rgH r key nx (.slice x4 y4 z4) (.slice x5 y5 z5) (.slice x6 y6 z6))]) w' → Below B wc w' → K ⟨#[t0, t1, t2, t3, t4, t5, t6, v', .int .u64 ((nx.toNat : Int) + 4), t9, .int .i64 (k : Int), .pointer (some ⟨ga, 0, none⟩), .pointer (some ⟨gb, 0, none⟩), t13, u14, u15, t16, t17, t18, t19, t20, t21, t22, t23, t24, t25, t26, t27, t28, t29, t30, t31, t32, t33, t34, t35, t36, t37, t38, t39, t40, t41, t42, t43, t44, t45, t46, t47, t48, t49, t50, t51, t52, t53, t54, t55, t56, t57, t58, t59, t60, .bool true, u62, u63, u64, u65, u66, u67, u68, u69, u70, u71, u72, u73, u74, u75, u76, u77, u78, u79, u80, u81, u82, u83, u84, u85, u86, u87, u88, u89, u90, u91, u92, u93, u94, u95, u96, u97, u98, u99, u100, u101, u102, u103, u104, u105, u106, u107, u108, u109, u110, u111, u112, u113, u114, u115, u116, u117, u118, u119, u120, u121, u122, u123, u124, u125, u126, u127, u128, u129, u130, u131, u132, u133, u134, u135, u136, u137, u138, u139, u140, u141, u142, u143, u144, u145, t146, t147, t148, t149, t150, t151, t152, t153, t154, t155, t156, t157, t158, t159, t160, t161, t162, t163, t164, t165, t166, t167, t168, t169, t170, t171, t172, t173, t174, t175, t176, t177, t178, t179, t180, t181, t182, t183, t184, t185, t186, t187, t188, t189, t190, t191, t192, t193, t194, t195, t196, t197, t198, t199, t200, t201, t202, t203, t204, t205, t206, t207, t208, t209, t210, t211], []⟩ w') :
    Code.wp Try.prog code61 (Exit.then K Q) ⟨#[t0, t1, t2, t3, t4, t5, t6, .slice (some ⟨g, 0, none⟩) n c, .int .u64 (nx.toNat : Int), t9, .int .i64 (k : Int), .pointer (some ⟨ga, 0, none⟩), .pointer (some ⟨gb, 0, none⟩), t13, t14, t15, t16, t17, t18, t19, t20, t21, t22, t23, t24, t25, t26, t27, t28, t29, t30, t31, t32, t33, t34, t35, t36, t37, t38, t39, t40, t41, t42, t43, t44, t45, t46, t47, t48, t49, t50, t51, t52, t53, t54, t55, t56, t57, t58, t59, t60, .bool true, t62, t63, t64, t65, t66, t67, t68, t69, t70, t71, t72, t73, t74, t75, t76, t77, t78, t79, t80, t81, t82, t83, t84, t85, t86, t87, t88, t89, t90, t91, t92, t93, t94, t95, t96, t97, t98, t99, t100, t101, t102, t103, t104, t105, t106, t107, t108, t109, t110, t111, t112, t113, t114, t115, t116, t117, t118, t119, t120, t121, t122, t123, t124, t125, t126, t127, t128, t129, t130, t131, t132, t133, t134, t135, t136, t137, t138, t139, t140, t141, t142, t143, t144, t145, t146, t147, t148, t149, t150, t151, t152, t153, t154, t155, t156, t157, t158, t159, t160, t161, t162, t163, t164, t165, t166, t167, t168, t169, t170, t171, t172, t173, t174, t175, t176, t177, t178, t179, t180, t181, t182, t183, t184, t185, t186, t187, t188, t189, t190, t191, t192, t193, t194, t195, t196, t197, t198, t199, t200, t201, t202, t203, t204, t205, t206, t207, t208, t209, t210, t211], []⟩ wc := by
  have HK : Hid _ := hK
  have hrm : r ∈ rs := List.mem_of_getElem? hr
  have hok := hC.ok r hrm
  have hkn : k < n := by rw [← hn]; exact (List.getElem?_eq_some_iff.1 hr).1
  have H18 : ∀ W : World, Below wc.heap.size wc W → W.cell? ⟨ga, 0, none⟩ = some (.int .u64 (r.id.toNat : Int)) ∧ W.cell? ⟨ga, 1, none⟩ = some (.slice x1 y1 z1) ∧ W.cell? ⟨ga, 2, none⟩ = some (.slice x2 y2 z2) ∧ W.cell? ⟨ga, 3, none⟩ = some (.int .u64 1) ∧ W.cell? ⟨ga, 4, none⟩ = some (.int .u64 ((r.vr.toNat : Int) + 1)) ∧ W.cell? ⟨ga, 5, none⟩ = some (.slice x3 y3 z3) ∧ W.cell? ⟨gb, 0, none⟩ = some (.int .u64 (nx.toNat : Int)) ∧ W.cell? ⟨gb, 1, none⟩ = some (.slice x4 y4 z4) ∧ W.cell? ⟨gb, 2, none⟩ = some (.slice x5 y5 z5) ∧ W.cell? ⟨gb, 3, none⟩ = some (.int .u64 1) ∧ W.cell? ⟨gb, 4, none⟩ = some (.int .u64 ((r.vr.toNat : Int) + 1)) ∧ W.cell? ⟨gb, 5, none⟩ = some (.slice x6 y6 z6) ∧ W.cell? ⟨g, k * 6, none⟩ = some (.int .u64 (r.id.toNat : Int)) ∧ W.cell? ⟨g, k * 6 + 1, none⟩ = some (.slice r1 r2 r3) ∧ W.cell? ⟨g, k * 6 + 2, none⟩ = some (.slice r4 r5 r6) ∧ W.cell? ⟨g, k * 6 + 3, none⟩ = some (.int .u64 1) ∧ W.cell? ⟨g, k * 6 + 4, none⟩ = some (.int .u64 (r.vr.toNat : Int)) ∧ W.cell? ⟨g, k * 6 + 5, none⟩ = some (.slice r7 r8 r9) := fun W hW => by
    obtain ⟨q0, q1, q2, q3, q4, q5, -⟩ := cells6 (w := W) ((hW.block ga (lt_of_some bl)).trans bl)
    obtain ⟨p0, p1, p2, p3, p4, p5, -⟩ := cells6 (w := W) ((hW.block gb (lt_of_some bh)).trans bh)
    obtain ⟨t0, t1, t2, t3, t4, t5⟩ := (hC.all.below hW (Nat.le_refl _)).c6 hr
    simp only [Rg.v6] at t0 t1 t2 t3 t4 t5
    rw [hsv] at t1
    rw [hev] at t2
    rw [hpv] at t5
    exact ⟨q0, q1, q2, q3, q4, q5, p0, p1, p2, p3, p4, p5, t0, t1, t2, t3, t4, t5⟩
  have H13 : ∀ W : World, Below wc.heap.size wc W → W.cell? ⟨ga, 0, none⟩ = some (.int .u64 (r.id.toNat : Int)) ∧ W.cell? ⟨ga, 1, none⟩ = some (.slice x1 y1 z1) ∧ W.cell? ⟨ga, 2, none⟩ = some (.slice x2 y2 z2) ∧ W.cell? ⟨ga, 3, none⟩ = some (.int .u64 1) ∧ W.cell? ⟨ga, 4, none⟩ = some (.int .u64 ((r.vr.toNat : Int) + 1)) ∧ W.cell? ⟨ga, 5, none⟩ = some (.slice x3 y3 z3) ∧ W.cell? ⟨gb, 0, none⟩ = some (.int .u64 (nx.toNat : Int)) ∧ W.cell? ⟨gb, 1, none⟩ = some (.slice x4 y4 z4) ∧ W.cell? ⟨gb, 2, none⟩ = some (.slice x5 y5 z5) ∧ W.cell? ⟨gb, 3, none⟩ = some (.int .u64 1) ∧ W.cell? ⟨gb, 4, none⟩ = some (.int .u64 ((r.vr.toNat : Int) + 1)) ∧ W.cell? ⟨gb, 5, none⟩ = some (.slice x6 y6 z6) ∧ W.cell? ⟨g, k * 6 + 3, none⟩ = some (.int .u64 1) ∧ W.cell? ⟨g, k * 6 + 4, none⟩ = some (.int .u64 (r.vr.toNat : Int)) := fun W hW => by
    obtain ⟨f0, f1, f2, f3, f4, f5, f6, f7, f8, f9, f10, f11, f12, f13, f14, f15, f16, f17⟩ := H18 W hW
    exact ⟨f0, f1, f2, f3, f4, f5, f6, f7, f8, f9, f10, f11, f15, f16⟩
  have ev1 : ((r.vr + 1).toNat : Int) = (r.vr.toNat : Int) + 1 := by rw [vr_one hok hV]; omega
  have hvb := hok.vb
  have ev2 : ((r.vr + 2).toNat : Int) = (r.vr.toNat : Int) + 2 := by rw [show (r.vr + 2).toNat = r.vr.toNat + 2 from u_add r.vr 2 (by omega) (by omega)]; omega
  have hNw1 := fun W (hW : Below wc.heap.size wc W) => newer_w (r.vr + 1) r.vr (nwr_one hok hV) W hW
  rw [ev1] at hNw1
  have hO1 := fun W (hW : Below wc.heap.size wc W) => overlap_w (i := (r.id.toNat : Int)) (c := 1) (r := (r.vr.toNat : Int) + 1) (i' := (nx.toNat : Int)) (c' := 1) (r' := (r.vr.toNat : Int) + 1) (pa := x3) (pn := y3) (pk := z3) (pb := x6) (qn := y6) (qk := z6) o1.s.rd o1.e.rd o2.s.rd o2.e.rd (cov_key hcov hk1).2.2.2.2 W hW
  have hM := fun W (hW : Below wc.heap.size wc W) => merge_two hok hV hN1 hN hcov hk1 hk2 o1 o2 W hW
  have hnw2 : nwr 1 (r.vr + 2) 1 (r.vr + 1) = true := nwr_iff.2 (.inl (by omega))
  have HC : Hid (CI B nx.toNat V (.slice (some ⟨g, 0, none⟩) n c) rs wc ∧ rs[k]? = some r ∧ rs.length = n) := ⟨hC, hr, hn⟩
  have HSV : Hid (r.sv = .slice r1 r2 r3 ∧ r.ev = .slice r4 r5 r6 ∧ r.pv = .slice r7 r8 r9) := ⟨hsv, hev, hpv⟩
  have HO : Hid (OwR D wc (.slice x1 y1 z1) (.slice x2 y2 z2) (.slice x3 y3 z3) r.s key r.pe ∧ OwR D wc (.slice x4 y4 z4) (.slice x5 y5 z5) (.slice x6 y6 z6) key r.e (pe3 (nx + 1) (nx + 2) (nx + 3))) := ⟨o1, o2⟩
  have HB : Hid (wc.heap[ga]? = some (.cells #[.int .u64 (r.id.toNat : Int), .slice x1 y1 z1, .slice x2 y2 z2, .int .u64 1, .int .u64 ((r.vr.toNat : Int) + 1), .slice x3 y3 z3] 34 (0, 0)) ∧ wc.heap[gb]? = some (.cells #[.int .u64 (nx.toNat : Int), .slice x4 y4 z4, .slice x5 y5 z5, .int .u64 1, .int .u64 ((r.vr.toNat : Int) + 1), .slice x6 y6 z6] 34 (0, 0))) := ⟨bl, bh⟩
  have HEV : Hid (((r.vr + 1).toNat : Int) = (r.vr.toNat : Int) + 1 ∧ ((r.vr + 2).toNat : Int) = (r.vr.toNat : Int) + 2 ∧ nwr 1 (r.vr + 2) 1 (r.vr + 1) = true) := ⟨ev1, ev2, hnw2⟩
  have HKY : Hid (cov r.s r.e key = true ∧ key ≠ r.s ∧ key.length ≤ 64 ∧ r.Ok nx.toNat V) := ⟨hcov, hk1, hk2, hok⟩
  have hlga := lt_of_some bl
  have hlgb := lt_of_some bh
  have hkn' : (k : Int) < (n : Int) := by omega
  clear hK hC hr hn hsv hev hpv o1 o2 bl bh ev1 ev2 hnw2 hcov hk1 hk2 hok hrm
  have HH18 : Hid _ := H18
  clear H18
  conv => arg 2; whnf
  go_upto_region 13 with fail
  refine walk13 (r1 := r1) (r4 := r4) (r7 := r7) (r2 := r2) (r3 := r3) (r5 := r5) (r6 := r6) (r8 := r8) (r9 := r9) _ _ _ _ _ _ _ _ _ _ _ _ _ _ _ _ _ _ _ _ _ _ _ _ _ _ _ _ _ _ _ _ _ _ _ _ _ _ _ _ _ _ _ _ _ _ _ _ _ _ _ _ _ _ _ _ _ _ _ _ _ _ _ _ _ _ _ _ _ _ _ _ _ _ _ _ _ _ _ _ _ _ _ _ _ _ _ _ _ _ _ _ _ _ _ _ _ _ _ _ _ _ _ _ _ _ _ _ _ _ _ _ _ _ _ _ _ _ _ _ _ _ _ _ _ _ _ _ _ _ _ _ _ _ _ _ _ _ _ _ _ _ _ _ _ _ _ _ _ _ _ _ _ _ _ _ _ _ _ _ _ _ _ _ _ _ _ _ _ _ _ _ _ _ _ _ _ _ _ _ _ _ _ _ _ _ _ _ _ _ _ _ _ _ _ _ _ _ _ _ _ _ _ _ _ _ _ _ hkn hnc hcm H13 hNw1 hO1 ?_
  clear H13 hNw1 hO1
  intro u62 u63 u64 u65 u66 u67 u68 u69 u70 u71 u72 u73 u74 u75 u76 u77 u78 u79 u80 u81 u82 u83 u84 u85 w2 hb2
  obtain ⟨f0, f1, f2, f3, f4, f5, f6, f7, f8, f9, f10, f11, f12, f13, f14, f15, f16, f17⟩ := HH18.out w2 hb2
  go_wp2_with fail
  refine (hM _ hb2).mono ?_
  rintro x w3 ⟨a1, n1, c1, a2, n2, c2, a3, n3, c3, rfl, oM, hb3⟩
  clear hM f0 f1 f2 f3 f4 f5 f6 f7 f8 f9 f10 f11 f12 f13 f14 f15 f16 f17
  go_upto_region 16 with fail
  have hbx : Below wc.heap.size wc (w3.alloc (.cells #[.int .u64 (r.id.toNat : Int), .slice a1 n1 c1, .slice a2 n2 c2, .int .u64 1, .int .u64 ((r.vr.toNat : Int) + 2), .slice a3 n3 c3] 34)) := up_alX hb3 (g_al w3 _)
  have hgm : (w3.alloc (.cells #[.int .u64 (r.id.toNat : Int), .slice a1 n1 c1, .slice a2 n2 c2, .int .u64 1, .int .u64 ((r.vr.toNat : Int) + 2), .slice a3 n3 c3] 34)).heap[w3.heap.size]? = some (.cells #[.int .u64 (r.id.toNat : Int), .slice a1 n1 c1, .slice a2 n2 c2, .int .u64 1, .int .u64 ((r.vr.toNat : Int) + 2), .slice a3 n3 c3] 34 (0, 0)) := heap_alloc_new w3 _
  have oMd : OwR wc.heap.size (w3.alloc (.cells #[.int .u64 (r.id.toNat : Int), .slice a1 n1 c1, .slice a2 n2 c2, .int .u64 1, .int .u64 ((r.vr.toNat : Int) + 2), .slice a3 n3 c3] 34)) (.slice a1 n1 c1) (.slice a2 n2 c2) (.slice a3 n3 c3) r.s r.e r.pe := oM.below (g_al w3 _) (Nat.le_refl _)
  generalize w3.alloc (.cells #[.int .u64 (r.id.toNat : Int), .slice a1 n1 c1, .slice a2 n2 c2, .int .u64 1, .int .u64 ((r.vr.toNat : Int) + 2), .slice a3 n3 c3] 34) = wd at *
  generalize w3.heap.size = gm at *
  have oR : OwR B wd (.slice r1 r2 r3) (.slice r4 r5 r6) (.slice r7 r8 r9) r.s r.e r.pe := by
    rw [← HSV.out.1, ← HSV.out.2.1, ← HSV.out.2.2]
    exact (HC.out.1.all.below hbx (Nat.le_refl _)).own r (List.mem_of_getElem? HC.out.2.1)
  have H16 : ∀ W : World, Below wd.heap.size wd W → W.cell? ⟨gm, 1, none⟩ = some (.slice a1 n1 c1) ∧ W.cell? ⟨gm, 2, none⟩ = some (.slice a2 n2 c2) ∧ W.cell? ⟨gm, 3, none⟩ = some (.int .u64 1) ∧ W.cell? ⟨gm, 4, none⟩ = some (.int .u64 ((r.vr.toNat : Int) + 2)) ∧ W.cell? ⟨gm, 5, none⟩ = some (.slice a3 n3 c3) ∧ W.cell? ⟨gb, 3, none⟩ = some (.int .u64 1) ∧ W.cell? ⟨gb, 4, none⟩ = some (.int .u64 ((r.vr.toNat : Int) + 1)) ∧ W.cell? ⟨g, k * 6 + 1, none⟩ = some (.slice r1 r2 r3) ∧ W.cell? ⟨g, k * 6 + 2, none⟩ = some (.slice r4 r5 r6) ∧ W.cell? ⟨g, k * 6 + 5, none⟩ = some (.slice r7 r8 r9) := fun W hW => by
    obtain ⟨m0, m1, m2, m3, m4, m5, -⟩ := cells6 (w := W) ((hW.block gm (lt_of_some hgm)).trans hgm)
    obtain ⟨f0, f1, f2, f3, f4, f5, f6, f7, f8, f9, f10, f11, f12, f13, f14, f15, f16, f17⟩ := HH18.out W (up_alX hbx hW)
    exact ⟨m1, m2, m3, m4, m5, f9, f10, f13, f14, f17⟩
  have hSS : ∀ W : World, Below wd.heap.size wd W → ∀ va vb : Value, ((va = .slice a1 n1 c1 ∧ vb = .slice r1 r2 r3) ∨ (va = .slice a2 n2 c2 ∧ vb = .slice r4 r5 r6)) → Calls Try.prog 11 #[va, vb] W fun e w' => e = .returned (.bool true) ∧ Below wd.heap.size wd w' := fun W hW va vb hv => by
    rcases hv with ⟨rfl, rfl⟩ | ⟨rfl, rfl⟩
    · exact same_w oMd.s.rd oR.s.rd W hW
    · exact same_w oMd.e.rd oR.e.rd W hW
  have hP := fun W (hW : Below wd.heap.size wd W) => samep_w oMd.p.rd oR.p.rd W hW
  have hNn := fun W (hW : Below wd.heap.size wd W) => newer_w (r.vr + 2) (r.vr + 1) HEV.out.2.2 W hW
  rw [HEV.out.1, HEV.out.2.1] at hNn
  clear oM hb3 hgm
  refine walk16 (r := r) _ _ _ _ _ _ _ _ _ _ _ _ _ _ _ _ _ _ _ _ _ _ _ _ _ _ _ _ _ _ _ _ _ _ _ _ _ _ _ _ _ _ _ _ _ _ _ _ _ _ _ _ _ _ _ _ _ _ _ _ _ _ _ _ _ _ _ _ _ _ _ _ _ _ _ _ _ _ _ _ _ _ _ _ _ _ _ _ _ _ _ _ _ _ _ _ _ _ _ _ _ _ _ _ _ _ _ _ _ _ _ _ _ _ _ _ _ _ _ _ _ _ _ _ _ _ _ _ _ _ _ _ _ _ _ _ _ _ _ _ _ _ _ _ _ _ _ _ _ _ _ _ _ _ _ _ _ _ _ _ _ _ _ _ _ _ _ _ _ _ _ _ _ _ _ _ _ _ _ _ _ _ _ _ _ _ _ _ _ _ _ _ _ _ _ _ _ _ _ _ _ _ _ _ _ _ _ hkn hnc hcm H16 hSS hP hNn ?_
  clear H16 hSS hP hNn oR oMd
  intro u93 u94 u95 u96 u97 u98 u99 u100 u101 u102 u103 u104 u105 u106 u107 u108 u109 u110 u111 u112 u113 u114 u115 u116 u117 u118 u119 u120 u121 u122 u123 u124 u125 u126 u127 u128 u129 u130 u131 u132 u133 u134 w4 hb4
  have hb5 : Below wc.heap.size wc w4 := up_alX hbx hb4
  have hA4 := HC.out.1.all.below hb5 (Nat.le_refl _)
  obtain ⟨f0, f1, f2, f3, f4, f5, f6, f7, f8, f9, f10, f11, f12, f13, f14, f15, f16, f17⟩ := HH18.out w4 hb5
  have hfz := hA4.froz HC.out.1.ne
  have hf0 := hfz (k * 6)
  have hf1 := hfz (k * 6 + 1)
  have hf2 := hfz (k * 6 + 2)
  have hf3 := hfz (k * 6 + 3)
  have hf4 := hfz (k * 6 + 4)
  have hf5 := hfz (k * 6 + 5)
  have hkl : k < rs.length := by rw [HC.out.2.2]; exact hkn
  have hput := hA4
  rw [← HC.out.2.2] at hput
  have hput := hput.put hkl (rgL r key (.slice x1 y1 z1) (.slice x2 y2 z2) (.slice x3 y3 z3)) ((HO.out.1.below hb5 (Nat.le_refl _)).mono (by omega)) (fun b hbl z => by have := (HO.out.1.lt hbl).1; omega)
  rw [HC.out.2.2] at hput
  have HPUT : Hid (AllR B (.slice (some ⟨g, 0, none⟩) n c) (rs.set k (rgL r key (.slice x1 y1 z1) (.slice x2 y2 z2) (.slice x3 y3 z3))) ((((((w4.setCell ⟨g, k * 6, none⟩ (.int .u64 (r.id.toNat : Int))).setCell ⟨g, k * 6 + 1, none⟩ (.slice x1 y1 z1)).setCell ⟨g, k * 6 + 2, none⟩ (.slice x2 y2 z2)).setCell ⟨g, k * 6 + 3, none⟩ (.int .u64 1)).setCell ⟨g, k * 6 + 4, none⟩ (.int .u64 ((r.vr.toNat : Int) + 1))).setCell ⟨g, k * 6 + 5, none⟩ (.slice x3 y3 z3)) ∧ Chg (fun b => b = g) w4 ((((((w4.setCell ⟨g, k * 6, none⟩ (.int .u64 (r.id.toNat : Int))).setCell ⟨g, k * 6 + 1, none⟩ (.slice x1 y1 z1)).setCell ⟨g, k * 6 + 2, none⟩ (.slice x2 y2 z2)).setCell ⟨g, k * 6 + 3, none⟩ (.int .u64 1)).setCell ⟨g, k * 6 + 4, none⟩ (.int .u64 ((r.vr.toNat : Int) + 1))).setCell ⟨g, k * 6 + 5, none⟩ (.slice x3 y3 z3))) := by rw [← HEV.out.1]; exact hput
  clear hput hA4 hfz hkl hbx hb4
  go_upto_region 19 with fail
  generalize ((((((w4.setCell ⟨g, k * 6, none⟩ (.int .u64 (r.id.toNat : Int))).setCell ⟨g, k * 6 + 1, none⟩ (.slice x1 y1 z1)).setCell ⟨g, k * 6 + 2, none⟩ (.slice x2 y2 z2)).setCell ⟨g, k * 6 + 3, none⟩ (.int .u64 1)).setCell ⟨g, k * 6 + 4, none⟩ (.int .u64 ((r.vr.toNat : Int) + 1))).setCell ⟨g, k * 6 + 5, none⟩ (.slice x3 y3 z3)) = W6 at *
  clear f0 f1 f2 f3 f4 f5 f6 f7 f8 f9 f10 f11 f12 f13 f14 f15 f16 f17 hf0 hf1 hf2 hf3 hf4 hf5
  have bh6 : W6.heap[gb]? = some (.cells #[.int .u64 (nx.toNat : Int), .slice x4 y4 z4, .slice x5 y5 z5, .int .u64 1, .int .u64 ((r.vr.toNat : Int) + 1), .slice x6 y6 z6] 34 (0, 0)) := by
    rw [HPUT.out.2.block gb (by have := hb5.size; omega) (by omega)]
    exact (hb5.block gb hlgb).trans HB.out.2
  have hs6 : w4.heap.size ≤ W6.heap.size := HPUT.out.2.size
  obtain ⟨j0, j1, j2, j3, j4, j5, -⟩ := cells6 bh6
  have hrow : (W6.alloc (.cells #[.int .u64 (nx.toNat : Int), .slice x4 y4 z4, .slice x5 y5 z5, .int .u64 1, .int .u64 ((r.vr.toNat : Int) + 1), .slice x6 y6 z6] 34)).ownsRow B 34 6 (.slice (some ⟨g, 0, none⟩) n c) ((rs.set k (rgL r key (.slice x1 y1 z1) (.slice x2 y2 z2) (.slice x3 y3 z3))).map Rg.v6).length (c6s ((rs.set k (rgL r key (.slice x1 y1 z1) (.slice x2 y2 z2) (.slice x3 y3 z3))).map Rg.v6)) := by
    rw [List.length_map]
    exact (HPUT.out.1.below (g_al W6 _) (Nat.le_refl _)).row
  have hnews : ∀ j x, (c6s [Rg.v6 (rgH r key nx (.slice x4 y4 z4) (.slice x5 y5 z5) (.slice x6 y6 z6))])[j]? = some x → (W6.alloc (.cells #[.int .u64 (nx.toNat : Int), .slice x4 y4 z4, .slice x5 y5 z5, .int .u64 1, .int .u64 ((r.vr.toNat : Int) + 1), .slice x6 y6 z6] 34)).cell? ((⟨W6.heap.size, 0, none⟩ : Addr).add j) = some x := by
    rw [← HEV.out.1]
    exact news_one (Rg.v6 (rgH r key nx (.slice x4 y4 z4) (.slice x5 y5 z5) (.slice x6 y6 z6)))
  have HONE : Hid (∀ u ∈ c6s [Rg.v6 (rgH r key nx (.slice x4 y4 z4) (.slice x5 y5 z5) (.slice x6 y6 z6))], u.oneCell' = true) := c6s_one (rs := [(rgH r key nx (.slice x4 y4 z4) (.slice x5 y5 z5) (.slice x6 y6 z6))]) (fun q hq => by
    obtain rfl : q = (rgH r key nx (.slice x4 y4 z4) (.slice x5 y5 z5) (.slice x6 y6 z6)) := by simpa using hq
    exact HO.out.2)
  have hBs : B ≤ (W6.alloc (.cells #[.int .u64 (nx.toNat : Int), .slice x4 y4 z4, .slice x5 y5 z5, .int .u64 1, .int .u64 ((r.vr.toNat : Int) + 1), .slice x6 y6 z6] 34)).heap.size := by have := hb5.size; simp; omega
  have hlen : ((rs.set k (rgL r key (.slice x1 y1 z1) (.slice x2 y2 z2) (.slice x3 y3 z3))).map Rg.v6).length + 1 ≤ 1099511627776 := by have := HC.out.2.2; simp; omega
  have HFIN : Hid (∀ (v' : Value) (w' : World), w'.ownsRow B 34 6 v' ((rs.set k (rgL r key (.slice x1 y1 z1) (.slice x2 y2 z2) (.slice x3 y3 z3))).map Rg.v6 ++ [Rg.v6 (rgH r key nx (.slice x4 y4 z4) (.slice x5 y5 z5) (.slice x6 y6 z6))]).length (c6s ((rs.set k (rgL r key (.slice x1 y1 z1) (.slice x2 y2 z2) (.slice x3 y3 z3))).map Rg.v6 ++ [Rg.v6 (rgH r key nx (.slice x4 y4 z4) (.slice x5 y5 z5) (.slice x6 y6 z6))])) → (W6.alloc (.cells #[.int .u64 (nx.toNat : Int), .slice x4 y4 z4, .slice x5 y5 z5, .int .u64 1, .int .u64 ((r.vr.toNat : Int) + 1), .slice x6 y6 z6] 34)).grownBy w' (some g) → (v'.ownBlock = some g ∨ v'.ownBlock = some (W6.alloc (.cells #[.int .u64 (nx.toNat : Int), .slice x4 y4 z4, .slice x5 y5 z5, .int .u64 1, .int .u64 ((r.vr.toNat : Int) + 1), .slice x6 y6 z6] 34)).heap.size) → CI B (nx.toNat + 4) (V + 1) v' (rs.set k (rgL r key (.slice x1 y1 z1) (.slice x2 y2 z2) (.slice x3 y3 z3)) ++ [(rgH r key nx (.slice x4 y4 z4) (.slice x5 y5 z5) (.slice x6 y6 z6))]) w' ∧ Below B wc w') := fun v' w' ho hg hv => by
    have hA7 := HPUT.out.1.below (g_al W6 (.cells #[.int .u64 (nx.toNat : Int), .slice x4 y4 z4, .slice x5 y5 z5, .int .u64 1, .int .u64 ((r.vr.toNat : Int) + 1), .slice x6 y6 z6] 34)) (Nat.le_refl _)
    have hb67 : Chg (fun b => b = g) w4 (W6.alloc (.cells #[.int .u64 (nx.toNat : Int), .slice x4 y4 z4, .slice x5 y5 z5, .int .u64 1, .int .u64 ((r.vr.toNat : Int) + 1), .slice x6 y6 z6] 34)) := HPUT.out.2.alloc _
    have hoB : OwR B (W6.alloc (.cells #[.int .u64 (nx.toNat : Int), .slice x4 y4 z4, .slice x5 y5 z5, .int .u64 1, .int .u64 ((r.vr.toNat : Int) + 1), .slice x6 y6 z6] 34)) (.slice x4 y4 z4) (.slice x5 y5 z5) (.slice x6 y6 z6) key r.e (pe3 (nx + 1) (nx + 2) (nx + 3)) := ((HO.out.2.below hb5 (Nat.le_refl _)).keptB hb67 (fun b hbl z => by have := (HO.out.2.lt hbl).1; omega)).mono (by omega)
    obtain ⟨q1, q2, q3⟩ := HC.out.1.split_new hN1 hN hV HC.out.2.1 HKY.out.1 HKY.out.2.1 HKY.out.2.2.1 (.slice x1 y1 z1) (.slice x2 y2 z2) (.slice x3 y3 z3) (.slice x4 y4 z4) (.slice x5 y5 z5) (.slice x6 y6 z6)
    refine ⟨⟨hA7.app (rb := (rgH r key nx (.slice x4 y4 z4) (.slice x5 y5 z5) (.slice x6 y6 z6))) hoB (fun b hbl z => by have := (HO.out.2.lt hbl).1; omega) ho hg hv, q3, q2, q1⟩, ?_⟩
    have hc9 : Chg (fun b => b = g) (W6.alloc (.cells #[.int .u64 (nx.toNat : Int), .slice x4 y4 z4, .slice x5 y5 z5, .int .u64 1, .int .u64 ((r.vr.toNat : Int) + 1), .slice x6 y6 z6] 34)) w' := Chg.of_grown hg (fun b e _ => (Option.some.inj e).symm)
    have z1 : Below B wc w4 := hb5.mono (by omega)
    have z2 : Below B w4 (W6.alloc (.cells #[.int .u64 (nx.toNat : Int), .slice x4 y4 z4, .slice x5 y5 z5, .int .u64 1, .int .u64 ((r.vr.toNat : Int) + 1), .slice x6 y6 z6] 34)) := hb67.below (fun b e => by omega) (by have := hb5.size; omega)
    exact (z1.trans z2).trans (hc9.below (fun b e => by omega) hBs)
  clear bh6 hb5 HPUT
  go_wp2_with (first
    | (at_builtin; refine wpList_appRg rfl _ _ rfl B _ ((rs.set k (rgL r key (.slice x1 y1 z1) (.slice x2 y2 z2) (.slice x3 y3 z3))).map Rg.v6) rfl hrow ⟨W6.heap.size, 0, none⟩ 1 1 [Rg.v6 (rgH r key nx (.slice x4 y4 z4) (.slice x5 y5 z5) (.slice x6 y6 z6))] rfl rfl hnews HONE.out hBs hlen ?_; intro v' w' ho hg hv; have HE : Hid _ := HFIN.out v' w' ho hg hv; obtain ⟨p1, p2, p3, rfl⟩ := row_sl ho; clear ho hg hv hrow hnews)
    | fail)
  exact HK.out _ _ _ _ _ _ _ _ _ _ _ _ _ _ _ _ _ _ _ _ _ _ _ _ _ _ _ _ _ _ _ _ _ _ _ _ _ _ _ _ _ _ _ _ _ _ _ _ _ _ _ _ _ _ _ _ _ _ _ _ _ _ _ _ _ _ _ _ _ _ _ _ _ _ _ _ _ _ _ _ _ _ _ _ _ _ _ _ HE.out.1 HE.out.2
end Go.Proofs.Ytnapkomjegbhcaa
