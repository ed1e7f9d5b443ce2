/- Where Split was refused: the key is the region's own start, or too long. -/
import Derived.Test.YtnapkomjegbhcaaG43
namespace Go.Proofs.Ytnapkomjegbhcaa
open Go.RowKit
set_option linter.unusedVariables false
set_option maxRecDepth 1000000

set_option maxHeartbeats 8000000 in
theorem walk61b {key rsS : List UInt8} {ad : Addr} {ka r1 : Option Addr} {kc r2 r3 nk kcc i g n c k : Nat} {wc : World} {K : Act → World → Prop} {Q : Exit → Act → World → Prop} (t1 t2 t3 t4 t5 t6 t8 t11 t12 t13 t14 t15 t16 t17 t18 t19 t20 t21 t22 t23 t24 t25 t26 t27 t28 t29 t30 t31 t32 t33 t34 t35 t36 t37 t38 t39 t40 t41 t42 t43 t44 t45 t46 t47 t48 t49 t50 t51 t52 t53 t54 t55 t56 t57 t58 t59 t60 t62 t63 t64 t65 t66 t67 t68 t69 t70 t71 t72 t73 t74 t75 t76 t77 t78 t79 t80 t81 t82 t83 t84 t85 t86 t87 t88 t89 t90 t91 t92 t93 t94 t95 t96 t97 t98 t99 t100 t101 t102 t103 t104 t105 t106 t107 t108 t109 t110 t111 t112 t113 t114 t115 t116 t117 t118 t119 t120 t121 t122 t123 t124 t125 t126 t127 t128 t129 t130 t131 t132 t133 t134 t135 t136 t137 t138 t139 t140 t141 t142 t143 t144 t145 t146 t147 t148 t149 t150 t151 t152 t153 t154 t155 t156 t157 t158 t159 t160 t161 t162 t163 t164 t165 t166 t167 t168 t169 t170 t171 t172 t173 t174 t175 t176 t177 t178 t179 t180 t181 t182 t183 t184 t185 t186 t187 t188 t189 t190 t191 t192 t193 t194 t195 t196 t197 t198 t199 t200 t201 t202 t203 t204 t205 t206 t207 t208 t209 t210 t211 : Value)
    (hkn : k < n) (hnc : n ≤ c) (hcm : c ≤ 9223372036854775807) (hin : i < nk) (hnk : nk ≤ 9223372036854775807)
    (hkey : Rd wc (.slice ka key.length kc) key) (hst : Rd wc (.slice r1 r2 r3) rsS) (hbad : key = rsS ∨ 64 < key.length)
    (f0 : wc.cell? (ad.add i) = some (.slice ka key.length kc)) (f1 : wc.cell? ⟨g, k * 6 + 1, none⟩ = some (.slice r1 r2 r3))
    (hK : ∀ (u146 u147 u148 u149 u150 u151 u152 u153 u154 u155 u156 u157 u158 u159 u160 u161 u162 u163 u164 : Value) (w' : World), Below wc.heap.size wc w' → K ⟨#[.slice (some ad) nk kcc, t1, t2, t3, t4, t5, t6, .slice (some ⟨g, 0, none⟩) n c, t8, .int .i64 (i : Int), .int .i64 (k : Int), t11, t12, t13, t14, t15, t16, t17, t18, t19, t20, t21, t22, t23, t24, t25, t26, t27, t28, t29, t30, t31, t32, t33, t34, t35, t36, t37, t38, t39, t40, t41, t42, t43, t44, t45, t46, t47, t48, t49, t50, t51, t52, t53, t54, t55, t56, t57, t58, t59, t60, .bool false, t62, t63, t64, t65, t66, t67, t68, t69, t70, t71, t72, t73, t74, t75, t76, t77, t78, t79, t80, t81, t82, t83, t84, t85, t86, t87, t88, t89, t90, t91, t92, t93, t94, t95, t96, t97, t98, t99, t100, t101, t102, t103, t104, t105, t106, t107, t108, t109, t110, t111, t112, t113, t114, t115, t116, t117, t118, t119, t120, t121, t122, t123, t124, t125, t126, t127, t128, t129, t130, t131, t132, t133, t134, t135, t136, t137, t138, t139, t140, t141, t142, t143, t144, t145, u146, u147, u148, u149, u150, u151, u152, u153, u154, u155, u156, u157, u158, u159, u160, u161, u162, u163, u164, t165, t166, t167, t168, t169, t170, t171, t172, t173, t174, t175, t176, t177, t178, t179, t180, t181, t182, t183, t184, t185, t186, t187, t188, t189, t190, t191, t192, t193, t194, t195, t196, t197, t198, t199, t200, t201, t202, t203, t204, t205, t206, t207, t208, t209, t210, t211], []⟩ w') :
    Code.wp Try.prog code61 (Exit.then K Q) ⟨#[.slice (some ad) nk kcc, t1, t2, t3, t4, t5, t6, .slice (some ⟨g, 0, none⟩) n c, t8, .int .i64 (i : Int), .int .i64 (k : Int), t11, t12, t13, t14, t15, t16, t17, t18, t19, t20, t21, t22, t23, t24, t25, t26, t27, t28, t29, t30, t31, t32, t33, t34, t35, t36, t37, t38, t39, t40, t41, t42, t43, t44, t45, t46, t47, t48, t49, t50, t51, t52, t53, t54, t55, t56, t57, t58, t59, t60, .bool false, t62, t63, t64, t65, t66, t67, t68, t69, t70, t71, t72, t73, t74, t75, t76, t77, t78, t79, t80, t81, t82, t83, t84, t85, t86, t87, t88, t89, t90, t91, t92, t93, t94, t95, t96, t97, t98, t99, t100, t101, t102, t103, t104, t105, t106, t107, t108, t109, t110, t111, t112, t113, t114, t115, t116, t117, t118, t119, t120, t121, t122, t123, t124, t125, t126, t127, t128, t129, t130, t131, t132, t133, t134, t135, t136, t137, t138, t139, t140, t141, t142, t143, t144, t145, t146, t147, t148, t149, t150, t151, t152, t153, t154, t155, t156, t157, t158, t159, t160, t161, t162, t163, t164, t165, t166, t167, t168, t169, t170, t171, t172, t173, t174, t175, t176, t177, t178, t179, t180, t181, t182, t183, t184, t185, t186, t187, t188, t189, t190, t191, t192, t193, t194, t195, t196, t197, t198, t199, t200, t201, t202, t203, t204, t205, t206, t207, t208, t209, t210, t211], []⟩ wc := by
  have HK : Hid _ := hK
  have hkn' : (k : Int) < (n : Int) := by omega
  have hin' : (i : Int) < (nk : Int) := by omega
  have hS := fun q => same_any (hkey.drewN q) (hst.drewN q)
  clear hkey hst hK
  by_cases hq : key = rsS
  · have hd : decide (key = rsS) = true := decide_eq_true hq
    rw [hd] at hS
    clear hq hd hbad
    generalize key.length = kl at *
    conv => arg 2; whnf
    go_upto_region 21 with fail
    go_quiet (first | (go_at_call 11; refine Calls.quiet_of (v := .bool true) (hS _)) | fail)
    all_goals go_wp2_with fail
    all_goals (exact HK.out _ _ _ _ _ _ _ _ _ _ _ _ _ _ _ _ _ _ _ _ (Below.dN _ _))
  · have hd : decide (key = rsS) = false := decide_eq_false hq
    have hl : 64 < key.length := hbad.resolve_left hq
    rw [hd] at hS
    clear hq hd hbad
    generalize key.length = kl at *
    have hl2 : decide ((kl : Int) ≤ 64) = false := decide_eq_false (by omega)
    conv => arg 2; whnf
    go_upto_region 21 with fail
    go_quiet (first | (go_at_call 11; refine Calls.quiet_of (v := .bool false) (hS _)) | fail)
    all_goals go_wp2_with fail
    all_goals (exact HK.out _ _ _ _ _ _ _ _ _ _ _ _ _ _ _ _ _ _ _ _ (Below.dN _ _))
end Go.Proofs.Ytnapkomjegbhcaa
