/- The law's count: just one region covers the key that is asked. -/
import Derived.Test.YtnapkomjegbhcaaG40
namespace Go.Proofs.Ytnapkomjegbhcaa
open Go.RowKit
set_option linter.unusedVariables false
set_option maxRecDepth 1000000

/-- Does that region lie in the text? -/
def hasReg (n : Nat) : Code → Bool
  | .region m _ _ => if m = n then true else false
  | .seq a b => hasReg n a || hasReg n b
  | .block _ c => hasReg n c
  | .loop c => hasReg n c
  | .scope c => hasReg n c
  | .cond _ a b => hasReg n a || hasReg n b
  | _ => false
/-- The innermost block that holds it. -/
def blkOf (n : Nat) : Code → Option Code
  | .block i c => match blkOf n c with
    | some d => some d
    | none => if hasReg n c = true then some (.block i c) else none
  | .seq a b => match blkOf n a with
    | some c => some c
    | none => blkOf n b
  | .loop c => blkOf n c
  | .scope c => blkOf n c
  | .cond _ a b => match blkOf n a with
    | some c => some c
    | none => blkOf n b
  | _ => none
noncomputable def codeL : Code := ((Try.f3.body.bind (blkOf 29)).getD .skip)
theorem count_step {rs : List Rg} {j : Nat} {q : Rg} (h : rs[j]? = some q) (ask : List UInt8) : (rs.take (j + 1)).countP (fun r => cov r.s r.e ask) = (rs.take j).countP (fun r => cov r.s r.e ask) + (if cov q.s q.e ask = true then 1 else 0) := by
  have hj := (List.getElem?_eq_some_iff.1 h).1
  have e : rs.take (j + 1) = rs.take j ++ [q] := by rw [List.take_add_one, h]; rfl
  rw [e, List.countP_append]
  by_cases hc : cov q.s q.e ask = true <;> simp [hc]
theorem count_all {rs : List Rg} (h : Prt (rs.map Rg.r3)) (ask : List UInt8) : rs.countP (fun r => cov r.s r.e ask) = 1 := by
  have := h.once ask
  rw [List.countP_map] at this
  exact this
set_option maxHeartbeats 8000000 in
theorem walkL {B N V : Nat} {rs : List Rg} {ask : List UInt8} {aao : Option Addr} {acc al g n c : Nat} {wc : World} {K : Act → World → Prop} {Q : Exit → Act → World → Prop} (t0 t1 t3 t4 t5 t6 t8 t9 t10 t11 t12 t13 t14 t15 t18 t19 t20 t21 t22 t23 t24 t25 t26 t27 t28 t29 t30 t31 t32 t33 t34 t35 t36 t37 t38 t39 t40 t41 t42 t43 t44 t45 t46 t47 t48 t49 t50 t51 t52 t53 t54 t55 t56 t57 t58 t59 t60 t61 t62 t63 t64 t65 t66 t67 t68 t69 t70 t71 t72 t73 t74 t75 t76 t77 t78 t79 t80 t81 t82 t83 t84 t85 t86 t87 t88 t89 t90 t91 t92 t93 t94 t95 t96 t97 t98 t99 t100 t101 t102 t103 t104 t105 t106 t107 t108 t109 t110 t111 t112 t113 t114 t115 t116 t117 t118 t119 t120 t121 t122 t123 t124 t125 t126 t127 t128 t129 t130 t131 t132 t133 t134 t135 t136 t137 t138 t139 t140 t141 t142 t143 t144 t145 t146 t147 t148 t149 t150 t151 t152 t153 t154 t155 t156 t157 t158 t159 t160 t161 t162 t163 t164 t165 t166 t167 t168 t169 t170 t171 t172 t173 t174 t175 t176 t177 t178 t179 t180 t181 t182 t183 t184 t185 t186 t187 t188 t189 t190 t191 t192 t193 t194 t195 t196 t197 t198 t199 t200 t201 t202 t203 t204 t205 t206 t207 t208 t209 t210 t211 : Value)
    (hC : CI B N V (.slice (some ⟨g, 0, none⟩) n c) rs wc) (hn : rs.length = n) (hu : n ≤ 100) (hnc : n ≤ c) (hcm : c ≤ 9223372036854775807) (ha : Rd wc (.slice aao al acc) ask)
    (hK : ∀ (u17 u183 u184 u185 u186 u187 u188 u189 u190 u191 u192 u193 u194 u195 u196 : Value) (w' : World), Below wc.heap.size wc w' → K ⟨#[t0, t1, .slice aao al acc, t3, t4, t5, t6, .slice (some ⟨g, 0, none⟩) n c, t8, t9, t10, t11, t12, t13, t14, t15, .int .i64 1, u17, t18, t19, t20, t21, t22, t23, t24, t25, t26, t27, t28, t29, t30, t31, t32, t33, t34, t35, t36, t37, t38, t39, t40, t41, t42, t43, t44, t45, t46, t47, t48, t49, t50, t51, t52, t53, t54, t55, t56, t57, t58, t59, t60, t61, t62, t63, t64, t65, t66, t67, t68, t69, t70, t71, t72, t73, t74, t75, t76, t77, t78, t79, t80, t81, t82, t83, t84, t85, t86, t87, t88, t89, t90, t91, t92, t93, t94, t95, t96, t97, t98, t99, t100, t101, t102, t103, t104, t105, t106, t107, t108, t109, t110, t111, t112, t113, t114, t115, t116, t117, t118, t119, t120, t121, t122, t123, t124, t125, t126, t127, t128, t129, t130, t131, t132, t133, t134, t135, t136, t137, t138, t139, t140, t141, t142, t143, t144, t145, t146, t147, t148, t149, t150, t151, t152, t153, t154, t155, t156, t157, t158, t159, t160, t161, t162, t163, t164, t165, t166, t167, t168, t169, t170, t171, t172, t173, t174, t175, t176, t177, t178, t179, t180, t181, t182, u183, u184, u185, u186, u187, u188, u189, u190, u191, u192, u193, u194, u195, u196, t197, t198, t199, t200, t201, t202, t203, t204, t205, t206, t207, t208, t209, t210, t211], []⟩ w') :
    Code.wp Try.prog codeL (Exit.then K Q) ⟨#[t0, t1, .slice aao al acc, t3, t4, t5, t6, .slice (some ⟨g, 0, none⟩) n c, t8, t9, t10, t11, t12, t13, t14, t15, .int .i64 0, .int .i64 0, t18, t19, t20, t21, t22, t23, t24, t25, t26, t27, t28, t29, t30, t31, t32, t33, t34, t35, t36, t37, t38, t39, t40, t41, t42, t43, t44, t45, t46, t47, t48, t49, t50, t51, t52, t53, t54, t55, t56, t57, t58, t59, t60, t61, t62, t63, t64, t65, t66, t67, t68, t69, t70, t71, t72, t73, t74, t75, t76, t77, t78, t79, t80, t81, t82, t83, t84, t85, t86, t87, t88, t89, t90, t91, t92, t93, t94, t95, t96, t97, t98, t99, t100, t101, t102, t103, t104, t105, t106, t107, t108, t109, t110, t111, t112, t113, t114, t115, t116, t117, t118, t119, t120, t121, t122, t123, t124, t125, t126, t127, t128, t129, t130, t131, t132, t133, t134, t135, t136, t137, t138, t139, t140, t141, t142, t143, t144, t145, t146, t147, t148, t149, t150, t151, t152, t153, t154, t155, t156, t157, t158, t159, t160, t161, t162, t163, t164, t165, t166, t167, t168, t169, t170, t171, t172, t173, t174, t175, t176, t177, t178, t179, t180, t181, t182, t183, t184, t185, t186, t187, t188, t189, t190, t191, t192, t193, t194, t195, t196, t197, t198, t199, t200, t201, t202, t203, t204, t205, t206, t207, t208, t209, t210, t211], []⟩ wc := by
  have HK : Hid _ := hK
  have HC : Hid (CI B N V (.slice (some ⟨g, 0, none⟩) n c) rs wc) := hC
  have HA : Hid (Rd wc (.slice aao al acc) ask) := ha
  have HN : Hid (rs.length = n) := hn
  clear hK hC ha hn
  conv => arg 2; whnf
  go_wp2_with fail
  go_loopw [16, 17] (fun ct jv wr => ∃ j : Nat, j ≤ n ∧ jv = .int .i64 j ∧ ct = .int .i64 (((rs.take j).countP (fun r => cov r.s r.e ask) : Nat) : Int) ∧ Below wc.heap.size wc wr) (fun _ jv _ => n - (intOf jv).toNat)
  case atStart => exact ⟨0, Nat.zero_le _, rfl, by simp, Below.refl _ _⟩
  case round =>
    obtain ⟨j, hj, rfl, rfl, hb⟩ := hrel
    by_cases hlt : j < n
    · have hlt' : (j : Int) < (n : Int) := by omega
      have hjl : j < rs.length := by rw [HN.out]; exact hlt
      obtain ⟨q, hq⟩ : ∃ q, rs[j]? = some q := ⟨_, List.getElem?_eq_getElem hjl⟩
      have hCr := HC.out.below hb (Nat.le_refl _)
      obtain ⟨e0, e1, e2, e3, e4, e5⟩ := hCr.all.c6 hq
      have oq := hCr.all.own q (List.mem_of_getElem? hq)
      simp only [Rg.v6] at e0 e1 e2 e3 e4 e5
      obtain ⟨q1, q3, eq1⟩ := oq.s.rd.shp
      obtain ⟨q4, q6, eq2⟩ := oq.e.rd.shp
      obtain ⟨q7, q9, eq3⟩ := oq.p.shape
      have hcv := covers_any (i := (q.id.toNat : Int)) (c := 1) (r := (q.vr.toNat : Int)) (pa := q7) (pn := q.pe.length) (pk := q9) oq.s.rd oq.e.rd (HA.out.below hb (Nat.le_refl _))
      rw [eq1, eq2] at hcv
      rw [eq1] at e1
      rw [eq2] at e2
      rw [eq3] at e5
      have hst := count_step hq ask
      have HST : Hid _ := hst
      have hcl : (rs.take j).countP (fun r => cov r.s r.e ask) ≤ 100 := Nat.le_trans List.countP_le_length (by rw [List.length_take]; omega)
      obtain ⟨ct, hct⟩ : ∃ ct, (rs.take j).countP (fun r => cov r.s r.e ask) = ct := ⟨_, rfl⟩
      rw [hct] at hcl
      simp only [hct]
      have HCT : Hid _ := hct
      generalize q.pe.length = q8 at *
      generalize q.s.length = q2 at *
      generalize q.e.length = q5 at *
      have hwr : IntKind.i64.wrap ((j : Int) + 1) = ((j + 1 : Nat) : Int) := by rw [IntKind.wrap_i64]; omega
      clear hct hst oq hCr eq1 eq2 eq3
      cases hcov : cov q.s q.e ask with
      | true =>
        rw [hcov] at hcv
        go_wp2_with fail
        refine hcv.mono ?_
        rintro x w2 ⟨rfl, hb2⟩
        have hb3 := up_alX hb hb2
        clear hcv hb2
        go_wp2_with fail
        exact ⟨⟨j + 1, by omega, by go_num, by have h1 := HST.out; have h2 := HCT.out; rw [h2, hcov] at h1; rw [h1]; simp, hb3⟩, by simp [intOf]; omega⟩
      | false =>
        rw [hcov] at hcv
        go_wp2_with fail
        refine hcv.mono ?_
        rintro x w2 ⟨rfl, hb2⟩
        have hb3 := up_alX hb hb2
        clear hcv hb2
        go_wp2_with fail
        exact ⟨⟨j + 1, by omega, by go_num, by have h1 := HST.out; have h2 := HCT.out; rw [h2, hcov] at h1; rw [h1]; simp, hb3⟩, by simp [intOf]; omega⟩
    · have hjn : j = n := by omega
      have hall : (rs.take j).countP (fun r => cov r.s r.e ask) = 1 := by
        rw [List.take_of_length_le (by rw [HN.out]; omega)]
        exact count_all HC.out.prt ask
      rw [hall]
      clear hall
      subst hjn
      go_wp2_with fail
      exact HK.out _ _ _ _ _ _ _ _ _ _ _ _ _ _ _ _ hb
end Go.Proofs.Ytnapkomjegbhcaa
