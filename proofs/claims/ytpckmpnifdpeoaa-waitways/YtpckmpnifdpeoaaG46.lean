/- The law's own circle, of edges without one: false. -/
import Derived.Test.YtpckmpnifdpeoaaG45
namespace Go.Proofs.Ytpckmpnifdpeoaa
open Go.RowKit
set_option linter.unusedVariables false
set_option maxRecDepth 100000

def lenS : Value → Nat
  | .slice _ n _ => n
  | _ => 0
theorem goes_any (E : List Ed) (e : Ed) : W.goes E e = E.any (fun f => f.1 == e.2) := rfl
theorem any_step {E : List Ed} {e : Ed} {k : Nat} {f : Ed} (hf : E[k]? = some f) : (E.take (k + 1)).any (fun g => g.1 == e.2) = ((E.take k).any (fun g => g.1 == e.2) || f.1 == e.2) := by
  rw [List.take_add_one, hf, List.any_append]; simp
theorem filt_step {E : List Ed} {p : Ed → Bool} {k : Nat} {f : Ed} (hf : E[k]? = some f) : (E.take (k + 1)).filter p = (E.take k).filter p ++ (if p f then [f] else []) := by
  rw [List.take_add_one, hf, List.filter_append]
  congr 1
  simp [List.filter_cons]
set_option maxHeartbeats 4000000 in
theorem circle_any {v : Value} {E : List Ed} {w : World} (h : RdE w v E) (hl : E.length ≤ 4096) (hac : W.Acy E) :
    Calls Try.prog 16 #[v] w fun r w' => r = .returned (.bool false) ∧ Below w.heap.size w w' := by
  have hsh : ∃ a n c, v = .slice a n c := by obtain ⟨a, c, e, _⟩ := h.shape; exact ⟨_, _, _, e⟩
  obtain ⟨a0, n0, c0, rfl⟩ := hsh
  go_enter Try.func16, Try.ntmps16
  go_wp2_with fail
  go_loopw [0, 3, 4, 5, 6] (fun vs _ _ _ _ wr => ∃ G : List Ed, RdE wr vs G ∧ G.length ≤ 4096 ∧ W.Acy G ∧ Below w.heap.size w wr) (fun vs _ _ _ _ _ => lenS vs)
  case atStart => exact ⟨E, h, hl, hac, Below.refl _ _⟩
  case round =>
    obtain ⟨G, hG, hGl, hGa, hb⟩ := hrel
    clear h hac
    obtain ⟨ao, c, ev, h1, h2⟩ := hG.shape
    subst ev
    have HRG : Hid (RdE wr (.slice ao G.length c) G) := hG
    have HB : Hid (Below w.heap.size w wr) := hb
    clear hG hb
    generalize wr = wo at *
    go_wp2_with fail
    go_loopw [3, 4, 5, 6] (fun lv i _ _ wr => ∃ k : Nat, k ≤ G.length ∧ i = .int .i64 k ∧ OwE wo.heap.size wr lv ((G.take k).filter (W.goes G)) ∧ Below wo.heap.size wo wr) (fun _ i _ _ _ => G.length - (intOf i).toNat)
    case atStart => exact ⟨0, Nat.zero_le _, rfl, OwE.nil _ _, Below.refl _ _⟩
    case round =>
      obtain ⟨k, hk, rfl, hlv, hbk⟩ := hrel
      by_cases hlt : k < G.length
      · obtain ⟨⟨p1, p2⟩, hp⟩ : ∃ p, G[k]? = some p := ⟨_, List.getElem?_eq_getElem hlt⟩
        have hki : (k : Int) < (G.length : Int) := by omega
        have HP : Hid (G[k]? = some (p1, p2)) := hp
        obtain ⟨av, cv, ev, -⟩ := hlv.rd.shape
        subst ev
        have HLV : Hid (OwE wo.heap.size wr (.slice av ((G.take k).filter (W.goes G)).length cv) ((G.take k).filter (W.goes G))) := hlv
        have HBK : Hid (Below wo.heap.size wo wr) := hbk
        generalize hln : ((G.take k).filter (W.goes G)).length = ln at *
        have hlnb : ln ≤ 4096 := by rw [← hln]; exact Nat.le_trans (List.length_filter_le _ _) (by simp; omega)
        clear hp hlv hbk hln
        generalize wr = wm at *
        go_wp2_with fail
        go_loopw [5, 6] (fun t j wr => ∃ kj : Nat, kj ≤ G.length ∧ j = .int .i64 kj ∧ t = .bool ((G.take kj).any (fun f => f.1 == p2)) ∧ Below wm.heap.size wm wr) (fun _ j _ => G.length - (intOf j).toNat)
        case atStart => exact ⟨0, Nat.zero_le _, rfl, rfl, Below.refl _ _⟩
        case round =>
          obtain ⟨kj, hkj, rfl, rfl, hbj⟩ := hrel
          by_cases hlj : kj < G.length
          · obtain ⟨⟨r1, r2⟩, hr⟩ : ∃ p, G[kj]? = some p := ⟨_, List.getElem?_eq_getElem hlj⟩
            have hbw : Below wo.heap.size wo wr := HBK.out.trans (hbj.mono HBK.out.size)
            have hGr := HRG.out.below hbw (Nat.le_refl _)
            obtain ⟨ad, rfl, d0, d1⟩ := hGr.at_ hr
            obtain ⟨ad', ea, y0, y1⟩ := hGr.at_ HP.out
            obtain rfl := Option.some.inj ea
            simp only [] at d0 d1 y0 y1
            have hkji : (kj : Int) < (G.length : Int) := by omega
            have HST : Hid ((G.take (kj + 1)).any (fun f => f.1 == p2) = ((G.take kj).any (fun f => f.1 == p2) || r1 == p2)) := any_step (e := (p1, p2)) hr
            clear hr hGr hbw
            generalize (G.take kj).any (fun f => f.1 == p2) = t at *
            cases t with
            | true =>
              have HT : Hid ((G.take (kj + 1)).any (fun f => f.1 == p2) = true) := by show _ = _; rw [HST.out]; rfl
              clear HST
              go_wp2_with fail
              go_quiet (fail)
              go_wp2_with fail
              exact ⟨⟨kj + 1, by omega, by go_num, by rw [HT.out], Below.tr hbj (Below.dN wr _)⟩, by simp [intOf]; omega⟩
            | false =>
              have HT : Hid ((G.take (kj + 1)).any (fun f => f.1 == p2) = ((r1.toNat : Int) == (p2.toNat : Int))) := by show _ = _; rw [HST.out, u_eq]; rfl
              clear HST
              go_wp2_with fail
              go_quiet (fail)
              go_wp2_with fail
              exact ⟨⟨kj + 1, by omega, by go_num, by rw [HT.out], Below.tr hbj (Below.dN wr _)⟩, by simp [intOf]; omega⟩
          · obtain rfl : kj = G.length := by omega
            have hgo : (G.take G.length).any (fun f => f.1 == p2) = W.goes G (p1, p2) := by rw [List.take_length]; rfl
            rw [hgo]
            have HFS : Hid ((G.take (k + 1)).filter (W.goes G) = (G.take k).filter (W.goes G) ++ (if W.goes G (p1, p2) then [(p1, p2)] else [])) := filt_step HP.out
            have hbw : Below wo.heap.size wo wr := HBK.out.trans (hbj.mono HBK.out.size)
            have hlvr := HLV.out.below hbj (Nat.le_refl _)
            cases hg : W.goes G (p1, p2) with
            | false =>
              have HE : Hid (OwE wo.heap.size wr (.slice av ln cv) ((G.take (k + 1)).filter (W.goes G)) ∧ Below wo.heap.size wo wr) := by
                refine ⟨?_, hbw⟩
                rw [HFS.out, hg]; simpa using hlvr
              clear hlvr hbw hg hgo HFS
              go_wp2_with fail
              exact ⟨⟨k + 1, by omega, by go_num, HE.out.1, HE.out.2⟩, by simp [intOf]; omega⟩
            | true =>
              have hGr := HRG.out.below hbw (Nat.le_refl _)
              obtain ⟨ad, rfl, d0, d1⟩ := hGr.at_ HP.out
              simp only [] at d0 d1
              have hws : wo.heap.size ≤ wr.heap.size := hbw.size
              have hnw := heap_alloc_new wr (.cells #[.int .u64 (p1.toNat : Int), .int .u64 (p2.toNat : Int)] 31)
              obtain ⟨x0, x1, -⟩ := box2 hnw
              have hrd := rdE_one (wr.alloc (.cells #[.int .u64 (p1.toNat : Int), .int .u64 (p2.toNat : Int)] 31)) wr.heap.size (p1, p2) ⟨x0, x1⟩
              have hbA := w_al wr (.cells #[.int .u64 (p1.toNat : Int), .int .u64 (p2.toNat : Int)] 31)
              have hlvA := hlvr.below hbA (Nat.le_refl _)
              have HE : Hid (∀ v' w', OwE wo.heap.size w' v' ((G.take k).filter (W.goes G) ++ [(p1, p2)]) → (wr.alloc (.cells #[.int .u64 (p1.toNat : Int), .int .u64 (p2.toNat : Int)] 31)).grownBy w' (Value.slice av ln cv).ownBlock → OwE wo.heap.size w' v' ((G.take (k + 1)).filter (W.goes G)) ∧ Below wo.heap.size wo w') := fun v' w' q1 q2 => by
                refine ⟨by rw [HFS.out, hg]; exact q1, hbw.trans ((hbA.mono hws).trans ((Below.refl _ _).grown q2 (Nat.le_trans hws hbA.size) (fun j e => (hlvr.lt j e).1)))⟩
              have hlen2 : ((G.take k).filter (W.goes G)).length + [(p1, p2)].length ≤ 1099511627776 := by
                have : ((G.take k).filter (W.goes G)).length ≤ (G.take k).length := List.length_filter_le _ _
                simp at this ⊢
                omega
              have hBs : wo.heap.size ≤ (wr.alloc (.cells #[.int .u64 (p1.toNat : Int), .int .u64 (p2.toNat : Int)] 31)).heap.size := Nat.le_trans hws hbA.size
              clear hlvr hbw hg hgo HFS hnw x0 x1 hGr
              go_wp2_with (first | (at_builtin; refine wpList_appE rfl _ _ rfl wo.heap.size _ ((G.take k).filter (W.goes G)) rfl hlvA _ [(p1, p2)] rfl hrd hBs hlen2 ?_; intro v' w' q1 q2 q3) | fail)
              exact ⟨⟨k + 1, by omega, by go_num, (HE.out v' w' q1 q2).1, (HE.out v' w' q1 q2).2⟩, by simp [intOf]; omega⟩
      · obtain rfl : k = G.length := by omega
        rw [List.take_length] at hlv
        obtain ⟨av, cv, ev, -⟩ := hlv.rd.shape
        subst ev
        by_cases hGe : G = []
        · subst hGe
          have HBE : Hid (Below w.heap.size w wr) := HB.out.trans (hbk.mono HB.out.size)
          clear hlv hbk
          go_wp2_with fail
          go_ret
          exact ⟨rfl, HBE.out⟩
        · have hless := hGa.less hGe
          have hne : (((G.filter (W.goes G)).length : Int) == (G.length : Int)) = false := by rw [beq_eq_false_iff_ne]; omega
          have hne2 : ¬ (G.filter (W.goes G)).length = G.length := by omega
          have HEND : Hid (RdE wr (.slice av (G.filter (W.goes G)).length cv) (G.filter (W.goes G)) ∧ (G.filter (W.goes G)).length ≤ 4096 ∧ W.Acy (G.filter (W.goes G)) ∧ Below w.heap.size w wr) := ⟨hlv.rd, by omega, hGa.sub (fun e he => (List.mem_filter.1 he).1), HB.out.trans (hbk.mono HB.out.size)⟩
          have HLS : Hid ((G.filter (W.goes G)).length < G.length) := hless
          clear hlv hbk hless
          generalize G.filter (W.goes G) = G2 at *
          go_wp2_with fail
          exact ⟨⟨G2, HEND.out⟩, HLS.out⟩
end Go.Proofs.Ytpckmpnifdpeoaa
