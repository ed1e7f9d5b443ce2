/- The document's Wait. -/
import Derived.Test.YtipnghaphfgalaaG44
import Derived.Test.YtipnghaphfgalaaG48
import Derived.Test.YtipnghaphfgalaaG35
namespace Go.Proofs.Ytipnghaphfgalaa
open Go.RowKit
set_option linter.unusedVariables false
set_option maxRecDepth 100000

theorem box2E (w : World) (a b : UInt64) : EdAt (w.alloc (.cells #[.int .u64 (a.toNat : Int), .int .u64 (b.toNat : Int)] 31)) ⟨w.heap.size, 0, none⟩ (a, b) := by
  obtain ⟨x0, x1, _⟩ := box2 (heap_alloc_new w (.cells #[.int .u64 (a.toNat : Int), .int .u64 (b.toNat : Int)] 31))
  exact ⟨x0, x1⟩
def RWaitP (B y : Nat) (v : Value) (E : List Ed) (a b : UInt64) (w : World) (r : Ending) (w' : World) : Prop :=
  ∃ vr v' ro, r = .returned (.tuple #[vr, .int .i64 (wtN E a b ro)]) ∧ W.Bfs E a [[b]] [b] ro ∧ Ru w' vr (ro.getD []) ∧ (∀ z, ro = some z → z ≠ [] ∧ z.length ≤ 4097) ∧ RGr B y v' (wtE E a b ro) w' ∧ Chg (fun b => b = y) w w' ∧ (v' = v ∨ ∀ g, v'.ownBlock = some g → w.heap.size ≤ g)
set_option maxHeartbeats 4000000 in
theorem rwait_any {B y : Nat} {v : Value} {E : List Ed} {w : World} (h : RGr B y v E w) (hris : W.Ris E) (hlen : E.length ≤ 4096) (a b : UInt64) :
    Calls Try.prog 26 #[.pointer (some ⟨y, 0, none⟩), .int .u64 (a.toNat : Int), .int .u64 (b.toNat : Int)] w (RWaitP B y v E a b w) := by
  have hway := rway_any h hlen b a
  have hyl := h.xlt
  generalize hP : RWaitP B y v E a b w = POST
  have HP : Hid (RWaitP B y v E a b w = POST) := hP
  clear hP
  go_enter Try.func26, Try.ntmps26
  go_wp2_with fail
  refine hway.mono ?_
  rintro r w1 ⟨vr, ro, rfl, hbfs, hru, hz, hzn, hb1⟩
  have h1 := h.below hb1 (Nat.le_refl _)
  have hch1 : Chg (fun b => b = y) w w1 := (Chg.of_below hb1).mono (fun b q1 q2 => by omega)
  cases ro with
  | some z =>
    obtain ⟨hz1, hz2⟩ := hz z rfl
    obtain ⟨za, zc, ez⟩ := hru.shape
    have ez' : vr = .slice za z.length zc := ez
    have hzp := List.length_pos_iff.2 hz1
    have HF : Hid (POST (.returned (.tuple #[vr, .int .i64 120])) w1) := by
      show POST _ _
      rw [← HP.out]
      exact ⟨vr, v, some z, rfl, hbfs, hru, hz, h1, hch1, .inl rfl⟩
    subst ez'
    clear hway h h1 hru hz hch1 ez
    have hzi : (0 : Int) < (z.length : Int) := by omega
    generalize z.length = nz at *
    go_wp2_with fail
    exact HF.out
  | none =>
    obtain rfl := hzn rfl
    have hbA := w_al w1 (.cells #[.int .u64 (a.toNat : Int), .int .u64 (b.toNat : Int)] 31)
    have hnA := heap_alloc_new w1 (.cells #[.int .u64 (a.toNat : Int), .int .u64 (b.toNat : Int)] 31)
    have hA := h1.below hbA (Nat.le_refl _)
    have hhas := rhas_any hA hlen a b
    obtain ⟨xA0, xA1, -⟩ := box2 hnA
    have HKA : Hid (∀ W' : World, Below (w1.alloc (.cells #[.int .u64 (a.toNat : Int), .int .u64 (b.toNat : Int)] 31)).heap.size (w1.alloc (.cells #[.int .u64 (a.toNat : Int), .int .u64 (b.toNat : Int)] 31)) W' → RGr B y v E W' ∧ W'.cell? ⟨w1.heap.size, 0, none⟩ = some (.int .u64 (a.toNat : Int)) ∧ W'.cell? ⟨w1.heap.size, 1, none⟩ = some (.int .u64 (b.toNat : Int)) ∧ Chg (fun b => b = y) w W') := fun W' hb => by
      have hlt : w1.heap.size < (w1.alloc (.cells #[.int .u64 (a.toNat : Int), .int .u64 (b.toNat : Int)] 31)).heap.size := by simp
      refine ⟨hA.below hb (Nat.le_refl _), by rw [hb.cell hlt]; exact xA0, by rw [hb.cell hlt]; exact xA1, ?_⟩
      have hs1 := hch1.size
      have hs2 := hbA.size
      exact hch1.trans (((Chg.of_below hbA).trans ((Chg.of_below hb).mono (fun b q1 q2 => by first | exact q2 | omega))).mono (fun b q1 q2 => by omega))
    have HE0 : Hid (wtE E a b none = if W.is E (a, b) then E else if 4096 ≤ E.length then E else W.ins E (a, b)) := rfl
    have HN0 : Hid (wtN E a b none = if W.is E (a, b) then 0 else if 4096 ≤ E.length then 2 else 0) := rfl
    have HIS : Hid (decide ((a, b) ∈ E) = W.is E (a, b)) := by
      show _ = _
      cases hq : W.is E (a, b) with
      | true => exact decide_eq_true ((W.is_iff hris _).1 hq)
      | false => exact decide_eq_false ((W.is_false hris _).1 hq)
    rw [HIS.out] at hhas
    generalize W.is E (a, b) = t at *
    clear hway h hA hnA xA0 xA1 hru hz hzn
    go_wp2_with fail
    refine hhas.mono ?_
    rintro r w2 ⟨rfl, hb2⟩
    obtain ⟨h2, e0, e1, hch2⟩ := HKA.out w2 hb2
    cases t with
    | true =>
      have HF : Hid (POST (.returned (.tuple #[.slice none 0 0, .int .i64 0])) w2) := by
        show POST _ _
        rw [← HP.out]
        have e1 : wtE E a b none = E := by rw [HE0.out]; rfl
        have e2 : wtN E a b none = 0 := by rw [HN0.out]; rfl
        exact ⟨_, v, none, by rw [e2], hbfs, Ru.nil _, (fun z q => by cases q), by rw [e1]; exact h2, hch2, .inl rfl⟩
      clear h1 h2 hhas e0 e1 hch1 hch2
      go_wp2_with fail
      exact HF.out
    | false =>
      obtain ⟨c0, cz⟩ := h2.vx
      obtain ⟨va, vc, ev, hv1, hv2⟩ := h2.row.rd.shape
      by_cases hfull : 4096 ≤ E.length
      · have HF : Hid (POST (.returned (.tuple #[.slice none 0 0, .int .i64 2])) w2) := by
          show POST _ _
          rw [← HP.out]
          have e1 : wtE E a b none = E := by rw [HE0.out, if_neg (by simp), if_pos hfull]
          have e2 : wtN E a b none = 2 := by rw [HN0.out, if_neg (by simp), if_pos hfull]
          exact ⟨_, v, none, by rw [e2], hbfs, Ru.nil _, (fun z q => by cases q), by rw [e1]; exact h2, hch2, .inl rfl⟩
        have hfi : (4096 : Int) ≤ (E.length : Int) := by omega
        subst ev
        clear h1 h2 hhas e0 e1 hch1 hch2
        go_wp2_with fail
        exact HF.out
      · have hfi : ¬ (4096 : Int) ≤ (E.length : Int) := by omega
        have hEl : E.length < 4096 := by omega
        have hfd : decide ((4096 : Int) ≤ (E.length : Int)) = false := decide_eq_false hfi
        subst ev
        have HRE : Hid (RdE w2 (.slice va E.length vc) E) := h2.row.rd
        have hyl2 := h2.xlt
        have hwl : w1.heap.size < w2.heap.size := by have := hb2.size; simp at this; omega
        have HK2 : Hid (∀ W' : World, Below w2.heap.size w2 W' → W'.cell? ⟨y, 0, none⟩ = some (.slice va E.length vc) ∧ W'.cell? ⟨w1.heap.size, 0, none⟩ = some (.int .u64 (a.toNat : Int)) ∧ W'.cell? ⟨w1.heap.size, 1, none⟩ = some (.int .u64 (b.toNat : Int)) ∧ W'.frozen? ⟨y, 0, none⟩ = false) := fun W' hb => by
          exact ⟨by rw [hb.cell hyl2]; exact c0, by rw [hb.cell hwl]; exact e0, by rw [hb.cell hwl]; exact e1, by rw [World.frozen?_of_block (w := w2) (hb.block y hyl2)]; exact cz 0⟩
        have HFIN : Hid (∀ (v4 : Value) (w4 : World) (i : Nat), i = W.pl E (a, b) → Below w2.heap.size w2 w4 → OwE w2.heap.size w4 v4 (E.take i ++ [(a, b)] ++ E.drop i) → POST (.returned (.tuple #[.slice none 0 0, .int .i64 0])) (w4.setCell ⟨y, 0, none⟩ v4)) := fun v4 w4 i hi hb ho => by
          rw [← HP.out]
          have e1 : wtE E a b none = W.ins E (a, b) := by rw [HE0.out, if_neg (by simp), if_neg hfull]
          have e2 : wtN E a b none = 0 := by rw [HN0.out, if_neg (by simp), if_neg hfull]
          have he : E.take i ++ [(a, b)] ++ E.drop i = W.ins E (a, b) := by rw [hi]; simp [W.ins]
          rw [he] at ho
          obtain ⟨hp1, hp2⟩ := h2.put hb ho
          refine ⟨_, v4, none, by rw [e2], hbfs, Ru.nil _, (fun z q => by cases q), by rw [e1]; exact hp1, hch2.trans (hp2.mono (fun b _ q => .inl q)), .inr (fun g e => Nat.le_trans hch2.size (ho.lt g e).1)⟩
        clear h1 h2 hhas e0 e1 hch1 hch2 cz hbA hb2
        go_wp2_with fail
        go_loopw [11] (fun i wr => ∃ k : Nat, k ≤ E.length ∧ i = .int .i64 k ∧ Hid (∀ j p, j < k → E[j]? = some p → W.elt p (a, b)) ∧ Below w2.heap.size w2 wr) (fun i _ => E.length - (intOf i).toNat)
        case atStart => exact ⟨0, Nat.zero_le _, rfl, (fun j p q => by omega), Below.refl _ _⟩
        case round =>
          obtain ⟨k, hk, rfl, HKK, hb⟩ := hrel
          obtain ⟨d0, d1, d2, d3⟩ := HK2.out wr hb
          clear c0
          obtain ⟨T, hT⟩ : ∃ T : Bool, T = decide (∃ p, E[k]? = some p ∧ W.elt p (a, b)) := ⟨_, rfl⟩
          have HT : Hid (T = decide (∃ p, E[k]? = some p ∧ W.elt p (a, b))) := hT
          clear hT
          go_upto_region 11 with fail
          go_cut [49] from 32 to 51 (fun s wx => s = .bool T ∧ Below w2.heap.size w2 wx)
          case first =>
            by_cases hlt : k < E.length
            · obtain ⟨p, hp⟩ : ∃ p, E[k]? = some p := ⟨_, List.getElem?_eq_getElem hlt⟩
              obtain ⟨ad, rfl, f0, f1⟩ := (HRE.out.below hb (Nat.le_refl _)).at_ hp
              have hki : (k : Int) < (E.length : Int) := by omega
              have hls := rless_any p (a, b) wr.drew
              have hT2 : decide (W.elt p (a, b)) = T := by
                rw [HT.out]
                exact decide_eq_decide.2 ⟨fun q => ⟨p, hp, q⟩, fun ⟨p', q1, q2⟩ => by rw [hp] at q1; obtain rfl := Option.some.inj q1; exact q2⟩
              rw [hT2] at hls
              obtain ⟨p1, p2⟩ := p
              simp only [] at f0 f1 hls
              have HB : Hid (∀ w3, Below wr.drew.heap.size wr.drew w3 → Below w2.heap.size w2 w3) := fun w3 q => hb.trans (((Below.dN wr 1).trans (q.mono (Below.dN wr 1).size)).mono hb.size)
              have HK3 : Hid (∀ w3, Below w2.heap.size w2 w3 → w3.cell? ⟨y, 0, none⟩ = some (.slice (some ad) E.length vc) ∧ w3.cell? ⟨w1.heap.size, 0, none⟩ = some (.int .u64 (a.toNat : Int)) ∧ w3.cell? ⟨w1.heap.size, 1, none⟩ = some (.int .u64 (b.toNat : Int)) ∧ w3.cell? (ad.add (k * 2)) = some (.int .u64 (p1.toNat : Int)) ∧ w3.cell? ⟨(ad.add (k * 2)).block, (ad.add (k * 2)).off + 1, none⟩ = some (.int .u64 (p2.toNat : Int))) := fun w3 q => by
                obtain ⟨q0, q1, q2, _⟩ := HK2.out w3 q
                obtain ⟨ad', ea, q3, q4⟩ := (HRE.out.below q (Nat.le_refl _)).at_ hp
                obtain rfl := Option.some.inj ea
                exact ⟨q0, q1, q2, q3, q4⟩
              clear hp hT2
              go_region_held3 (fun w' => w'.cell? ⟨y, 0, none⟩ = some (.slice (some ad) E.length vc) ∧ w'.cell? ⟨w1.heap.size, 0, none⟩ = some (.int .u64 (a.toNat : Int)) ∧ w'.cell? ⟨w1.heap.size, 1, none⟩ = some (.int .u64 (b.toNat : Int)) ∧ w'.cell? (ad.add (k * 2)) = some (.int .u64 (p1.toNat : Int)) ∧ w'.cell? ⟨(ad.add (k * 2)).block, (ad.add (k * 2)).off + 1, none⟩ = some (.int .u64 (p2.toNat : Int))) (go_keep) (first
                | (go_at_call 42; refine hls.mono ?_; rintro r w3 ⟨rfl, hb3⟩; have hb4 := HB.out w3 hb3; obtain ⟨g0, g1, g2, g3, g4⟩ := HK3.out w3 hb4)
                | fail)
              go_wp2_with fail
              go_meet
              exact ⟨rfl, hb4⟩
            · have HTF : Hid (T = false) := by
                show _ = _
                rw [HT.out, decide_eq_false]
                rintro ⟨p, q, _⟩
                have := (List.getElem?_eq_some_iff.1 q).1
                omega
              have l1 : decide ((k : Int) < (E.length : Int)) = false := decide_eq_false (by omega)
              have l2 : ¬ k < E.length := hlt
              go_quiet (fail)
              go_wp2_with fail
              go_meet
              exact ⟨by rw [HTF.out], hb.trans ((Below.dN wr _).mono hb.size)⟩
          case rest =>
          obtain ⟨rfl, hbc⟩ := hcut
          cases T with
          | true =>
            have hx : ∃ p, E[k]? = some p ∧ W.elt p (a, b) := of_decide_eq_true HT.out.symm
            obtain ⟨p, hp, hel⟩ := hx
            have hlt := (List.getElem?_eq_some_iff.1 hp).1
            have HK9 : Hid (∀ j p, j < k + 1 → E[j]? = some p → W.elt p (a, b)) := fun j p' q1 q2 => by
              rcases Nat.lt_or_ge j k with z | z
              · exact HKK.out j p' z q2
              · obtain rfl : j = k := by omega
                rw [hp] at q2
                obtain rfl := Option.some.inj q2
                exact hel
            clear hp hel HT
            go_wp2_with fail
            exact ⟨⟨k + 1, by omega, by go_num, HK9, hbc⟩, by simp [intOf]; omega⟩
          | false =>
            have hpl : k = W.pl E (a, b) := (W.pl_eq HKK.out (fun x hx q => of_decide_eq_false HT.out.symm ⟨x, hx, q⟩) hk).symm
            have HPL : Hid (k = W.pl E (a, b)) := hpl
            clear hpl HT d0 d1 d2 d3 hb
            obtain ⟨d0, d1, d2, d3⟩ := HK2.out wc hbc
            have hrdc := HRE.out.below hbc (Nat.le_refl _)
            have hpre : RdE wc (.slice va k vc) (E.take k) := by
              have := RdE.piece hrdc 0 k (Nat.zero_le _) hk va ⟨fun _ => rfl, fun _ => by cases va <;> simp [Addr.add]⟩
              simpa using this
            have hBc : w2.heap.size ≤ wc.heap.size := hbc.size
            have HDR : Hid (∀ (W' : World) (va' : Option Addr), Below w2.heap.size w2 W' → ((vc = k → va' = va) ∧ (¬ vc = k → va' = va.map (fun a => a.add (k * 2)))) → RdE W' (.slice va' (E.length - k) (vc - k)) (E.drop k)) := fun W' va' q1 q2 => by
              have := RdE.piece (HRE.out.below q1 (Nat.le_refl _)) k E.length hk (Nat.le_refl _) va' q2
              rwa [List.take_length] at this
            have HNN : Hid (va = none → vc = 0) := fun q => by
              obtain ⟨a', c', e', _, _, q3, _⟩ := HRE.out
              simp only [Value.slice.injEq] at e'
              obtain ⟨rfl, _, rfl⟩ := e'
              exact q3 q
            have hkv : k ≤ vc := Nat.le_trans hk hv1
            have HTL : Hid ((E.take k).length ≤ 4096) := by show _ ≤ _; simp; omega
            have HDL : Hid ((E.drop k).length ≤ 4096) := by show _ ≤ _; simp; omega
            clear hrdc
            by_cases hcb : vc = k
            · have hlE : E.length = k := by omega
              cases va with
              | none =>
                have h0 := HNN.out rfl
                have hE0 : E = [] := List.length_eq_zero_iff.1 (by omega)
                obtain rfl : k = 0 := by omega
                subst hE0
                subst h0
                have hdr : ∀ W' : World, RdE W' (.slice none 0 0) [] := fun W' => RdE.nil W'
                have hpre2 : RdE wc (.slice none 0 0) [] := RdE.nil wc
                have HFIN2 : Hid (∀ (v4 : Value) (w4 : World), Below w2.heap.size w2 w4 → OwE w2.heap.size w4 v4 [(a, b)] → POST (.returned (.tuple #[.slice none 0 0, .int .i64 0])) (w4.setCell ⟨y, 0, none⟩ v4)) := fun v4 w4 q1 q2 => HFIN.out v4 w4 0 HPL.out q1 (by simpa using q2)
                clear HNN hpre hcb hlE hv1 hv2 hlen HFIN HPL
                go_wp2_with (first
                  | (have hq := ho4; at_builtin; refine wpList_appE rfl _ _ rfl w2.heap.size _ [(a, b)] rfl ho4 _ [] rfl (hdr _) hb4.size (by simp) ?_; rw [List.append_nil]; intro v5 w5 ho5 hg5 hv5; have hb5 : Below w2.heap.size w2 w5 := hb4.grown hg5 hb4.size (fun j e => (ho4.lt j e).1); have HE5 : Hid _ := HFIN2.out v5 w5 hb5 ho5; obtain ⟨z0, z1, z2, z3⟩ := HK2.out w5 hb5; obtain ⟨m51, m53, rfl, -⟩ := ho5.rd.shape; clear ho5 hg5 hv5)
                  | (have hq := ho3; at_builtin; refine wpList_appE rfl _ _ rfl w2.heap.size _ [] rfl (ho3.below (w_al w3 _) (Nat.le_refl _)) _ [(a, b)] rfl (rdE_one _ w3.heap.size (a, b) (box2E w3 a b)) (Nat.le_trans hb3.size (by simp)) (by simp) ?_; rw [List.nil_append]; intro v4 w4 ho4 hg4 hv4; have hb4 : Below w2.heap.size w2 w4 := (up_alW hb3 (w_al w3 _)).grown hg4 (Nat.le_trans hb3.size (by simp)) (fun j e => (ho3.lt j e).1); obtain ⟨y0, y1, y2, y3⟩ := HK2.out w4 hb4; obtain ⟨m41, m43, rfl, -⟩ := ho4.rd.shape; clear hg4 hv4)
                  | (at_builtin; refine wpList_appE rfl _ _ rfl w2.heap.size _ [] rfl (OwE.nil _ _) _ [] rfl hpre2 hBc (by simp) ?_; rw [List.nil_append]; intro v3 w3 ho3 hg3 hv3; have hb3 : Below w2.heap.size w2 w3 := hbc.grown hg3 hBc (fun j e => by cases e); obtain ⟨x0, x1, x2, x3⟩ := HK2.out w3 hb3; obtain ⟨m31, m33, rfl, -⟩ := ho3.rd.shape; clear hg3 hv3)
                  | fail)
                exact HE5.out
              | some g =>
                have hdr := fun W' q1 => HDR.out W' (some g) q1 ⟨fun _ => rfl, fun q => absurd hcb q⟩
                rw [show vc - k = 0 by omega, show E.length - k = 0 by omega] at hdr
                clear HNN hlE
                subst hcb
                go_wp2_with (first
                  | (have hq := ho4; at_builtin; refine wpList_appE rfl _ _ rfl w2.heap.size _ (E.take vc ++ [(a, b)]) rfl ho4 _ (E.drop vc) rfl (hdr _ hb4) hb4.size (by have := HTL.out; have := HDL.out; simp only [List.length_append, List.length_singleton]; omega) ?_; intro v5 w5 ho5 hg5 hv5; have hb5 : Below w2.heap.size w2 w5 := hb4.grown hg5 hb4.size (fun j e => (ho4.lt j e).1); have HE5 : Hid _ := HFIN.out v5 w5 vc HPL.out hb5 ho5; obtain ⟨z0, z1, z2, z3⟩ := HK2.out w5 hb5; obtain ⟨m51, m53, rfl, -⟩ := ho5.rd.shape; clear ho5 hg5 hv5; generalize (E.take vc ++ [(a, b)] ++ E.drop vc).length = n5 at *)
                  | (have hq := ho3; at_builtin; refine wpList_appE rfl _ _ rfl w2.heap.size _ (E.take vc) rfl (ho3.below (w_al w3 _) (Nat.le_refl _)) _ [(a, b)] rfl (rdE_one _ w3.heap.size (a, b) (box2E w3 a b)) (Nat.le_trans hb3.size (by simp)) (by have := HTL.out; simp only [List.length_singleton]; omega) ?_; intro v4 w4 ho4 hg4 hv4; have hb4 : Below w2.heap.size w2 w4 := (up_alW hb3 (w_al w3 _)).grown hg4 (Nat.le_trans hb3.size (by simp)) (fun j e => (ho3.lt j e).1); obtain ⟨y0, y1, y2, y3⟩ := HK2.out w4 hb4; obtain ⟨m41, m43, rfl, -⟩ := ho4.rd.shape; clear hg4 hv4; generalize (E.take vc ++ [(a, b)]).length = n4 at *)
                  | (at_builtin; refine wpList_appE rfl _ _ rfl w2.heap.size _ [] rfl (OwE.nil _ _) _ (E.take vc) rfl hpre hBc (by have := HTL.out; simp only [List.length_nil]; omega) ?_; rw [List.nil_append]; intro v3 w3 ho3 hg3 hv3; have hb3 : Below w2.heap.size w2 w3 := hbc.grown hg3 hBc (fun j e => by cases e); obtain ⟨x0, x1, x2, x3⟩ := HK2.out w3 hb3; obtain ⟨m31, m33, rfl, -⟩ := ho3.rd.shape; clear hg3 hv3; generalize hn3 : (E.take vc).length = n3 at ho3 ⊢; clear hn3)
                  | fail)
                exact HE5.out
            · cases va with
              | none => have := HNN.out rfl; omega
              | some g =>
                have hdr := fun W' q1 => HDR.out W' (some (g.add (k * 2))) q1 ⟨fun q => absurd q hcb, fun _ => rfl⟩
                clear HNN
                go_wp2_with (first
                  | (have hq := ho4; at_builtin; refine wpList_appE rfl _ _ rfl w2.heap.size _ (E.take k ++ [(a, b)]) rfl ho4 _ (E.drop k) rfl (hdr _ hb4) hb4.size (by have := HTL.out; have := HDL.out; simp only [List.length_append, List.length_singleton]; omega) ?_; intro v5 w5 ho5 hg5 hv5; have hb5 : Below w2.heap.size w2 w5 := hb4.grown hg5 hb4.size (fun j e => (ho4.lt j e).1); have HE5 : Hid _ := HFIN.out v5 w5 k HPL.out hb5 ho5; obtain ⟨z0, z1, z2, z3⟩ := HK2.out w5 hb5; obtain ⟨m51, m53, rfl, -⟩ := ho5.rd.shape; clear ho5 hg5 hv5; generalize (E.take k ++ [(a, b)] ++ E.drop k).length = n5 at *)
                  | (have hq := ho3; at_builtin; refine wpList_appE rfl _ _ rfl w2.heap.size _ (E.take k) rfl (ho3.below (w_al w3 _) (Nat.le_refl _)) _ [(a, b)] rfl (rdE_one _ w3.heap.size (a, b) (box2E w3 a b)) (Nat.le_trans hb3.size (by simp)) (by have := HTL.out; simp only [List.length_singleton]; omega) ?_; intro v4 w4 ho4 hg4 hv4; have hb4 : Below w2.heap.size w2 w4 := (up_alW hb3 (w_al w3 _)).grown hg4 (Nat.le_trans hb3.size (by simp)) (fun j e => (ho3.lt j e).1); obtain ⟨y0, y1, y2, y3⟩ := HK2.out w4 hb4; obtain ⟨m41, m43, rfl, -⟩ := ho4.rd.shape; clear hg4 hv4; generalize (E.take k ++ [(a, b)]).length = n4 at *)
                  | (at_builtin; refine wpList_appE rfl _ _ rfl w2.heap.size _ [] rfl (OwE.nil _ _) _ (E.take k) rfl hpre hBc (by have := HTL.out; simp only [List.length_nil]; omega) ?_; rw [List.nil_append]; intro v3 w3 ho3 hg3 hv3; have hb3 : Below w2.heap.size w2 w3 := hbc.grown hg3 hBc (fun j e => by cases e); obtain ⟨x0, x1, x2, x3⟩ := HK2.out w3 hb3; obtain ⟨m31, m33, rfl, -⟩ := ho3.rd.shape; clear hg3 hv3; generalize hn3 : (E.take k).length = n3 at ho3 ⊢; clear hn3)
                  | fail)
                exact HE5.out
end Go.Proofs.Ytipnghaphfgalaa
