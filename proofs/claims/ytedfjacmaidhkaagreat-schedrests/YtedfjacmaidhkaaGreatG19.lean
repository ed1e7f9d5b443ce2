/- toldRegions: the views of regions that are some, each number once, rising. -/
import Derived.Test.YtedfjacmaidhkaaGreatG13
import Derived.Test.YtedfjacmaidhkaaGreatG10
import Derived.Test.YtedfjacmaidhkaaGreatG18
namespace Go.Proofs.YtedfjacmaidhkaaGreat
open Go.RowKit Go.Maps Go.Shelf
open Go.Sort hiding Below
set_option linter.unusedVariables false
set_option linter.unusedSimpArgs false
set_option maxRecDepth 100000

theorem len0_any (w : World) : Calls Tryz.prog 75 #[.int .u64 0] w fun e w' => (∃ n : Int, e = .returned (.int .i64 n)) ∧ w' = w := by
  have h := Any.bits_Len (SlLaysF0.n15.bits (P := Tryz.prog) { Tryz.sortV with }) 0 w (by omega) (by omega)
  exact h.mono (fun e w' ⟨h1, h2⟩ => ⟨⟨_, h1⟩, h2⟩)
theorem ins0_any (w : World) (f : Value) : Calls Tryz.prog 86 #[.slice none 0 0, .int .i64 0, .int .i64 0, f] w fun e w' => (∃ u, e = .returned u) ∧ w' = w := by
  go_enter Tryz.func86, Tryz.ntmps86
  go_wp2_with fail
  refine wp_loop_rounds 1 ?_
  rw [rounds_succ]
  go_wp2_with fail
  go_end0
  exact ⟨⟨_, rfl⟩, rfl⟩
theorem pdq0_any (w : World) (f : Value) (n : Int) : Calls Tryz.prog 74 #[.slice none 0 0, .int .i64 0, .int .i64 0, .int .i64 n, f] w fun e w' => (∃ u, e = .returned u) ∧ w' = w := by
  have hi := ins0_any w f
  go_enter Tryz.func74, Tryz.ntmps74
  go_wp2_with fail
  refine wp_loop_rounds 1 ?_
  rw [rounds_succ]
  go_wp2_with fail
  refine hi.mono ?_
  rintro e w1 ⟨⟨u, rfl⟩, rfl⟩
  go_wp2_with fail
  (try simp only [Exit.inBlock, Exit.then])
  refine bodyPost_ret (results_none rfl _ _ _) rfl ?_
  exact ⟨⟨_, rfl⟩, rfl⟩
theorem sortV_nil (w : World) (f : Value) : Calls Tryz.prog 56 #[.slice none 0 0, f] w fun e w' => (∃ u, e = .returned u) ∧ w' = w := by
  have hl := len0_any w
  have hp := fun n => pdq0_any w f n
  go_enter Tryz.func56, Tryz.ntmps56
  go_wp2_with fail
  refine hl.mono ?_
  rintro e w1 ⟨⟨n, rfl⟩, rfl⟩
  go_wp2_with fail
  refine (hp n).mono ?_
  rintro e w1 ⟨⟨u, rfl⟩, rfl⟩
  go_wp2_with fail
  go_end0
  exact ⟨⟨_, rfl⟩, rfl⟩
/-- One view more of a region. -/
def trS (acc : List RV) (v : RV) : List RV := if acc.any (fun o => o.id == v.id) = false ∧ chkE v.id v.s v.e v.ps = 0 then acc ++ [v] else acc
def trF (l : List RV) : List RV := l.foldl trS []
theorem trS_len (acc : List RV) (v : RV) : (trS acc v).length ≤ acc.length + 1 := by unfold trS; split <;> simp
theorem tr_len (l : List RV) : ∀ acc : List RV, (l.foldl trS acc).length ≤ acc.length + l.length := by
  induction l with
  | nil => intro acc; simp
  | cons a t ih => intro acc; have := ih (trS acc a); have := trS_len acc a; simp only [List.foldl_cons, List.length_cons]; omega
theorem trF_len (l : List RV) : (trF l).length ≤ l.length := by unfold trF; have := tr_len l []; simpa using this
theorem tr_sub (l : List RV) : ∀ acc : List RV, ∃ t, l.foldl trS acc = acc ++ t ∧ t.Sublist l := by
  induction l with
  | nil => intro acc; exact ⟨[], by simp, List.Sublist.refl _⟩
  | cons a r ih =>
    intro acc
    obtain ⟨t, h1, h2⟩ := ih (trS acc a)
    simp only [List.foldl_cons]
    rw [h1]
    unfold trS
    split
    · exact ⟨a :: t, by simp, h2.cons_cons a⟩
    · exact ⟨t, rfl, h2.cons a⟩
theorem trF_sub (l : List RV) : (trF l).Sublist l := by
  obtain ⟨t, h1, h2⟩ := tr_sub l []
  unfold trF
  rw [h1]; simpa using h2
theorem tr_ok (l : List RV) : ∀ acc : List RV, (∀ r ∈ acc, chkE r.id r.s r.e r.ps = 0) → ∀ r ∈ l.foldl trS acc, chkE r.id r.s r.e r.ps = 0 := by
  induction l with
  | nil => intro acc h; exact h
  | cons a t ih =>
    intro acc h
    refine ih _ (fun s hs => ?_)
    unfold trS at hs
    split at hs
    · rcases List.mem_append.1 hs with q | q
      · exact h s q
      · rename_i hc; simp only [List.mem_singleton] at q; subst q; exact hc.2
    · exact h s hs
theorem trF_ok (l : List RV) : ∀ r ∈ trF l, chkE r.id r.s r.e r.ps = 0 := tr_ok l [] (by simp)
def OwRv (B : Nat) (w : World) (v : Value) (l : List RV) : Prop := w.ownsRow B 42 9 v l.length (r9s l)
theorem OwRv.nil (B : Nat) (w : World) : OwRv B w (.slice none 0 0) [] := ⟨rfl, .inl ⟨rfl, rfl⟩⟩
theorem OwRv.below {B C : Nat} {w w' : World} {v : Value} {l : List RV} (h : OwRv B w v l) (hb : Below C w w') (hC : w.heap.size ≤ C) : OwRv B w' v l := ownsRow_belP h hb hC
theorem Tryz.infoRv : (Tryz.prog.info? 42).map (fun i => (i.zero, i.size, i.bytes)) = some (some (.agg #[.int .u64 0, .slice none 0 0, .slice none 0 0, .int .u64 0, .int .u64 0, .slice none 0 0, .int .i64 0, .int .i64 0, .bool false]), 9, 120) := by kernel_rfl
theorem wpList_appRv {w : World} {ops : Array Oper} {rest : List Oper} {o : Oper} {a : Act} {Q : Exit → Act → World → Prop} (hgd : o.guard = none) (s x : Operand)
    (ho : o.op = .call { callee := .builtin .append, args := #[s, x], argTypes := #[25, 25] })
    (B : Nat) (v : Value) (l : List RV) (hs : a.eval s = v) (hown : OwRv B w v l) (ad : Addr) (c : Nat) (e : RV) (hx : a.eval x = .slice (some ad) 1 c) (h0 : ∀ (j : Nat) u, (r9l e)[j]? = some u → w.cell? (ad.add j) = some u) (hB : B ≤ w.heap.size) (hlen : l.length + 1 ≤ 1099511627776)
    (h : ∀ v' w', OwRv B w' v' (l ++ [e]) → w.grownBy w' v.ownBlock → (v'.ownBlock = v.ownBlock ∨ v'.ownBlock = some w.heap.size) → wpList Tryz.prog ops Q rest (a.put o.dst v') w') : wpList Tryz.prog ops Q (o :: rest) a w :=
  wpList_appG r9l 9 120 25 42 _ Tryz.underlying25 Tryz.infoRv rfl (by decide) r9l_len r9l_one (by decide) hgd s x ho B v l hs hown ad c e hx h0 hB hlen h
theorem rv_cells {w : World} {g : Nat} {e : RV} (h : w.heap[g]? = some (.cells (r9 e) 42 (0, 0))) : ∀ (j : Nat) u, (r9l e)[j]? = some u → w.cell? ((⟨g, 0, none⟩ : Addr).add j) = some u := by
  intro j u hu
  rw [Addr.add_lit, Nat.zero_add, cell_of_row _ _ _ _ _ _ h]
  have : (r9 e).toList = r9l e := rfl
  rw [← this] at hu
  simpa using hu
theorem gs_step {acc : List RV} {id : UInt64} {f : Nat → Bool} (hf : ∀ x : UInt64, f x.toNat = acc.any (fun o => o.id == x)) (e : RV) (he : e.id = id) : ∀ x : UInt64, gPut f id.toNat x.toNat = (acc ++ [e]).any (fun o => o.id == x) := by
  intro x
  unfold gPut
  rw [List.any_append, hf]
  subst he
  by_cases h : x = e.id
  · subst h; simp
  · have h1 : ¬ x.toNat = e.id.toNat := fun q => h (UInt64.toNat_inj.1 q)
    have h2 : (e.id == x) = false := beq_eq_false_iff_ne.2 (fun q => h q.symm)
    simp [h1, h2]
set_option maxHeartbeats 4000000 in
theorem toldRegions_any {v : Value} {l : List RV} {w : World} (hr : RdRv w v l) (hl : l.length ≤ 1099511627000) :
    Calls Tryz.prog 36 #[v] w fun e w' => ∃ x rs, e = .returned x ∧ rs.Perm (trF l) ∧ rs.Pairwise (fun a b => a.id.toNat ≤ b.id.toNat) ∧ OwRv w.heap.size w' x rs ∧ Below w.heap.size w w' := by
  have HP : Hid (RdRv w v l) := hr
  obtain ⟨ao, c, rfl, h1, h2, -⟩ := hr
  have hb0 := ob_al w (.map #[] 0)
  have hg0 : Gs w.heap.size 0 (fun _ => false) (w.alloc (.map #[] 0)) := Gs.made _ (heap_new w _)
  have hn0 : OwRv w.heap.size (w.alloc (.map #[] 0)) (.slice none 0 0) [] := OwRv.nil _ _
  generalize hnn : l.length = n at *
  have HN : Hid (l.length = n) := hnn
  clear hnn
  have hmk := fun w => run_makeMap (P := Tryz.prog) 69 w
  go_enter Tryz.func36, Tryz.ntmps36
  go_upto_region 3 with fail
  clear hmk
  generalize World.alloc w _ = w1 at *
  generalize hmm : w.heap.size = m at *
  have HM : Hid (w.heap.size = m) := hmm
  have HB1 : Hid (Below m w w1) := hb0
  clear hb0
  go_wp2_with fail
  go_loopw [3, 6, 7, 8, 12] (fun ov _ _ _ i wr => ∃ k : Nat, k ≤ n ∧ i = .int .i64 k ∧ (∃ a m d, ov = .slice a m d ∧ ((l.take k).foldl trS [] = [] → a = none)) ∧ Hid (OwRv m wr ov ((l.take k).foldl trS [])) ∧ Hid (∃ (n : Nat) (f : Nat → Bool), n ≤ k ∧ Gs m n f wr ∧ ∀ x : UInt64, f x.toNat = ((l.take k).foldl trS []).any (fun o => o.id == x)) ∧ Hid (Below m w wr)) (fun _ _ _ _ i _ => n - (intOf i).toNat)
  case atStart => exact ⟨0, Nat.zero_le _, rfl, ⟨_, _, _, rfl, fun _ => rfl⟩, hn0, ⟨0, _, Nat.le_refl _, hg0, fun x => rfl⟩, HB1.out⟩
  case round =>
    obtain ⟨k, hk, rfl, ⟨oa, om, od, rfl, hnl⟩, HO, HG, HB⟩ := hrel
    have HNL : Hid _ := hnl
    clear hn0 hg0 hnl
    by_cases hlt : k < n
    · have hlt' : k < l.length := by rw [HN.out]; exact hlt
      have HT : Hid (l.take (k + 1) = l.take k ++ [l[k]]) := by show _ = _; rw [List.take_append_getElem hlt']
      obtain ⟨ao', c', e, _, _, h4⟩ := HP.out.below HB.out (by omega)
      simp only [Value.slice.injEq, true_and] at e
      obtain ⟨rfl, -, rfl⟩ := e
      obtain ⟨hit, a, rfl, hat⟩ := h4 k _ (List.getElem?_eq_getElem hlt')
      clear h4
      have hki : (k : Int) < (n : Int) := by omega
      generalize l[k] = r at *
      obtain ⟨c0, c1, c2, c3, c4, c5, c6, c7, c8⟩ := hat.nine
      clear hat
      have hbx := ob_al wr (.cells (r9 r) 42)
      have hkx := heap_new wr (.cells (r9 r) 42)
      have hzx : (wr.alloc (.cells (r9 r) 42)).heap.size = wr.heap.size + 1 := by simp
      have HOX : Hid (OwRv m (wr.alloc (.cells (r9 r) 42)) (.slice oa om od) ((l.take k).foldl trS [])) := HO.out.below hbx (Nat.le_refl _)
      have hmr : m ≤ wr.heap.size := by have := HB.out.size; omega
      have hbwx : Below m w (wr.alloc (.cells (r9 r) 42)) := HB.out.trans (hbx.mono hmr)
      have hix := hit.below hbx (Nat.le_refl _)
      obtain ⟨ng, f, hng, hgs, hgf⟩ := HG.out
      have hgx := hgs.below hbx (Nat.le_refl _)
      have HF : Hid (∀ x : UInt64, f x.toNat = ((l.take k).foldl trS []).any (fun o => o.id == x)) := hgf
      have hxl : ((l.take k).foldl trS []).length ≤ n := by
        have := tr_len (l.take k) []
        rw [List.length_take] at this
        simp only [List.length_nil] at this
        omega
      have HLE : Hid (((l.take k).foldl trS []).length + 1 ≤ 1099511627776) := by show _ ≤ _; omega
      clear HO HB HG hbx hxl hit hgs hgf
      simp only [r9] at hbwx hix hgx HOX hkx hzx
      go_upto_region 6 with fail
      generalize World.alloc wr _ = wx at *
      have HKX : Hid (wx.heap[wr.heap.size]? = some (.cells (r9 r) 42 (0, 0))) := hkx
      generalize hbg : wr.heap.size = bx at *
      obtain ⟨n0, n1, n2, n3, n4, n5, n6, n7, n8⟩ := nine_at (r := r) hkx
      have hlk := hgx.look (x := r.id.toNat) r.id.toNat_lt
      generalize hacc : (l.take k).foldl trS [] = acc at *
      have HACC : Hid ((l.take k).foldl trS [] = acc) := hacc
      clear hacc hkx c0 c1 c2 c3 c4 c5 c6 c7 c8 hbg
      generalize hov : f r.id.toNat = bv at hlk
      have HOV : Hid (acc.any (fun o => o.id == r.id) = bv) := by show _ = _; rw [← HF.out, hov]
      have HNX : Hid ((l.take (k + 1)).foldl trS [] = trS acc r) := by
        show _ = _
        rw [HT.out, List.foldl_append, HACC.out]; rfl
      have HBX : Hid (Below m w wx) := hbwx
      have HGX : Hid (Gs m ng f wx) := hgx
      have HIX : Hid (It9 wx r) := hix
      clear hov hbwx hgx hix
      have hbz := ob_al wx (.cells #[] 90)
      have hzz : (wx.alloc (.cells #[] 90)).heap.size = wx.heap.size + 1 := by simp
      go_upto_region 7 with fail
      generalize World.alloc wx _ = wz at *
      clear hlk
      have hbxl : bx < wx.heap.size := (Array.getElem?_eq_some_iff.1 HKX.out).1
      have hKZ := (hbz.block bx hbxl).trans HKX.out
      obtain ⟨n0, n1, n2, n3, n4, n5, n6, n7, n8⟩ := nine_at (r := r) hKZ
      have hck := check_any (id := r.id) (cf := r.cf) (vr := r.vr) (HIX.out.below hbz (Nat.le_refl _)).s (HIX.out.below hbz (Nat.le_refl _)).e (HIX.out.below hbz (Nat.le_refl _)).p
      have HOZ : Hid (OwRv m wz (.slice oa om od) acc) := HOX.out.below hbz (Nat.le_refl _)
      have hmx : m ≤ wx.heap.size := by have := HBX.out.size; omega
      have HBZ : Hid (Below m w wz) := HBX.out.trans (hbz.mono hmx)
      have HGZ : Hid (Gs m ng f wz) := HGX.out.below hbz (Nat.le_refl _)
      have HKZ : Hid _ := hKZ
      clear hbz hKZ hzz HIX
      cases bv with
      | true =>
        have HS : Hid (trS acc r = acc) := by
          show _ = _
          unfold trS; rw [if_neg (fun q => by rw [HOV.out] at q; cases q.1)]
        clear hck
        go_wp2_with fail
        exact ⟨⟨k + 1, by omega, by go_num, ⟨_, _, _, rfl, by rw [HNX.out, HS.out]; exact HNL.out⟩, by show OwRv _ _ _ _; rw [HNX.out, HS.out]; exact HOZ.out, ⟨ng, f, by omega, HGZ.out, by rw [HNX.out, HS.out]; exact HF.out⟩, HBZ.out⟩, by simp [intOf]; omega⟩
      | false =>
        generalize hres : chkE r.id r.s r.e r.ps = res at *
        have HRES : Hid (chkE r.id r.s r.e r.ps = res) := hres
        clear hres
        by_cases hz : res = 0
        · subst hz
          have HS : Hid (trS acc r = acc ++ [r]) := by
            show _ = _
            unfold trS; rw [if_pos ⟨HOV.out, HRES.out⟩]
          go_wp2_with fail
          refine hck.mono ?_
          rintro e w3 ⟨rfl, hb3⟩
          have hK3 := keep_blkT HKZ.out hb3
          have HO3 : Hid (OwRv m w3 (.slice oa om od) acc) := HOZ.out.below hb3 (Nat.le_refl _)
          have hmz : m ≤ wz.heap.size := by have := HBZ.out.size; omega
          have HB3 : Hid (Below m w w3) := HBZ.out.trans (hb3.mono hmz)
          have hg3 := HGZ.out.below hb3 (Nat.le_refl _)
          obtain ⟨w4, hr4, hg4, hc4⟩ := hg3.put (k := r.id.toNat) r.id.toNat_lt (by omega)
          have hm3 : m < w3.heap.size := hg3.lt
          have HK4 : Hid (w4.heap[bx]? = some (.cells (r9 r) 42 (0, 0))) := (hc4.block bx (Array.getElem?_eq_some_iff.1 hK3).1 (hg3.nem hK3)).trans hK3
          have HO4 : Hid (OwRv m w4 (.slice oa om od) acc) := ownsRow_keptC HO3.out hc4 (fun g q1 q2 => by
            obtain ⟨D, hD⟩ := hg3
            obtain ⟨_, cs, fr, e'⟩ := row_blk HO3.out q1
            exact own_nem hD.map e' q2)
          have HB4 : Hid (Below m w w4) := HB3.out.trans (hc4.below (fun b q => by rw [q]; exact Nat.le_refl _) (by omega))
          have HG4 : Hid (Gs m (ng + 1) (gPut f r.id.toNat) w4) := hg4
          have hm4 : m ≤ w4.heap.size := by have := HB4.out.size; omega
          obtain ⟨n0, n1, n2, n3, n4, n5, n6, n7, n8⟩ := nine_at (r := r) hK3
          have hmr0 : m < wx.heap.size := HGX.out.lt
          clear hck hb3 hg3 hg4 hc4 hK3
          go_upto_region 9 with fail
          clear hr4 n0 n1 n2 n3 n4 n5 n6 n7 n8
          obtain ⟨n0, n1, n2, n3, n4, n5, n6, n7, n8⟩ := nine_at (r := r) HK4.out
          go_wp2_with (first | (at_builtin; refine wpList_appRv rfl _ _ rfl m _ acc rfl (HO4.out.below (ob_al w4 _) (Nat.le_refl _)) _ _ r rfl (rv_cells (heap_new w4 _)) ?hx1 ?hx2 ?_; rotate_right; (intro v7 w7 ho7 hg7 hw7; have hb7 : Below m (w4.alloc (.cells (r9 r) 42)) w7 := (Below.refl _ _).grown hg7 (by rw [World.size_alloc]; omega) (fun j e => (World.ownsRow.lt HO4.out j e).1)); have hg7b := hg7; obtain ⟨a7, m7, d7, rfl⟩ := row_shape ho7) | fail)
          case hx1 => rw [World.size_alloc]; omega
          case hx2 => exact HLE.out
          have hGA := HG4.out.below (ob_al w4 (.cells (r9 r) 42)) (Nat.le_refl _)
          have hG7 : Gs m (ng + 1) (gPut f r.id.toNat) w7 := hGA.next (Chg.of_grown hg7b (fun b e _ => e)) (fun q => by
            have h4 := HO4.out.below (ob_al w4 (.cells (r9 r) 42)) (Nat.le_refl _)
            obtain ⟨_, cs, fr, e'⟩ := row_blk h4 q
            exact absurd rfl (hGA.nem e'))
          exact ⟨⟨k + 1, by omega, by go_num, ⟨_, _, _, rfl, by rw [HNX.out, HS.out]; intro q; simp at q⟩, by show OwRv _ _ _ _; rw [HNX.out, HS.out]; exact ho7, ⟨ng + 1, _, by omega, hG7, by rw [HNX.out, HS.out]; exact gs_step HF.out r rfl⟩, (HB4.out.trans ((ob_al w4 _).mono hm4)).trans hb7⟩, by simp [intOf]; omega⟩
        · have HS : Hid (trS acc r = acc) := by
            show _ = _
            unfold trS; rw [if_neg (fun q => hz (by rw [← HRES.out]; exact q.2))]
          have hz2 : (res == 0) = false := beq_eq_false_iff_ne.2 hz
          go_wp2_with fail
          refine hck.mono ?_
          rintro e w3 ⟨rfl, hb3⟩
          have HO3 : Hid (OwRv m w3 (.slice oa om od) acc) := HOZ.out.below hb3 (Nat.le_refl _)
          have hmz : m ≤ wz.heap.size := by have := HBZ.out.size; omega
          have HB3 : Hid (Below m w w3) := HBZ.out.trans (hb3.mono hmz)
          have HG3 : Hid (Gs m ng f w3) := HGZ.out.below hb3 (Nat.le_refl _)
          clear hck hb3
          go_wp2_with fail
          exact ⟨⟨k + 1, by omega, by go_num, ⟨_, _, _, rfl, by rw [HNX.out, HS.out]; exact HNL.out⟩, by show OwRv _ _ _ _; rw [HNX.out, HS.out]; exact HO3.out, ⟨ng, f, by omega, HG3.out, by rw [HNX.out, HS.out]; exact HF.out⟩, HB3.out⟩, by simp [intOf]; omega⟩
    · have HE : Hid (OwRv m wr (.slice oa om od) (trF l)) := by
        have := HO.out
        rw [List.take_of_length_le (by rw [HN.out]; omega)] at this
        exact this
      have hmr : m ≤ wr.heap.size := by have := HB.out.size; omega
      have hll : (trF l).length ≤ 1099511627776 := by have := trF_len l; have h8 : l.length = n := HN.out; omega
      clear HO HG
      by_cases hne : trF l = []
      · have hoa : oa = none := by
          have := HNL.out
          rw [List.take_of_length_le (by rw [HN.out]; omega)] at this
          exact this hne
        have hnil : om = 0 ∧ od = 0 := by
          rcases HE.out.2 with ⟨e, _⟩ | ⟨g, cap, cur, e, _⟩
          · simp only [Value.slice.injEq] at e; exact e.2
          · rw [hoa] at e; simp at e
        obtain ⟨rfl, rfl⟩ := hnil
        subst hoa
        have hsn := fun f => sortV_nil wr f
        go_wp2_with fail
        refine (hsn _).mono ?_
        rintro e w3 ⟨⟨u, rfl⟩, rfl⟩
        go_wp2_with fail
        go_ret
        rw [HM.out]
        exact ⟨_, trF l, rfl, List.Perm.refl _, by rw [hne]; exact List.Pairwise.nil, HE.out, HB.out⟩
      · have hso := sortV_any HE.out hne hll
        have hml : ∀ b, Value.ownBlock (.slice oa om od) = some b → m ≤ b := fun b q => (World.ownsRow.lt HE.out b q).1
        go_wp2_with fail
        refine hso.mono ?_
        rintro e w3 ⟨rfl, q, hq1, hq2, hq3, hq4⟩
        have HX : Hid _ := And.intro hq1 (And.intro hq2 hq3)
        have HB3 : Hid (Below m w w3) := HB.out.trans (hq4.below hml hmr)
        clear hso hq1 hq2 hq3 hq4
        go_wp2_with fail
        go_ret
        rw [HM.out]
        exact ⟨_, q, rfl, HX.out.1, HX.out.2.1, HX.out.2.2, HB3.out⟩
end Go.Proofs.YtedfjacmaidhkaaGreat
