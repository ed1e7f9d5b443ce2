/- A region of the chain split in two: what the two are, and that the chain stands with them. -/
import Derived.Test.YtnapkomjegbhcaaG38
import Derived.Test.YtnapkomjegbhcaaG15
import Derived.Test.YtnapkomjegbhcaaG16
import Derived.Test.YtnapkomjegbhcaaG7
import Derived.Test.YtnapkomjegbhcaaG1
namespace Go.Proofs.Ytnapkomjegbhcaa
open Go.RowKit
set_option linter.unusedVariables false
set_option maxRecDepth 100000

theorem cov_nil {s e : List UInt8} (h : cov s e [] = true) : s = [] := by
  have h1 := (cov_iff.1 h).1
  have h2 := cmpL_nil s
  exact M.cmpL_zero (by omega)
theorem cov_key {s e k : List UInt8} (h : cov s e k = true) (hk : k ≠ s) : k ≠ [] ∧ M.cmpL s k < 0 ∧ cov s k s = true ∧ cov k e k = true ∧ ovl s k k e = false := by
  have hn : k ≠ [] := fun q => by subst q; exact hk (cov_nil h).symm
  obtain ⟨h1, h2⟩ := cov_iff.1 h
  have hlt : M.cmpL s k < 0 := by
    rcases Int.lt_or_eq_of_le h1 with q | q
    · exact q
    · exact absurd (M.cmpL_zero q).symm hk
  refine ⟨hn, hlt, cov_iff.2 ⟨by rw [M.cmpL_self]; omega, .inr hlt⟩, cov_iff.2 ⟨by rw [M.cmpL_self]; omega, h2⟩, ?_⟩
  have ht : topS s k = k := by
    unfold topS
    rw [if_pos]
    rw [M.cmpL_swap]
    omega
  unfold ovl
  rw [ht]
  have : cov s k k = false := by
    cases q : cov s k k with
    | false => rfl
    | true =>
      rcases (cov_iff.1 q).2 with q | q
      · exact absurd q hn
      · rw [M.cmpL_self] at q; omega
  rw [this]
  rfl
/-- The two regions that Split makes. -/
def rgL (r : Rg) (key : List UInt8) (sv ev pv : Value) : Rg := ⟨r.id, r.vr + 1, r.s, key, r.a, r.b, r.c, sv, ev, pv⟩
def rgH (r : Rg) (key : List UInt8) (nx : UInt64) (sv ev pv : Value) : Rg := ⟨nx, r.vr + 1, key, r.e, nx + 1, nx + 2, nx + 3, sv, ev, pv⟩
theorem vr_one {r : Rg} {N V : Nat} (h : r.Ok N V) (hV : V ≤ 1000000) : (r.vr + 1).toNat = r.vr.toNat + 1 := u_add r.vr 1 (by omega) (Nat.le_trans h.vb hV)
theorem nwr_one {r : Rg} {N V : Nat} (h : r.Ok N V) (hV : V ≤ 1000000) : nwr 1 (r.vr + 1) 1 r.vr = true := nwr_iff.2 (.inl (by rw [vr_one h hV]; omega))
section
variable {B V : Nat} {v : Value} {rs : List Rg} {w : World} {nx : UInt64} {key : List UInt8} {r : Rg}
theorem rgL_ok (h : r.Ok nx.toNat V) (hV : V ≤ 1000000) (hk : key.length ≤ 64) (sv ev pv : Value) : (rgL r key sv ev pv).Ok (nx.toNat + 4) (V + 1) :=
  ⟨h.id0, (by have := h.idn; show r.id.toNat < _; omega), h.s64, hk, h.p0, h.p1, h.p2, (by show (r.vr + 1).toNat ≤ _; rw [vr_one h hV]; have := h.vb; omega)⟩
theorem rgH_ok (h : r.Ok nx.toNat V) (hV : V ≤ 1000000) (hN1 : 10 ≤ nx.toNat) (hN : nx.toNat ≤ 1000000) (hk : key.length ≤ 64) (sv ev pv : Value) : (rgH r key nx sv ev pv).Ok (nx.toNat + 4) (V + 1) := by
  have t1 : (nx + 1).toNat = nx.toNat + 1 := u_add nx 1 (by omega) hN
  have t2 : (nx + 2).toNat = nx.toNat + 2 := u_add nx 2 (by omega) hN
  have t3 : (nx + 3).toNat = nx.toNat + 3 := u_add nx 3 (by omega) hN
  refine ⟨fun e => ?_, (by show nx.toNat < _; omega), hk, h.e64, ?_, ?_, ?_, (by show (r.vr + 1).toNat ≤ _; rw [vr_one h hV]; have := h.vb; omega)⟩
  · have e' : nx = 0 := e
    rw [e'] at hN1; simp at hN1
  · show 0 < nx + 1; rw [UInt64.lt_iff_toNat_lt, t1]; simp
  · show nx + 1 < nx + 2; rw [UInt64.lt_iff_toNat_lt, t1, t2]; omega
  · show nx + 2 < nx + 3; rw [UInt64.lt_iff_toNat_lt, t2, t3]; omega
theorem map_set_id (rs : List Rg) (k : Nat) (r q : Rg) (hr : rs[k]? = some r) (hq : q.id = r.id) : (rs.set k q).map Rg.id = rs.map Rg.id := by
  rw [List.map_set, hq]
  apply List.ext_getElem?
  intro j
  rw [List.getElem?_set]
  split
  · rename_i e
    subst e
    have hk : k < (rs.map Rg.id).length := by have := (List.getElem?_eq_some_iff.1 hr).1; simpa using this
    rw [if_pos hk, List.getElem?_map, hr]
    rfl
  · rfl
theorem CI.split_new (h : CI B nx.toNat V v rs w) (hN1 : 10 ≤ nx.toNat) (hN : nx.toNat ≤ 1000000) (hV : V ≤ 1000000) {k : Nat} (hr : rs[k]? = some r) (hc : cov r.s r.e key = true) (hk : key ≠ r.s) (hl : key.length ≤ 64) (sv ev pv sv' ev' pv' : Value) :
    Prt ((rs.set k (rgL r key sv ev pv) ++ [rgH r key nx sv' ev' pv']).map Rg.r3) ∧ ((rs.set k (rgL r key sv ev pv) ++ [rgH r key nx sv' ev' pv']).map Rg.id).Nodup ∧ ∀ q ∈ rs.set k (rgL r key sv ev pv) ++ [rgH r key nx sv' ev' pv'], q.Ok (nx.toNat + 4) (V + 1) := by
  have hkl : k < rs.length := (List.getElem?_eq_some_iff.1 hr).1
  have hgk : rs[k] = r := (List.getElem?_eq_some_iff.1 hr).2
  have hm : r ∈ rs := List.mem_of_getElem? hr
  have hok := h.ok r hm
  refine ⟨?_, ?_, ?_⟩
  · have q := h.prt.split (i := k) (by simpa using hkl) (k := key) (by simp only [List.getElem_map, hgk]; exact hc) (by simp only [List.getElem_map, hgk]; exact hk) (cov_key hc hk).1 (rgL r key sv ev pv).v6 (rgH r key nx sv' ev' pv').v6
    simp only [List.getElem_map, hgk] at q
    rw [List.map_append, List.map_set]
    exact q
  · rw [List.map_append, map_set_id rs k r (rgL r key sv ev pv) hr rfl]
    refine List.nodup_append.2 ⟨h.nd, by simp, fun a ha b hb e => ?_⟩
    have hb' : b = nx := by simpa [rgH] using hb
    obtain ⟨y, hy, rfl⟩ := List.mem_map.1 ha
    have := (h.ok y hy).idn
    rw [e, hb'] at this
    omega
  · intro q hq
    rcases List.mem_append.1 hq with hq | hq
    · rcases List.mem_or_eq_of_mem_set hq with hq | rfl
      · exact (h.ok q hq).mono (by omega) (by omega)
      · exact rgL_ok hok hV hl _ _ _
    · obtain rfl : q = rgH r key nx sv' ev' pv' := by simpa using hq
      exact rgH_ok hok hV hN1 hN hl _ _ _
end
theorem newer_w {wx : World} (a b : UInt64) (h : nwr 1 a 1 b = true) (W : World) (hW : Below wx.heap.size wx W) : Calls Try.prog 8 #[.agg #[.int .u64 1, .int .u64 (a.toNat : Int)], .agg #[.int .u64 1, .int .u64 (b.toNat : Int)]] W fun e w' => e = .returned (.bool true) ∧ Below wx.heap.size wx w' := by
  refine (newer_any 1 a 1 b W).mono ?_
  rintro e w' ⟨rfl, hb⟩
  exact ⟨by rw [h], up_alX hW hb⟩
theorem overlap_w {wx : World} {i c r i' c' r' : Int} {sv ev tv fv : Value} {pa pb : Option Addr} {pn pk qn qk : Nat} {s e t f : List UInt8} (hs : Rd wx sv s) (he : Rd wx ev e) (ht : Rd wx tv t) (hf : Rd wx fv f) (ho : ovl s e t f = false) (W : World) (hW : Below wx.heap.size wx W) :
    Calls Try.prog 9 #[.agg #[.int .u64 i, sv, ev, .int .u64 c, .int .u64 r, .slice pa pn pk], .agg #[.int .u64 i', tv, fv, .int .u64 c', .int .u64 r', .slice pb qn qk]] W fun x w' => x = .returned (.bool false) ∧ Below wx.heap.size wx w' := by
  refine (overlap_any (hs.below hW (Nat.le_refl _)) (he.below hW (Nat.le_refl _)) (ht.below hW (Nat.le_refl _)) (hf.below hW (Nat.le_refl _))).mono ?_
  rintro x w' ⟨rfl, hb⟩
  exact ⟨by rw [ho], up_alX hW hb⟩
theorem same_w {wx : World} {va vb : Value} {l : List UInt8} (ha : Rd wx va l) (hb : Rd wx vb l) (W : World) (hW : Below wx.heap.size wx W) : Calls Try.prog 11 #[va, vb] W fun e w' => e = .returned (.bool true) ∧ Below wx.heap.size wx w' := by
  refine (same_any (ha.below hW (Nat.le_refl _)) (hb.below hW (Nat.le_refl _))).mono ?_
  rintro e w' ⟨rfl, n, rfl⟩
  exact ⟨by simp, below_drewN hW n⟩
theorem samep_w {wx : World} {va vb : Value} {l : List Pe} (ha : RdPe wx va l) (hb : RdPe wx vb l) (W : World) (hW : Below wx.heap.size wx W) : Calls Try.prog 12 #[va, vb] W fun e w' => e = .returned (.bool true) ∧ Below wx.heap.size wx w' := by
  refine (samePeers_any (ha.below hW (Nat.le_refl _)) (hb.below hW (Nat.le_refl _))).mono ?_
  rintro e w' ⟨rfl, n, rfl⟩
  exact ⟨by simp, below_drewN hW n⟩
/-- A region put behind the others. -/
theorem AllR.app {B g n c : Nat} {rs' : List Rg} {rb : Rg} {W7 w' : World} {v' : Value} (h : AllR B (.slice (some ⟨g, 0, none⟩) n c) rs' W7) (hb : OwR B W7 rb.sv rb.ev rb.pv rb.s rb.e rb.pe) (hne : ∀ b, Bl rb.sv rb.ev rb.pv b → b ≠ g)
    (hrow : w'.ownsRow B 34 6 v' (rs'.map Rg.v6 ++ [rb.v6]).length (c6s (rs'.map Rg.v6 ++ [rb.v6]))) (hg : W7.grownBy w' (some g)) (hv : v'.ownBlock = some g ∨ v'.ownBlock = some W7.heap.size) : AllR B v' (rs' ++ [rb]) w' := by
  have hc : Chg (fun b => b = g) W7 w' := Chg.of_grown hg (fun b e _ => (Option.some.inj e).symm)
  have hown : ∀ r ∈ rs' ++ [rb], OwR B W7 r.sv r.ev r.pv r.s r.e r.pe ∧ ∀ b, Bl r.sv r.ev r.pv b → b ≠ g := fun r hr => by
    rcases List.mem_append.1 hr with hr | hr
    · exact ⟨h.own r hr, fun b hbl e => h.ap r hr b hbl (by rw [e]; rfl)⟩
    · obtain rfl : r = rb := by simpa using hr
      exact ⟨hb, hne⟩
  refine ⟨?_, fun r hr => (hown r hr).1.keptB hc (fun b hbl e => (hown r hr).2 b hbl e), fun r hr b hbl e => ?_⟩
  · have e1 : rs'.map Rg.v6 ++ [rb.v6] = (rs' ++ [rb]).map Rg.v6 := by simp
    rw [e1, List.length_map] at hrow
    exact hrow
  · rcases hv with q | q
    · rw [q] at e
      exact (hown r hr).2 b hbl (Option.some.inj e).symm
    · rw [q] at e
      have h1 := ((hown r hr).1.lt hbl).2
      have h2 := Option.some.inj e
      omega
/-- Merge of the two that Split made. -/
theorem merge_two {V : Nat} {r : Rg} {key : List UInt8} {nx : UInt64} {wx : World} {B1 : Nat} {av bv cv dv ev fv : Value} (hok : r.Ok nx.toNat V) (hV : V ≤ 1000000) (hN1 : 10 ≤ nx.toNat) (hN : nx.toNat ≤ 1000000) (hc : cov r.s r.e key = true) (hk : key ≠ r.s) (hl : key.length ≤ 64)
    (o1 : OwR B1 wx av bv cv r.s key r.pe) (o2 : OwR B1 wx dv ev fv key r.e (pe3 (nx + 1) (nx + 2) (nx + 3))) (W : World) (hW : Below wx.heap.size wx W) :
    Calls Try.prog 10 #[.agg #[.int .u64 (r.id.toNat : Int), av, bv, .int .u64 1, .int .u64 ((r.vr.toNat : Int) + 1), cv], .agg #[.int .u64 (nx.toNat : Int), dv, ev, .int .u64 1, .int .u64 ((r.vr.toNat : Int) + 1), fv]] W fun x w' => ∃ a1 n1 c1 a2 n2 c2 a3 n3 c3, x = .returned (.tuple #[.agg #[.int .u64 (r.id.toNat : Int), .slice a1 n1 c1, .slice a2 n2 c2, .int .u64 1, .int .u64 ((r.vr.toNat : Int) + 2), .slice a3 n3 c3], .int .i64 0]) ∧ OwR wx.heap.size w' (.slice a1 n1 c1) (.slice a2 n2 c2) (.slice a3 n3 c3) r.s r.e r.pe ∧ Below wx.heap.size wx w' := by
  have hL := rgL_ok (key := key) hok hV hl av bv cv
  have hH := rgH_ok (key := key) hok hV hN1 hN hl dv ev fv
  obtain ⟨k1, k2, k3, k4, k5⟩ := cov_key hc hk
  have hv1 := vr_one hok hV
  have q1 := hok.s64
  have q2 := hok.e64
  have hm := merge_any (id := r.id) (vr := r.vr + 1) (id' := nx) (vr' := r.vr + 1) (cf := 1) (cf' := 1) (o1.s.rd.below hW (Nat.le_refl _)) (o1.e.rd.below hW (Nat.le_refl _)) (o1.p.rd.below hW (Nat.le_refl _)) (o2.s.rd.below hW (Nat.le_refl _)) (o2.e.rd.below hW (Nat.le_refl _)) (o2.p.rd.below hW (Nat.le_refl _)) (by rw [Rg.pe, se3, se3]) (by rw [Rg.pe]; exact se3_rise _ _ _) (by simp [Rg.pe, pe3]) (by simp [Rg.pe, pe3]) (by omega) (by omega) (by omega) (by omega)
  have hce : cmgE r.id nx (r.vr + 1) (r.vr + 1) r.s key key r.e r.pe (pe3 (nx + 1) (nx + 2) (nx + 3)) = 0 := by
    have hb := hok.vb
    refine cmg3 (chk3 hok.id0 q1 hl k3 hok.p0 hok.p1 hok.p2) (chk3 hH.id0 hl q2 k4 hH.p0 hH.p1 hH.p2) (fun e => ?_) (.inr ((flw_iff _ _).2 ⟨k1, rfl⟩)) (by omega) (by omega)
    have := hok.idn
    rw [e] at this
    omega
  have hf : flw key key = true := (flw_iff _ _).2 ⟨k1, rfl⟩
  rw [hce, hf, hv1] at hm
  simp only [if_true, Nat.max_self] at hm
  rw [show ((r.vr.toNat + 1 : Nat) : Int) = (r.vr.toNat : Int) + 1 from by omega] at hm
  refine hm.mono ?_
  rintro x w' (⟨q1, _⟩ | ⟨q1, sv, ev, pv, q2, q3, q4⟩)
  · exact absurd rfl q1
  · obtain ⟨a1, c1, e1⟩ := q3.s.rd.shp
    obtain ⟨a2, c2, e2⟩ := q3.e.rd.shp
    obtain ⟨a3, c3, e3⟩ := q3.p.shape
    subst e1
    subst e2
    subst e3
    rw [show ((r.vr.toNat + 1 + 1 : Nat) : Int) = (r.vr.toNat : Int) + 2 from by omega] at q2
    exact ⟨_, _, _, _, _, _, _, _, _, q2, q3.mono hW.size, up_alX hW q4⟩
end Go.Proofs.Ytnapkomjegbhcaa
