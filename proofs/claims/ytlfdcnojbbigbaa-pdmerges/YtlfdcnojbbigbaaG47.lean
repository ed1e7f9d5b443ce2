/- seats: where a region's peers sit, by store; slices.Equal over seats. -/
import Derived.Test.YtlfdcnojbbigbaaG23
import Derived.Test.YtlfdcnojbbigbaaG12
import Derived.Test.YtlfdcnojbbigbaaG34
import Derived.Laws.StructEq
import Derived.Deep.CutRange
namespace Go.Proofs.Ytlfdcnojbbigbaa
open Go.RowKit
set_option linter.unusedVariables false
set_option maxRecDepth 100000

theorem RdSe.cells {w : World} {a : Addr} {n c : Nat} {ps : List Se} (h : RdSe w (.slice (some a) n c) ps) : ∀ j u, (secs ps)[j]? = some u → w.cell? (a.add j) = some u := by
  intro j u hu
  obtain ⟨ao', c', e, h1, h2, h4⟩ := h
  simp only [Value.slice.injEq] at e
  obtain ⟨rfl, rfl, rfl⟩ := e
  obtain ⟨i, r, p, ep, hr, rfl, hp⟩ := fm_inv sec_len (by omega) ps j u hu
  obtain ⟨a', e, q0, q1⟩ := h4 i p ep
  obtain rfl := Option.some.inj e
  match r, hr with
  | 0, _ => simp [sec] at hp; subst hp; exact q0
  | 1, _ => simp [sec] at hp; subst hp; rw [← add_at a (i * 2) 0]; exact q1
theorem Try.infoSe : (Try.prog.info? 121).map (fun i => (i.zero, i.size, i.bytes)) = some (some (.agg #[.int .i64 0, .bool false]), 2, 16) := by kernel_rfl
theorem run_appSe (w : World) (ty : TypeId) (B : Nat) (v : Value) (l : List Se) (hown : OwSe B w v l) (ad : Addr) (m : List Se) (hm : RdSe w (.slice (some ad) m.length m.length) m) (hB : B ≤ w.heap.size) (hlen : l.length + m.length ≤ 1099511627776) :
    ∃ v' w', (Builtin.append_ #[119, 119] ty #[v, .slice (some ad) m.length m.length]).run Try.prog w = .ok v' w' ∧ OwSe B w' v' (l ++ m) ∧ w.grownBy w' v.ownBlock ∧ (v'.ownBlock = v.ownBlock ∨ v'.ownBlock = some w.heap.size) := by
  obtain ⟨v', w', hr, q2, q3, q4⟩ := run_appW (P := Try.prog) w B 119 ty 121 _ 2 16 Try.underlying119 Try.infoSe rfl (by decide) v l.length (secs l) hown ad m.length m.length (secs m) (secs_len m) hm.cells (secs_one m) (by unfold maxLen; omega) (by omega) hB
  exact ⟨v', w', hr, by unfold OwSe; rw [secs_app, List.length_append]; exact q2, q3, q4⟩
theorem wpList_appSe {w : World} {ops : Array Oper} {rest : List Oper} {o : Oper} {a : Act} {Q : Exit → Act → World → Prop} (hgd : o.guard = none) (s x : Operand)
    (ho : o.op = .call { callee := .builtin .append, args := #[s, x], argTypes := #[119, 119] })
    (B : Nat) (v : Value) (l : List Se) (hs : a.eval s = v) (hown : OwSe B w v l) (ad : Addr) (p : Se) (hx : a.eval x = .slice (some ad) 1 1) (hm : RdSe w (.slice (some ad) 1 1) [p]) (hB : B ≤ w.heap.size) (hlen : l.length + 1 ≤ 1099511627776)
    (h : ∀ v' w', OwSe B w' v' (l ++ [p]) → w.grownBy w' v.ownBlock → (v'.ownBlock = v.ownBlock ∨ v'.ownBlock = some w.heap.size) → wpList Try.prog ops Q rest (a.put o.dst v') w') : wpList Try.prog ops Q (o :: rest) a w := by
  refine wpList_plain hgd fun K hK => ?_
  obtain ⟨v', w', hr, q2, q3, q4⟩ := run_appSe w o.type B v l hown ad [p] hm hB (by simpa using hlen)
  simp only [List.length_cons, List.length_nil, Nat.zero_add] at hr
  unfold Oper.wp execOp
  simp only [ho, resolve, invoke, builtin, Sem.run_bind, Sem.run_pure, Result.andThen_ok, List.map_toArray, List.map_cons, List.map_nil, hs, hx, hr]
  exact hK _ _ (h v' w' q2 q3 q4)
theorem rdse_one (w : World) (p0 : Int) (p1 : Bool) (t : TypeId) : RdSe (w.alloc (.cells #[.int .i64 p0, .bool p1] t)) (.slice (some ⟨w.heap.size, 0, none⟩) 1 1) [(p0, p1)] := by
  have hc : ∀ j u, #[Value.int .i64 p0, Value.bool p1][j]? = some u → (w.alloc (.cells #[.int .i64 p0, .bool p1] t)).cell? ⟨w.heap.size, j, none⟩ = some u := fun j u e => by
    rw [World.cell?_alloc_at _ _ _ _ rfl]; exact e
  refine ⟨some ⟨w.heap.size, 0, none⟩, 1, rfl, by simp, by unfold maxLen; omega, fun i p hi => ?_⟩
  match i, hi with
  | 0, hi =>
    obtain rfl := Option.some.inj hi
    exact ⟨_, rfl, hc 0 _ rfl, hc 1 _ rfl⟩
theorem OwSe.shape {B : Nat} {w : World} {v : Value} {l : List Se} (h : OwSe B w v l) : ∃ a c, v = .slice a l.length c := by
  rcases h.2 with ⟨hv, h0⟩ | ⟨g, cap, cur, hv, _⟩
  · exact ⟨none, 0, by rw [hv, h0]⟩
  · exact ⟨_, _, hv⟩
/-- Where the peers sit. -/
def seF (ps : List Pe) : List Se := ps.map (fun p => (p.2.1, p.2.2))
theorem seF_take (ps : List Pe) (k : Nat) (hk : k < ps.length) : seF (ps.take (k + 1)) = seF (ps.take k) ++ [(ps[k].2.1, ps[k].2.2)] := by
  unfold seF
  rw [List.take_succ_eq_append_getElem hk, List.map_append]
  rfl

set_option maxHeartbeats 2000000 in
theorem seats_any {i c r : Int} {sv ev pv : Value} {s e : List UInt8} {ps : List Pe} {w : World} (hs : Rd w sv s) (he : Rd w ev e) (hp : RdPe w pv ps) (hne : ps ≠ []) (hl : ps.length ≤ 1099511627775) :
    Calls Try.prog 72 #[.agg #[.int .u64 i, sv, ev, .int .u64 c, .int .u64 r, pv]] w fun x w' => ∃ v' q, x = .returned v' ∧ q.Perm (seF ps) ∧ q.Pairwise (fun a b => ¬ b.1 < a.1) ∧ RdSe w' v' q ∧ Below w.heap.size w w' := by
  obtain ⟨sa, sc, rfl⟩ := hs.shp
  obtain ⟨ea, ec, rfl⟩ := he.shp
  have HR : Hid (RdPe w pv ps) := hp
  obtain ⟨pa, pk, rfl, hp1, hp2⟩ := hp.shape
  clear hs he hp
  have hB0 := g_al w (.cells #[.int .u64 i, .slice sa s.length sc, .slice ea e.length ec, .int .u64 c, .int .u64 r, .slice pa ps.length pk] 34)
  have hk0 : (w.alloc (.cells #[.int .u64 i, .slice sa s.length sc, .slice ea e.length ec, .int .u64 c, .int .u64 r, .slice pa ps.length pk] 34)).heap[w.heap.size]? = _ := heap_alloc_new w _
  obtain ⟨_, _, _, _, _, c5, _⟩ := cells6 hk0
  go_enter Try.func72, Try.ntmps72
  go_wp2_with fail
  generalize (w.alloc (.cells #[.int .u64 i, .slice sa s.length sc, .slice ea e.length ec, .int .u64 c, .int .u64 r, .slice pa ps.length pk] 34)) = W0 at *
  go_loopw [3, 5, 9] (fun fv _ i wr => ∃ (k : Nat), k ≤ ps.length ∧ i = .int .i64 k ∧ OwSe w.heap.size wr fv (seF (ps.take k)) ∧ Below w.heap.size w wr) (fun _ _ i _ => ps.length - (intOf i).toNat)
  case atStart => exact ⟨0, Nat.zero_le _, rfl, by simpa [seF] using OwSe.nil _ _, hB0⟩
  case round =>
    obtain ⟨k, hk, rfl, hos, hb⟩ := hrel
    have hB := hb.size
    by_cases hlt : k < ps.length
    · obtain ⟨ao', c', e1, _, _, _, h4⟩ := HR.out.below hb (Nat.le_refl _)
      simp only [Value.slice.injEq, true_and] at e1
      obtain ⟨rfl, rfl⟩ := e1
      obtain ⟨a, rfl, q0, q1, q2⟩ := h4 k _ (List.getElem?_eq_getElem hlt)
      clear h4
      have HV : Hid _ := seF_take ps k hlt
      have hsl : (seF (ps.take k)).length + 1 ≤ 1099511627776 := by unfold seF; rw [List.length_map, List.length_take]; omega
      generalize ps[k] = p at *
      obtain ⟨p0, p1, p2⟩ := p
      simp only [] at q0 q1 q2 HV
      have hkl : (k : Int) < (ps.length : Int) := by omega
      have hal := g_al wr (.cells #[.int .u64 (p0.toNat : Int), .int .i64 p1, .bool p2] 31)
      have hbp : (wr.alloc (.cells #[.int .u64 (p0.toNat : Int), .int .i64 p1, .bool p2] 31)).heap[wr.heap.size]? = _ := heap_alloc_new wr _
      obtain ⟨e0, e1, e2, _⟩ := cells3 hbp
      have hosA := hos.below hal (Nat.le_refl _)
      have hbA := hb.trans (hal.mono hB)
      obtain ⟨xo, xn, yo, hfv⟩ : ∃ a n c, u3 = .slice a n c := by obtain ⟨a, c, q⟩ := hos.shape; exact ⟨_, _, _, q⟩
      subst hfv
      have HOW : Hid (OwSe w.heap.size (wr.alloc (.cells #[.int .u64 (p0.toNat : Int), .int .i64 p1, .bool p2] 31)) (.slice xo xn yo) (seF (ps.take k))) := hosA
      have HBA : Hid _ := hbA
      generalize seF (ps.take k) = L at *
      clear hosA hos hbp
      go_upto_region 5 with fail
      generalize (wr.alloc (.cells #[.int .u64 (p0.toNat : Int), .int .i64 p1, .bool p2] 31)) = wA at *
      go_wp2_with (first | (at_builtin; refine wpList_appSe rfl _ _ rfl w.heap.size _ L rfl (HOW.out.below (g_al wA _) (Nat.le_refl _)) _ (p1, p2) rfl (rdse_one wA p1 p2 _) ?sx1 ?sx2 ?_; rotate_right; intro v7 w7 ho7 hg7 hw7) | fail)
      case sx1 => rw [World.size_alloc]; have := HBA.out.size; omega
      case sx2 => exact hsl
      have hb7 : Below w.heap.size w w7 := HBA.out.trans (((g_al wA _).mono HBA.out.size).trans ((Below.refl w.heap.size _).grown hg7 (by rw [World.size_alloc]; have := HBA.out.size; omega) (fun j e => (HOW.out.lt j e).1)))
      refine ⟨⟨k + 1, by omega, by go_num, ?_, hb7⟩, by simp [intOf]; omega⟩
      rw [HV.out]; exact ho7
    · obtain rfl : k = ps.length := by omega
      rw [List.take_of_length_le (Nat.le_refl _)] at hos
      have hsl : (seF ps).length ≤ 1099511627776 := by unfold seF; rw [List.length_map]; omega
      have hsn : seF ps ≠ [] := by unfold seF; simpa using hne
      have hso := sortSe_any hos hsn hsl
      have hlts := hos.lt
      obtain ⟨xo, xn, yo, hfv⟩ : ∃ a n c, u3 = .slice a n c := by obtain ⟨a, c, q⟩ := hos.shape; exact ⟨_, _, _, q⟩
      subst hfv
      clear hos hsl hsn
      go_wp2_with fail
      refine hso.mono ?_
      rintro x w8 ⟨rfl, q, hq1, hq2, hq3, hch⟩
      go_wp2_with fail
      go_ret
      exact ⟨_, rfl, q, hq1, hq2, hq3, hb.trans (hch.below (fun b e => (hlts b e).1) hb.size)⟩
end Go.Proofs.Ytlfdcnojbbigbaa
