/- rules: the seven rules, in their order. -/
import Derived.Test.YtedfjacmaidhkaaGreatG29
namespace Go.Proofs.YtedfjacmaidhkaaGreat
open Go.RowKit Go.Maps
set_option linter.unusedVariables false
set_option linter.unusedSimpArgs false
set_option maxRecDepth 100000
set_option maxHeartbeats 4000000 in
theorem rules_any (x : Nat) (w : World) :
    Calls Tryz.prog 19 #[.pointer (some ⟨x, 0, none⟩)] w fun e w' => e = .returned (.slice (some ⟨w.heap.size, 0, none⟩) 7 7) ∧ w'.heap[w.heap.size]? = some (.cells (rul x) 92 (0, 0)) ∧ Below w.heap.size w w' := by
  have hmf : ∀ (fn : Fn) (first cap : Array Value) (w : World), (Instr.makeFunc fn first cap).run Tryz.prog w = .ok (.func fn first cap) w := fun _ _ _ _ => rfl
  go_enter Tryz.func19, Tryz.ntmps19
  go_wp2_with fail
  go_ret
  exact ⟨rfl, heap_new w _, ob_al w _⟩
end Go.Proofs.YtedfjacmaidhkaaGreat

/- decide: the first rule that applies gives the order. -/
namespace Go.Proofs.YtedfjacmaidhkaaGreat
open Go.RowKit Go.Maps
set_option linter.unusedVariables false
set_option linter.unusedSimpArgs false
set_option maxRecDepth 100000
def RdRu (w : World) (x : Nat) (r : RV) (v : Value) (Ss : List (Or → Bool → Prop)) : Prop := ∃ a c, v = .slice (some a) Ss.length c ∧ Ss.length ≤ c ∧ c ≤ 9223372036854775807 ∧ ∀ (i : Nat) S, Ss[i]? = some S → ∃ F, w.cell? (a.add i) = some (mv F x) ∧ (∀ args w, (callFunc F args).run Tryz.prog w = .ok (.enter F args) w) ∧ ∀ W, Below w.heap.size w W → Calls Tryz.prog F #[.pointer (some ⟨x, 0, none⟩), .agg (r9 r)] W fun e w' => RuA W S e w'
def DecP (K x : Nat) (d : PL) (p : PD) (os : List Or) (w0 : World) (Ss : List (Or → Bool → Prop)) (e : Ending) (w' : World) : Prop := (∃ u, e = .returned u) ∧ (((∀ (j : Nat) T, Ss[j]? = some T → ∃ o, T o false) ∧ Ful K w0 x d p os w') ∨ ∃ (i : Nat) (S : Or → Bool → Prop) (o : Or), Ss[i]? = some S ∧ S o true ∧ (∀ (j : Nat) T, j < i → Ss[j]? = some T → ∃ o, T o false) ∧ ∃ y, Ful (K + 2) w0 x { d with ov := y } { p with ld := ldG p.ld o, nm := gPut p.nm o.reg } (os ++ [o]) w')
section
variable {K x : Nat} {d : PL} {p : PD} {os : List Or} {w0 w : World} {r : RV} {v : Value} {Ss : List (Or → Bool → Prop)}
set_option maxHeartbeats 4000000 in
theorem decide_any (h : Ful K w0 x d p os w) (hru : RdRu w x r v Ss) (hok : ∀ S ∈ Ss, ∀ o, S o true → o.kind ≠ 6 ∧ i64 o.store ∧ o.reg < 18446744073709551616) (hld : sm62 p.ld) (hK : K + 2 < 1099511627776) (hos : os.length + 1 ≤ 1099511627776) :
    Calls Tryz.prog 21 #[.pointer (some ⟨x, 0, none⟩), .agg (r9 r), v] w fun e w' => DecP K x d p os w0 Ss e w' := by
  obtain ⟨a, c, rfl, h1, h2, h3⟩ := hru
  have H3 : Hid _ := h3
  have HF : Hid _ := h
  have HOK : Hid _ := hok
  generalize hn : Ss.length = n at *
  have HN : Hid (Ss.length = n) := hn
  clear h3 hn h hok
  have hb0 := ob_al w (.cells (r9 r) 42)
  have hk0 := heap_new w (.cells (r9 r) 42)
  simp only [r9] at *
  go_enter Tryz.func21, Tryz.ntmps21
  go_upto_region 1 with fail
  have hz1 : (w.alloc (.cells (r9 r) 42)).heap.size = w.heap.size + 1 := by simp
  simp only [r9] at hz1
  generalize World.alloc w _ = w1 at *
  go_wp2_with fail
  go_loopw [7, 8, 9, 12] (fun _ _ _ i wr => ∃ k : Nat, k ≤ n ∧ i = .int .i64 k ∧ Hid (∀ (j : Nat) T, j < k → Ss[j]? = some T → ∃ o, T o false) ∧ Below w1.heap.size w1 wr) (fun _ _ _ i _ => n - (intOf i).toNat)
  case atStart => exact ⟨0, Nat.zero_le _, rfl, (fun j T hj => absurd hj (Nat.not_lt_zero _)), Below.refl _ _⟩
  case round =>
    obtain ⟨k, hk, rfl, HX, hb⟩ := hrel
    have hbw : Below w.heap.size w wr := hb0.trans (hb.mono hb0.size)
    by_cases hlt : k < n
    · obtain ⟨S, hS⟩ : ∃ S, Ss[k]? = some S := ⟨_, List.getElem?_eq_getElem (by rw [HN.out]; exact hlt)⟩
      obtain ⟨F, hc0, hE, hx⟩ := H3.out k S hS
      have hcf : wr.cell? (a.add k) = some (mv F x) := by rw [hbw.cell (World.block_lt_of_cell? w _ hc0)]; exact hc0
      simp only [mv] at hcf
      have hx1 := hx wr hbw
      have hkb := (hb.block w.heap.size (by omega)).trans hk0
      have k9 : ∀ (i : Nat) u, (r9 r)[i]? = some u → wr.cell? ⟨w.heap.size, i, none⟩ = some u := fun i u hu => by rw [cell_of_row _ _ _ _ _ _ hkb]; exact hu
      have m0 := k9 0 _ rfl
      have m1 := k9 1 _ rfl
      have m2 := k9 2 _ rfl
      have m3 := k9 3 _ rfl
      have m4 := k9 4 _ rfl
      have m5 := k9 5 _ rfl
      have m6 := k9 6 _ rfl
      have m7 := k9 7 _ rfl
      have m8 := k9 8 _ rfl
      have hki : (k : Int) < (n : Int) := by omega
      have HS : Hid (Ss[k]? = some S) := hS
      clear hx hc0 hkb hS k9
      go_wp2_with fail
      refine hx1.mono ?_
      rintro e w3 ⟨o, b, rfl, hSo, hb3⟩
      clear hx1 hcf m0 m1 m2 m3 m4 m5 m6 m7 m8 hE
      simp only [orV]
      have HB3 : Hid (Below w1.heap.size w1 (w3.alloc (.cells #[.int .i64 o.kind, .int .u64 (o.reg : Int), .int .i64 o.store, .int .u64 (o.peer : Int), .int .u64 (o.other : Int)] 32))) := (hb.trans (hb3.mono hb.size)).trans ((ob_al w3 _).mono (hb.trans (hb3.mono hb.size)).size)
      have HW3 : Hid (Below w.heap.size w (w3.alloc (.cells #[.int .i64 o.kind, .int .u64 (o.reg : Int), .int .i64 o.store, .int .u64 (o.peer : Int), .int .u64 (o.other : Int)] 32))) := hb0.trans (HB3.out.mono hb0.size)
      rcases b with _ | _
      · have HX1 : Hid (∀ (j : Nat) T, j < k + 1 → Ss[j]? = some T → ∃ o, T o false) := fun j T hj hT => by
          by_cases q : j = k
          · subst q
            have e1 := Option.some.inj (HS.out.symm.trans hT)
            subst e1
            exact ⟨o, hSo⟩
          · exact HX.out j T (by omega) hT
        go_wp2_with fail
        exact ⟨⟨k + 1, by omega, by go_num, HX1, HB3.out⟩, by simp [intOf]; omega⟩
      · obtain ⟨hk6, hso, hrg⟩ := HOK.out S (List.mem_of_getElem? HS.out) o hSo
        have HO : Hid (o.kind ≠ 6 ∧ i64 o.store ∧ o.reg < 18446744073709551616) := ⟨hk6, hso, hrg⟩
        clear hk6 hso hrg
        go_wp2_with fail
        refine (give_any o (HF.out.below HW3.out) HO.out.1 HO.out.2.1 HO.out.2.2 hld hK hos).mono ?_
        rintro e w5 ⟨⟨u, rfl⟩, y, hy⟩
        go_wp2_with fail
        go_end0
        exact ⟨⟨_, rfl⟩, .inr ⟨k, S, o, HS.out, hSo, HX.out, y, hy⟩⟩
    · have HE : Hid (∀ (j : Nat) T, Ss[j]? = some T → ∃ o, T o false) := fun j T hj => HX.out j T (by have h5 := (List.getElem?_eq_some_iff.1 hj).1; have h6 : Ss.length = n := HN.out; omega) hj
      go_wp2_with fail
      go_end0
      exact ⟨⟨_, rfl⟩, .inl ⟨HE.out, HF.out.below hbw⟩⟩
end
end Go.Proofs.YtedfjacmaidhkaaGreat
