/- The document's parts in memory: 'RdK w v E': the slice value v reads as these parts, each a number and where its bytes lie; 'OwK': a row of the call's own. -/
import Derived.Test.YtlajncjamafomaaG3
import Derived.Test.YtlajncjamafomaaG11
import Derived.Test.YtlajncjamafomaaG1
import Derived.Test.YtlajncjamafomaaG9
import Derived.Lib.SlBytesConst
namespace Go.Proofs.Ytlajncjamafomaa
open Go.RowKit
set_option linter.unusedVariables false
set_option maxRecDepth 100000

/-- A part: its number, and the slice's address, length and capacity. -/
abbrev Kp := Nat × Option Addr × Nat × Nat
def kpV (p : Kp) : Value := .slice p.2.1 p.2.2.1 p.2.2.2
def kc_ (p : Kp) : List Value := [.int .u64 (p.1 : Int), kpV p]
def kcs (E : List Kp) : List Value := E.flatMap kc_
theorem kc_len (p : Kp) : (kc_ p).length = 2 := rfl
theorem kcs_len (E : List Kp) : (kcs E).length = E.length * 2 := fm_len kc_len E
theorem kcs_app (a b : List Kp) : kcs (a ++ b) = kcs a ++ kcs b := by simp [kcs]
theorem kcs_take (E : List Kp) (k : Nat) : (kcs E).take (k * 2) = kcs (E.take k) := fm_take kc_len E k
theorem kcs_drop (E : List Kp) (k : Nat) : (kcs E).drop (k * 2) = kcs (E.drop k) := fm_drop kc_len E k
theorem kcs_one (E : List Kp) : ∀ u ∈ kcs E, u.oneCell' = true := by
  intro u hu
  obtain ⟨p, _, h⟩ := List.mem_flatMap.1 hu
  simp only [kc_, List.mem_cons, List.not_mem_nil, or_false] at h
  rcases h with rfl | rfl <;> rfl
theorem kcs_at (E : List Kp) (i : Nat) (e : Kp) (h : E[i]? = some e) : (kcs E)[i * 2]? = some (.int .u64 (e.1 : Int)) ∧ (kcs E)[i * 2 + 1]? = some (kpV e) :=
  ⟨fm_at kc_len E i 0 e h (by omega), fm_at kc_len E i 1 e h (by omega)⟩
theorem kcs_set (E : List Kp) (i : Nat) (e : Kp) : ((kcs E).set (i * 2) (.int .u64 (e.1 : Int))).set (i * 2 + 1) (kpV e) = kcs (E.set i e) := by
  induction E generalizing i with
  | nil => simp [kcs]
  | cons h t ih =>
    cases i with
    | zero => simp [kcs, kc_]
    | succ i =>
      have := ih i
      simp only [kcs, List.flatMap_cons, kc_, List.set_cons_succ] at this ⊢
      rw [show (i + 1) * 2 = i * 2 + 1 + 1 by omega]
      simp only [List.cons_append, List.nil_append, List.set_cons_succ, this]
/-- At this address an edge lies. -/
structure KpAt (w : World) (a : Addr) (p : Kp) : Prop where
  c0 : w.cell? a = some (.int .u64 (p.1 : Int))
  c1 : w.cell? ⟨a.block, a.off + 1, none⟩ = some (kpV p)
theorem KpAt.below {B : Nat} {w w' : World} {a : Addr} {p : Kp} (h : KpAt w a p) (hb : Below B w w') (hB : w.heap.size ≤ B) : KpAt w' a p := by
  have k : ∀ x u, w.cell? x = some u → w'.cell? x = some u := fun x u q => by rw [hb.cell (by have := World.block_lt_of_cell? w _ q; omega)]; exact q
  exact ⟨k _ _ h.c0, k _ _ h.c1⟩
theorem KpAt.keptC {S : Nat → Prop} {w w' : World} {a : Addr} {p : Kp} (h : KpAt w a p) (hc : Chg S w w') (hS : ¬ S a.block) : KpAt w' a p := by
  have hl := World.block_lt_of_cell? w _ h.c0
  have k : ∀ x : Addr, x.block = a.block → w'.cell? x = w.cell? x := fun x e => World.cell?_of_block (w := w) (by rw [e]; exact hc.block _ hl hS)
  exact ⟨(k a rfl).trans h.c0, (k ⟨a.block, a.off + 1, none⟩ rfl).trans h.c1⟩
/-- The slice value v reads as these edges. -/
def RdK (w : World) (v : Value) (E : List Kp) : Prop :=
  ∃ ao c, v = .slice ao E.length c ∧ E.length ≤ c ∧ c ≤ maxLen ∧ (ao = none → c = 0) ∧ ∀ i p, E[i]? = some p → ∃ a, ao = some a ∧ KpAt w (a.add (i * 2)) p
theorem RdK.nil (w : World) : RdK w (.slice none 0 0) [] := ⟨none, 0, rfl, by simp, by simp, fun _ => rfl, fun i p hi => by simp at hi⟩
theorem RdK.below {B : Nat} {w w' : World} {v : Value} {E : List Kp} (h : RdK w v E) (hb : Below B w w') (hB : w.heap.size ≤ B) : RdK w' v E := by
  obtain ⟨ao, c, h0, h1, h2, h3, h4⟩ := h
  refine ⟨ao, c, h0, h1, h2, h3, fun i p hi => ?_⟩
  obtain ⟨a, e, hc⟩ := h4 i p hi
  exact ⟨a, e, hc.below hb hB⟩
theorem RdK.keptC {S : Nat → Prop} {w w' : World} {v : Value} {E : List Kp} (h : RdK w v E) (hc : Chg S w w') (hS : ∀ b, v.ownBlock = some b → ¬ S b) : RdK w' v E := by
  obtain ⟨ao, c, rfl, h1, h2, h3, h4⟩ := h
  refine ⟨ao, c, rfl, h1, h2, h3, fun i p hi => ?_⟩
  obtain ⟨a, rfl, ha⟩ := h4 i p hi
  exact ⟨a, rfl, ha.keptC hc (by rw [add_block]; exact hS _ rfl)⟩
theorem RdK.shape {w : World} {v : Value} {l : List Kp} (h : RdK w v l) : ∃ a c, v = .slice a l.length c ∧ l.length ≤ c ∧ c ≤ 9223372036854775807 := by
  obtain ⟨ao, c, e, h1, h2, _⟩ := h; exact ⟨_, _, e, h1, by unfold maxLen at h2; omega⟩
theorem RdK.cells {w : World} {a : Addr} {n c : Nat} {E : List Kp} (h : RdK w (.slice (some a) n c) E) : ∀ j u, (kcs E)[j]? = some u → w.cell? (a.add j) = some u := by
  intro j u hu
  obtain ⟨ao', c', e, h1, h2, h3, h4⟩ := h
  simp only [Value.slice.injEq] at e
  obtain ⟨rfl, rfl, rfl⟩ := e
  obtain ⟨i, r, p, ep, hr, rfl, hp⟩ := fm_inv kc_len (by omega) E j u hu
  obtain ⟨a', e, hc⟩ := h4 i p ep
  obtain rfl := Option.some.inj e
  match r, hr with
  | 0, _ => simp [kc_] at hp; subst hp; exact hc.c0
  | 1, _ => simp [kc_] at hp; subst hp; rw [← add_at a (i * 2) 0]; exact hc.c1

/-- A row of edges of the call's own. -/
def OwK (B : Nat) (w : World) (v : Value) (E : List Kp) : Prop := w.ownsRow B 89 2 v E.length (kcs E)
theorem OwK.nil (B : Nat) (w : World) : OwK B w (.slice none 0 0) [] := World.ownsRow_nil _ _ _ _
theorem OwK.below {B C : Nat} {w w' : World} {v : Value} {E : List Kp} (h : OwK B w v E) (hb : Below C w w') (hC : w.heap.size ≤ C) : OwK B w' v E := ownsRow_belP h hb hC
theorem OwK.keptC {S : Nat → Prop} {B : Nat} {w w' : World} {v : Value} {E : List Kp} (h : OwK B w v E) (hc : Chg S w w') (hS : ∀ b, v.ownBlock = some b → ¬ S b) : OwK B w' v E := ownsRow_keptC h hc hS
theorem OwK.lt {B : Nat} {w : World} {v : Value} {E : List Kp} (h : OwK B w v E) (b : Nat) (e : v.ownBlock = some b) : B ≤ b ∧ b < w.heap.size := World.ownsRow.lt h b e
theorem OwK.mono {B B' : Nat} {w : World} {v : Value} {E : List Kp} (h : OwK B w v E) (hB : B' ≤ B) : OwK B' w v E := by
  obtain ⟨h1, h2⟩ := h
  refine ⟨h1, ?_⟩
  rcases h2 with h2 | ⟨g, cap, cur, hv, hg, r⟩
  · exact .inl h2
  · exact .inr ⟨g, cap, cur, hv, by omega, r⟩
theorem OwK.rd {B : Nat} {w : World} {v : Value} {E : List Kp} (h : OwK B w v E) : RdK w v E := by
  obtain ⟨a, c, hv, h1, h2, h3, h4⟩ := row_reads h
  refine ⟨a, c, hv, h1, h2, h3, fun i p hi => ?_⟩
  obtain ⟨e0, e1⟩ := kcs_at E i p hi
  obtain ⟨g, rfl, q0⟩ := h4 _ _ e0
  obtain ⟨g1, eg, q1⟩ := h4 _ _ e1
  simp only [Option.some.injEq, Addr.mk.injEq, and_true] at eg
  subst eg
  exact ⟨⟨g, 0, none⟩, rfl, by rw [Addr.add_lit, Nat.zero_add]; exact q0, by rw [Addr.add_lit, Nat.zero_add]; exact q1⟩
/-- None, or at the head of its block. -/
theorem OwK.blk {B : Nat} {w : World} {v : Value} {E : List Kp} (h : OwK B w v E) : (v = .slice none 0 0 ∧ E = []) ∨ ∃ g c, v = .slice (some ⟨g, 0, none⟩) E.length c ∧ E.length ≤ c ∧ c ≤ maxLen ∧ B ≤ g ∧ g < w.heap.size ∧ (∀ j u, (kcs E)[j]? = some u → w.cell? ⟨g, j, none⟩ = some u) ∧ (∀ j, j < c * 2 → (w.cell? ⟨g, j, none⟩).isSome = true) ∧ (∀ j, w.frozen? ⟨g, j, none⟩ = false) ∧ w.shape? g = some (89, c * 2) := by
  have h' := h
  rcases h.2 with ⟨hv, h0⟩ | ⟨g, cap, cur, hv, hg, hh, hn, hcap, hsz, htake⟩
  · exact .inl ⟨hv, List.length_eq_zero_iff.1 h0⟩
  · subst hv
    refine .inr ⟨g, cap, rfl, hn, hcap, hg, (Array.getElem?_eq_some_iff.1 hh).1, fun j u hu => ?_, fun j hj => ?_, fun j => frozen_of_row _ _ _ _ _ hh, ?_⟩
    · have := World.ownsRow.cells h' (g := g) rfl j u hu
      rwa [Addr.add_lit, Nat.zero_add] at this
    · rw [cell_of_row _ _ _ _ _ _ hh, Array.getElem?_eq_getElem (by omega)]; rfl
    · simp [World.shape?, hh, hsz]

theorem Try.infoKp : (Try.prog.info? 89).map (fun i => (i.zero, i.size, i.bytes)) = some (some (.agg #[.int .u64 0, .slice none 0 0]), 2, 32) := by kernel_rfl
theorem run_appK (w : World) (ty : TypeId) (B : Nat) (v : Value) (l : List Kp) (hown : OwK B w v l) (vx : Value) (m : List Kp) (hm : RdK w vx m) (hB : B ≤ w.heap.size) (hlen : l.length + m.length ≤ 1099511627776) :
    ∃ v' w', (Builtin.append_ #[77, 77] ty #[v, vx]).run Try.prog w = .ok v' w' ∧ OwK B w' v' (l ++ m) ∧ w.grownBy w' v.ownBlock ∧ (v'.ownBlock = v.ownBlock ∨ v'.ownBlock = some w.heap.size) := by
  obtain ⟨i, hi, hz0, hz1, hz2⟩ := info_parts Try.infoKp
  have hm' := hm
  obtain ⟨ao, c, rfl, h1, h2, h3, h4⟩ := hm
  cases ao with
  | none =>
    have hc := h3 rfl
    have hl : m = [] := List.length_eq_zero_iff.1 (by omega)
    subst hl; subst hc
    exact ⟨v, w, run_append_owned_none (P := Try.prog) (w := w) B 77 ty 89 i 2 Try.underlying77 hi v l.length (kcs l) hown, by simpa using hown, World.grownBy.refl _ _, .inl rfl⟩
  | some ad =>
    obtain ⟨v', w', hr, q2, q3, q4⟩ := run_appW (P := Try.prog) w B 77 ty 89 _ 2 32 Try.underlying77 Try.infoKp rfl (by decide) v l.length (kcs l) hown ad m.length c (kcs m) (kcs_len m) hm'.cells (kcs_one m) (by unfold maxLen; omega) (by omega) hB
    exact ⟨v', w', hr, by unfold OwK; rw [kcs_app, List.length_append]; exact q2, q3, q4⟩
theorem wpList_appK {w : World} {ops : Array Oper} {rest : List Oper} {o : Oper} {a : Act} {Q : Exit → Act → World → Prop} (hgd : o.guard = none) (s x : Operand)
    (ho : o.op = .call { callee := .builtin .append, args := #[s, x], argTypes := #[77, 77] })
    (B : Nat) (v : Value) (l : List Kp) (hs : a.eval s = v) (hown : OwK B w v l) (vx : Value) (m : List Kp) (hx : a.eval x = vx) (hm : RdK w vx m) (hB : B ≤ w.heap.size) (hlen : l.length + m.length ≤ 1099511627776)
    (h : ∀ v' w', OwK B w' v' (l ++ m) → w.grownBy w' v.ownBlock → (v'.ownBlock = v.ownBlock ∨ v'.ownBlock = some w.heap.size) → wpList Try.prog ops Q rest (a.put o.dst v') w') : wpList Try.prog ops Q (o :: rest) a w := by
  refine wpList_plain hgd fun K hK => ?_
  obtain ⟨v', w', hr, q2, q3, q4⟩ := run_appK w o.type B v l hown vx m hm hB hlen
  unfold Oper.wp execOp
  simp only [ho, resolve, invoke, builtin, Sem.run_bind, Sem.run_pure, Result.andThen_ok, List.map_toArray, List.map_cons, List.map_nil, hs, hx, hr]
  exact hK _ _ (h v' w' q2 q3 q4)
end Go.Proofs.Ytlajncjamafomaa

/- What the bound on an input's bulk gives (Bulk), and a []byte that came in. -/

/- What varintSize, readVarint and readPart answer of any bytes. -/
namespace Go.Proofs.Ytlajncjamafomaa
open Go.RowKit
set_option linter.unusedVariables false
set_option maxRecDepth 100000

/-- How many bytes a number takes, and the error. -/
def vsz (l : List UInt8) : Nat × Nat :=
  if M.cont 10 l = 10 then (0, 12) else if l.length ≤ M.cont 10 l then (0, 10) else (M.cont 10 l + 1, 0)

set_option maxHeartbeats 400000 in
theorem vsize_any {v : Value} {l : List UInt8} {w : World} (hr : Rd w v l) :
    Calls Try.prog 59 #[v] w fun e w' => e = .returned (.tuple #[.int .i64 (vsz l).1, .int .i64 (vsz l).2]) ∧ ∃ k, w' = w.drewN k := by
  obtain ⟨ao, c, rfl, h1, h2, h3, h4⟩ := hr
  unfold maxLen at h2
  go_enter Try.func59, Try.ntmps59
  go_wp2
  all_goals
    go_loopw [4, 8] (fun _ i wr => ∃ k : Nat, k ≤ l.length ∧ k ≤ 10 ∧ i = .int .i64 k ∧ (∀ j, (h : j < l.length) → j < k → 128 ≤ l[j].toNat) ∧ wr = w) (fun _ i _ => 10 - (intOf i).toNat)
    case atStart => exact ⟨0, Nat.zero_le _, Nat.zero_le _, rfl, fun j _ hj => by omega, rfl⟩
    case round =>
      obtain ⟨k, hk, hk10, rfl, hs, rfl⟩ := hrel
      by_cases hlt : k < l.length ∧ k < 10
      · obtain ⟨hlt, hlt10⟩ := hlt
        obtain ⟨a, rfl, hc⟩ := h4 k hlt
        have HS : Hid _ := hs
        clear hs h4
        by_cases hx : l[k].toNat < 128
        · go_wp2
          go_ret2
          have e : M.cont 10 l = k := M.cont_eq 10 k l hk10 hk (fun j hj => HS.out j (by omega) hj) (.inr (.inr ⟨hlt, hx⟩))
          have e2 : vsz l = (k + 1, 0) := by unfold vsz; rw [e, if_neg (by omega), if_neg (by omega)]
          rw [e2]
          exact ⟨by simp, 0, rfl⟩
        · go_wp2
          refine ⟨⟨k + 1, by omega, by omega, by go_num, fun j h hj => ?_, trivial⟩, by simp [intOf]; omega⟩
          by_cases hj' : j < k
          · exact HS.out j h hj'
          · obtain rfl : j = k := by omega
            omega
      · have HS : Hid _ := hs
        clear hs h4
        have e : M.cont 10 l = k := M.cont_eq 10 k l hk10 hk (fun j hj => HS.out j (by omega) hj) (by omega)
        have HE : Hid _ := e
        clear e
        have hlt1 : l.length ≤ k ∨ 10 ≤ k := by omega
        clear hlt
        go_wp2
        all_goals
          go_ret2
          refine ⟨?_, 0, rfl⟩
          have e2 := HE.out
          unfold vsz
          rw [e2]
          first | rw [if_neg (by omega), if_pos (by omega)] | rw [if_pos (by omega)]
          try rfl

set_option maxHeartbeats 400000 in
theorem part_any2 {v : Value} {l : List UInt8} {n : Nat} {w : World} (hr : Rd w v l) (hn : n < 18446744073709551616) :
    Calls Try.prog 49 #[v, .int .u64 n] w fun e w' => ∃ v1 v2, e = .returned (.tuple #[v1, v2, .int .i64 (M.part l n).2.2]) ∧ (∀ w0, Rd w0 v l → Rd w0 v1 (M.part l n).1 ∧ Rd w0 v2 (M.part l n).2.1) ∧ ∃ k, w' = w.drewN k := by
  obtain ⟨ao, c, rfl, h1, h2, h3, h4⟩ := hr
  unfold maxLen at h2
  by_cases hlt : l.length < n
  · go_enter Try.func49, Try.ntmps49
    go_wp2
    go_ret3
    have e : M.part l n = ([], [], 10) := by unfold M.part; rw [if_pos hlt]
    rw [e]
    exact ⟨_, _, rfl, fun _ _ => ⟨Rd.nil _, Rd.nil _⟩, 0, rfl⟩
  · have e : M.part l n = (l.take n, l.drop n, 0) := by unfold M.part; rw [if_neg hlt]
    rw [e]
    clear e
    by_cases hcn : c = n
    · subst hcn
      have hp := fun (w0 : World) (hr' : Rd w0 (.slice ao l.length c) l) => hr'.post c (by omega) ao ⟨fun _ => rfl, fun h => absurd rfl h⟩
      rw [Nat.sub_self, show l.length - c = 0 by omega] at hp
      go_enter Try.func49, Try.ntmps49
      go_wp2
      go_region
      all_goals go_wp2
      all_goals go_ret3
      all_goals exact ⟨_, _, rfl, fun w0 hr' => ⟨hr'.pre c (by omega), hp w0 hr'⟩, _, rfl⟩
    · go_enter Try.func49, Try.ntmps49
      go_wp2
      go_region
      all_goals go_wp2
      all_goals go_ret3
      all_goals exact ⟨_, _, rfl, fun w0 hr' => ⟨hr'.pre n (by omega), hr'.post n (by omega) _ ⟨fun h => absurd h hcn, fun _ => rfl⟩⟩, _, rfl⟩
theorem part_any {v : Value} {l : List UInt8} {n : Nat} {w : World} (hr : Rd w v l) (hn : n < 18446744073709551616) :
    Calls Try.prog 49 #[v, .int .u64 n] w fun e w' => ∃ v1 v2, e = .returned (.tuple #[v1, v2, .int .i64 (M.part l n).2.2]) ∧ Rd w v1 (M.part l n).1 ∧ Rd w v2 (M.part l n).2.1 ∧ ∃ k, w' = w.drewN k :=
  (part_any2 hr hn).mono fun e w' ⟨v1, v2, h1, h2, h3⟩ => ⟨v1, v2, h1, (h2 w hr).1, (h2 w hr).2, h3⟩

theorem vsz_cases (l : List UInt8) : (∃ e, (e = 12 ∨ e = 10) ∧ vsz l = (0, e) ∧ M.tv l = (0, [], e)) ∨ ∃ s, s < 10 ∧ s < l.length ∧ vsz l = (s + 1, 0) ∧
    M.tv l = if 0 < s ∧ (l.getD s 0).toNat = 0 ∨ s = 9 ∧ 1 < (l.getD s 0).toNat then (0, [], 12) else (M.val (l.take (s + 1)), l.drop (s + 1), 0) := by
  have hle := M.cont_le 10 l
  by_cases h1 : M.cont 10 l = 10
  · refine .inl ⟨12, .inl rfl, ?_, ?_⟩
    · unfold vsz; rw [if_pos h1]
    · unfold M.tv; simp only []; rw [if_pos h1]
  · by_cases h2 : l.length ≤ M.cont 10 l
    · refine .inl ⟨10, .inr rfl, ?_, ?_⟩
      · unfold vsz; rw [if_neg h1, if_pos h2]
      · unfold M.tv; simp only []; rw [if_neg h1, if_pos h2]
    · refine .inr ⟨M.cont 10 l, by omega, by omega, ?_, ?_⟩
      · unfold vsz; rw [if_neg h1, if_neg h2]
      · unfold M.tv; simp only []; rw [if_neg h1, if_neg h2]

theorem vstep (l : List UInt8) (s k : Nat) (hk : k ≤ s) (hs : s < 10) (hl : k < l.length) (h9 : k = 9 → l[k].toNat ≤ 1) :
    bits BinOp.or IntKind.u64 (M.val (l.take k) : Int) (IntKind.u64.wrap (IntKind.u64.wrap (bits BinOp.andNot IntKind.u8 (l[k].toNat : Int) 128) * 2 ^ (7 * k))) = (M.val (l.take (k + 1)) : Int) := by
  have hx := l[k].toNat_lt
  have hpow : ∀ j, 128 ^ j = 2 ^ (7 * j) := fun j => by rw [Nat.pow_mul]
  rw [show (128 : Int) = ((128 : Nat) : Int) from rfl, u8_andNot_nat _ _ hx (by decide), show 255 - 128 = 127 from rfl, nat_mask7]
  rw [IntWalk.u64_in ((l[k].toNat % 128 : Nat) : Int) (by omega)]
  have hle : l[k].toNat % 128 * 2 ^ (7 * k) ≤ 9223372036854775808 + 9223372036854775807 := by
    by_cases hk9 : k = 9
    · have := h9 hk9
      subst hk9
      have h63 : (2 : Nat) ^ (7 * 9) = 9223372036854775808 := by decide
      rw [h63]; omega
    · have h56 : (2 : Nat) ^ (7 * k) ≤ 72057594037927936 := by
        have := Nat.pow_le_pow_right (n := 2) (by decide) (show 7 * k ≤ 56 by omega)
        simpa using this
      have := Nat.mul_le_mul (show l[k].toNat % 128 ≤ 127 by omega) h56
      omega
  have e1 : (((l[k].toNat % 128 : Nat) : Int) * 2 ^ (7 * k)) = ((l[k].toNat % 128 * 2 ^ (7 * k) : Nat) : Int) := by
    rw [Int.natCast_mul, Int.natCast_pow]; rfl
  rw [e1, IntWalk.u64_in ((l[k].toNat % 128 * 2 ^ (7 * k) : Nat) : Int) (by omega)]
  have hv := M.val_lt (l.take k)
  rw [List.length_take, Nat.min_eq_left (by omega), hpow] at hv
  have h63 : (2 : Nat) ^ (7 * k) ≤ 9223372036854775808 := by
    have := Nat.pow_le_pow_right (n := 2) (by decide) (show 7 * k ≤ 63 by omega)
    simpa using this
  rw [u64_or_nat _ _ (by omega) (by omega), Nat.or_comm, nat_join (7 * k) _ _ (Nat.mul_mod_left _ _) hv, take_snoc l k hl, M.val_append, List.length_take, Nat.min_eq_left (by omega), hpow]
  simp only [M.val, Nat.mul_zero, Nat.add_zero]
  rw [Nat.mul_comm (2 ^ (7 * k)), Nat.add_comm]

set_option maxHeartbeats 800000 in
theorem rvar_bad {l : List UInt8} {s c : Nat} {a : Addr} {w : World} (hl : l.length ≤ 9223372036854775807) (hvs : Calls Try.prog 59 #[.slice (some a) l.length c] w fun e w' => e = .returned (.tuple #[.int .i64 ((s + 1 : Nat) : Int), .int .i64 0]) ∧ ∃ k, w' = w.drewN k)
    (hs10 : s < 10) (hsl : s < l.length) (hc : w.cell? (a.add s) = some (.int .u8 (l[s].toNat : Int))) (hbad : 0 < s ∧ l[s].toNat = 0 ∨ s = 9 ∧ 1 < l[s].toNat) :
    Calls Try.prog 47 #[.slice (some a) l.length c] w fun e w' => ∃ v2, e = .returned (.tuple #[.int .u64 0, v2, .int .i64 12]) ∧ (∀ w0 : World, Rd w0 (.slice (some a) l.length c) l → Rd w0 v2 []) ∧ ∃ k, w' = w.drewN k := by
  have hx := l[s].toNat_lt
  go_enter Try.func47, Try.ntmps47
  go_wp2_with (go_at_call 59; refine hvs.mono ?_; rintro e w' ⟨rfl, kk, rfl⟩)
  all_goals go_ret3
  all_goals exact ⟨_, rfl, fun _ _ => Rd.nil _, _, rfl⟩

set_option maxHeartbeats 1000000 in
theorem rvar_good {l : List UInt8} {s c : Nat} {a : Addr} {w : World} (hr : Rd w (.slice (some a) l.length c) l) (hlc : l.length ≤ c) (hcm : c ≤ 9223372036854775807) (hvs : Calls Try.prog 59 #[.slice (some a) l.length c] w fun e w' => e = .returned (.tuple #[.int .i64 ((s + 1 : Nat) : Int), .int .i64 0]) ∧ ∃ k, w' = w.drewN k)
    (hs10 : s < 10) (hsl : s < l.length) (h4 : ∀ i, (h : i < l.length) → w.cell? (a.add i) = some (.int .u8 (l[i].toNat : Int))) (hok : ¬ (0 < s ∧ l[s].toNat = 0 ∨ s = 9 ∧ 1 < l[s].toNat)) :
    Calls Try.prog 47 #[.slice (some a) l.length c] w fun e w' => ∃ v2, e = .returned (.tuple #[.int .u64 (M.val (l.take (s + 1))), v2, .int .i64 0]) ∧ (∀ w0, Rd w0 (.slice (some a) l.length c) l → Rd w0 v2 (l.drop (s + 1))) ∧ ∃ k, w' = w.drewN k := by
  have hx := l[s].toNat_lt
  have hc := h4 s hsl
  have hst : ∀ k, (h : k < l.length) → k ≤ s → bits BinOp.or IntKind.u64 (M.val (l.take k) : Int) (IntKind.u64.wrap (IntKind.u64.wrap (bits BinOp.andNot IntKind.u8 (l[k].toNat : Int) 128) * 2 ^ (7 * k))) = (M.val (l.take (k + 1)) : Int) :=
    fun k h hk => vstep l s k hk hs10 h (fun h9 => by
      have e : s = k := by omega
      subst e
      omega)
  have HST : Hid _ := hst
  clear hst
  have hp := fun (w0 : World) (hr0 : Rd w0 (.slice (some a) l.length c) l) => hr0.post (s + 1) (by omega) (if c = s + 1 then some a else some (a.add (s + 1))) ⟨fun h => by rw [if_pos h], fun h => by rw [if_neg h]; rfl⟩
  have HP : Hid _ := hp
  clear hp
  go_enter Try.func47, Try.ntmps47
  go_wp2_with (go_at_call 59; refine hvs.mono ?_; rintro e w' ⟨rfl, kk, rfl⟩)
  all_goals
    clear hvs
    go_loopw [8, 9, 10, 42] (fun m _ _ i wr => ∃ k : Nat, k ≤ s + 1 ∧ i = .int .i64 k ∧ m = .int .u64 (M.val (l.take k)) ∧ wr = w.drewN kk) (fun _ _ _ i _ => s + 1 - (intOf i).toNat)
    case atStart => exact ⟨0, Nat.zero_le _, rfl, rfl, rfl⟩
    case round =>
      obtain ⟨k, hk, rfl, rfl, rfl⟩ := hrel
      by_cases hlt : k < s + 1
      · have hck := h4 k (by omega)
        have hxk := (l[k]'(by omega)).toNat_lt
        go_wp2
        exact ⟨⟨k + 1, by omega, by go_num, congrArg _ (HST.out k (by omega) (by omega)), trivial⟩, by simp [intOf]; omega⟩
      · obtain rfl : k = s + 1 := by omega
        have hp := HP.out
        by_cases hcn : c = s + 1
        · rw [if_pos hcn] at hp
          have HP2 : Hid _ := hp
          clear hp
          go_wp2
          go_region
          all_goals go_wp2
          all_goals go_ret3
          all_goals exact ⟨_, rfl, fun w0 h0 => Rd.cong (HP2.out w0 h0) rfl (by omega) (by omega), kk + 1, rfl⟩
        · rw [if_neg hcn] at hp
          have HP2 : Hid _ := hp
          clear hp
          go_wp2
          go_region
          all_goals go_wp2
          all_goals go_ret3
          all_goals exact ⟨_, rfl, fun w0 h0 => Rd.cong (HP2.out w0 h0) (by simp [Addr.add]; try omega) (by omega) (by omega), kk + 1, rfl⟩

/-- What is answered is a piece of what came in: it reads so in whatever world that reads so. -/
theorem rvar_any2 {v : Value} {l : List UInt8} {w : World} (hr : Rd w v l) :
    Calls Try.prog 47 #[v] w fun e w' => ∃ v2, e = .returned (.tuple #[.int .u64 (M.tv l).1, v2, .int .i64 (M.tv l).2.2]) ∧ (∀ w0, Rd w0 v l → Rd w0 v2 (M.tv l).2.1) ∧ ∃ k, w' = w.drewN k := by
  have hvs := vsize_any hr
  rcases vsz_cases l with ⟨er, her, h1, h2⟩ | ⟨s, hs10, hsl, h1, h2⟩
  · rw [h1] at hvs
    rw [h2]
    clear h1 h2
    go_enter Try.func47, Try.ntmps47
    have hne : (((er : Nat) : Int) != 0) = true := by rcases her with rfl | rfl <;> rfl
    go_wp2_with (go_at_call 59; refine hvs.mono ?_; rintro e w' ⟨rfl, kk, rfl⟩)
    go_ret3
    exact ⟨_, rfl, fun _ _ => Rd.nil _, _, rfl⟩
  · rw [h1] at hvs
    rw [h2]
    clear h1 h2
    have eg : l.getD s 0 = l[s] := by simp [hsl]
    rw [eg]
    clear eg
    rcases hr.two with ⟨rfl, rfl⟩ | ⟨a, c, rfl, h1, h2, h4⟩
    · simp at hsl
    · unfold maxLen at h2
      by_cases hbad : 0 < s ∧ l[s].toNat = 0 ∨ s = 9 ∧ 1 < l[s].toNat
      · rw [if_pos hbad]
        exact rvar_bad (by omega) hvs hs10 hsl (h4 s hsl) hbad
      · rw [if_neg hbad]
        exact rvar_good hr h1 (by omega) hvs hs10 hsl h4 hbad
theorem rvar_any {v : Value} {l : List UInt8} {w : World} (hr : Rd w v l) :
    Calls Try.prog 47 #[v] w fun e w' => ∃ v2, e = .returned (.tuple #[.int .u64 (M.tv l).1, v2, .int .i64 (M.tv l).2.2]) ∧ Rd w v2 (M.tv l).2.1 ∧ ∃ k, w' = w.drewN k :=
  (rvar_any2 hr).mono fun e w' ⟨v2, h1, h2, h3⟩ => ⟨v2, h1, h2 w hr, h3⟩
end Go.Proofs.Ytlajncjamafomaa

/- How long what is read as a number is. -/
namespace Go.Proofs.Ytlajncjamafomaa
open Go.RowKit
set_option linter.unusedVariables false
set_option maxRecDepth 100000

theorem Ow.drewN {B : Nat} {w : World} {v : Value} {l : List UInt8} (h : Ow B w v l) (n : Nat) : Ow B (w.drewN n) v l := h.below (below_drewN (Below.refl _ _) n) (Nat.le_refl _)
theorem vi_len (n : Nat) : (M.vi n).length ≤ 10 := M.viF_length 9 n
theorem tv_lt (l : List UInt8) : (M.tv l).1 < 18446744073709551616 := by
  unfold M.tv
  simp only []
  have hle := M.cont_le 10 l
  split
  · decide
  · split
    · decide
    · split
      · decide
      · rename_i h1 h2 h3
        simp only []
        have hv := M.val_lt (l.take (M.cont 10 l))
        rw [List.length_take, Nat.min_eq_left (by omega)] at hv
        rw [take_snoc l _ (by omega), M.val_append, List.length_take, Nat.min_eq_left (by omega)]
        simp only [M.val, Nat.mul_zero, Nat.add_zero]
        have eg : l.getD (M.cont 10 l) 0 = l[M.cont 10 l]'(by omega) := by simp [show M.cont 10 l < l.length by omega]
        rw [eg] at h3
        have hx9 : M.cont 10 l = 9 → (l[M.cont 10 l]'(by omega)).toNat ≤ 1 := fun h => by omega
        clear h3 eg
        generalize (l[M.cont 10 l]'(by omega)).toNat = x at *
        by_cases h9 : M.cont 10 l = 9
        · have hx1 := hx9 h9
          have h63 : (128 : Nat) ^ M.cont 10 l = 9223372036854775808 := by rw [h9]
          rw [h63]
          rw [h63] at hv
          have : x % 128 ≤ 1 := by omega
          omega
        · have hp := Nat.pow_le_pow_right (n := 128) (by decide) (show M.cont 10 l ≤ 8 by omega)
          have h56 : (128 : Nat) ^ 8 = 72057594037927936 := by decide
          rw [h56] at hp
          have := Nat.mul_le_mul hp (show x % 128 ≤ 127 by omega)
          omega
theorem tv_len (l : List UInt8) : (M.tv l).2.1.length ≤ l.length := by
  unfold M.tv
  simp only []
  split
  · simp
  · split
    · simp
    · split
      · simp
      · simp
end Go.Proofs.Ytlajncjamafomaa

/- What Frame makes and TakeFrame answers of any bytes; and that 'awake' answers true. -/
namespace Go.Proofs.Ytlajncjamafomaa
open Go.RowKit
set_option linter.unusedVariables false
set_option maxRecDepth 100000

set_option maxHeartbeats 400000 in
theorem frame_any {v : Value} {l : List UInt8} {w : World} (hr : Rd w v l) (hl : l.length ≤ 140737488355000) :
    Calls Try.prog 52 #[v] w fun e w' => ∃ v', e = .returned v' ∧ Ow w.heap.size w' v' (M.frame l) ∧ Below w.heap.size w w' := by
  have hr' := hr
  obtain ⟨ao, c, rfl, h1, h2, h3, h4⟩ := hr
  unfold maxLen at h2
  clear h3 h4
  have hc := M.crc_lt l
  go_enter Try.func52, Try.ntmps52
  go_wp2_with fail
  refine (varint_any l.length _ (by omega)).mono ?_
  rintro e w1 ⟨v1, rfl, ho1, hb1⟩
  have hr1 := hr'.below hb1 (Nat.le_refl _)
  go_wp2_with fail
  refine (sum_any hr1).mono ?_
  rintro e w2 ⟨rfl, k2, rfl⟩
  have ho2 := ho1.drewN k2
  have hr2 := hr1.drewN k2
  go_wp2_with fail
  refine (high_any (M.crc l) 4 _ (by omega) (by decide)).mono ?_
  rintro e w3 ⟨v3, rfl, ho3, hb3⟩
  have ho3' := ho2.below hb3 (by simp)
  have hr3 := hr2.below hb3 (by simp)
  have hs1 := hb1.size
  have hs3 := hb3.size
  simp only [World.heap_drewN] at hs3
  have hvl := vi_len l.length
  have hbl := M.be_length 4 (M.crc l)
  have hw3 : Below w.heap.size w w3 := Below.tr (Below.tr hb1 (Below.dN w1 k2)) hb3
  have hB3 : w.heap.size ≤ w3.heap.size := hw3.size
  go_wp2_with (first | (at_builtin; refine wpList_app rfl _ _ rfl w.heap.size _ (M.vi l.length) rfl ho3' _ (M.be 4 (M.crc l)) rfl ho3.rd hB3 (by omega) ?_; intro v4 w4 ho4 hb4 hg4) | (at_builtin; refine wpList_app rfl _ _ rfl w.heap.size _ (M.vi l.length ++ M.be 4 (M.crc l)) rfl ho4 _ l rfl ?hr4 ?hB4 ?hl4 ?_; rotate_right; intro v5 w5 ho5 hb5 hg5) | fail)
  case hr4 => exact hr'.below (hw3.trans hb4) (Nat.le_refl _)
  case hB4 => exact Nat.le_trans hB3 hb4.size
  case hl4 => simp; omega
  go_ret
  exact ⟨_, rfl, ho5, (hw3.trans hb4).trans hb5⟩
theorem tf_cases (l : List UInt8) : ((M.tv l).2.2 ≠ 0 ∧ M.tf l = ([], [], (M.tv l).2.2)) ∨ ((M.tv l).2.2 = 0 ∧ (M.tv l).2.1.length < 4 ∧ M.tf l = ([], [], 10)) ∨
    ((M.tv l).2.2 = 0 ∧ 4 ≤ (M.tv l).2.1.length ∧ M.tf l = if ((M.tv l).2.1.drop 4).length < (M.tv l).1 then ([], [], 10) else if M.crc (((M.tv l).2.1.drop 4).take (M.tv l).1) ≠ M.num ((M.tv l).2.1.take 4) then ([], [], 11) else (((M.tv l).2.1.drop 4).take (M.tv l).1, ((M.tv l).2.1.drop 4).drop (M.tv l).1, 0)) := by
  by_cases h1 : (M.tv l).2.2 ≠ 0
  · refine .inl ⟨h1, ?_⟩
    unfold M.tf; simp only []; rw [if_pos h1]
  · have h1' : (M.tv l).2.2 = 0 := by simpa using h1
    by_cases h2 : (M.tv l).2.1.length < 4
    · refine .inr (.inl ⟨h1', h2, ?_⟩)
      unfold M.tf; simp only []; rw [if_neg h1, if_pos h2]
    · refine .inr (.inr ⟨h1', by omega, ?_⟩)
      unfold M.tf; simp only []; rw [if_neg h1, if_neg h2]
set_option maxHeartbeats 400000 in
theorem tframe_any {v : Value} {l : List UInt8} {w : World} (hr : Rd w v l) (hl : l.length ≤ 140737488355000) :
    Calls Try.prog 29 #[v] w fun e w' => ∃ v1 v2, e = .returned (.tuple #[v1, v2, .int .i64 (M.tf l).2.2]) ∧ Ow w.heap.size w' v1 (M.tf l).1 ∧ Ow w.heap.size w' v2 (M.tf l).2.1 ∧ Apart v1 v2 ∧ Below w.heap.size w w' := by
  have hrv := rvar_any hr
  have htl := tv_lt l
  have hll := tv_len l
  rcases tf_cases l with ⟨h1, h2⟩ | ⟨h1, h2, h3⟩ | ⟨h1, h2, h3⟩
  · rw [h2]
    generalize M.tv l = r at *
    obtain ⟨n, rest, er⟩ := r
    simp only [] at *
    have hne : (((er : Nat) : Int) != 0) = true := by simp; omega
    go_enter Try.func29, Try.ntmps29
    go_wp2_with (go_at_call 47; refine hrv.mono ?_; rintro e w1 ⟨v2, rfl, hr2, k1, rfl⟩)
    go_ret3
    exact ⟨_, _, rfl, Ow.nil _ _, Ow.nil _ _, .inl rfl, Below.dN _ _⟩
  · rw [h3]
    generalize M.tv l = r at *
    obtain ⟨n, rest, er⟩ := r
    simp only [] at *
    subst h1
    go_enter Try.func29, Try.ntmps29
    go_wp2_with fail
    refine hrv.mono ?_
    rintro e w1 ⟨v2, rfl, hr2, k1, rfl⟩
    obtain ⟨ao, c, rfl, g1, g2, g3, g4⟩ := hr2
    clear g3 g4
    unfold maxLen at g2
    go_wp2_with fail
    go_ret3
    exact ⟨_, _, rfl, Ow.nil _ _, Ow.nil _ _, .inl rfl, Below.dN _ _⟩
  · rw [h3]
    generalize M.tv l = r at *
    obtain ⟨n, rest, er⟩ := r
    simp only [] at *
    subst h1
    clear h3
    have hlp : (rest.take 4).length ≤ 8 := by simp; omega
    have hnl : M.num (rest.take 4) < 18446744073709551616 := by
      refine Nat.lt_of_lt_of_le (M.num_lt _) ?_
      have := Nat.pow_le_pow_right (n := 256) (by decide) hlp
      simpa using this
    have HLP : Hid _ := hlp
    clear hlp
    by_cases hsh : (rest.drop 4).length < n
    · rw [if_pos hsh]
      have e : M.part (rest.drop 4) n = ([], [], 10) := by unfold M.part; rw [if_pos hsh]
      have HPE : Hid _ := e
      clear e hsh
      go_enter Try.func29, Try.ntmps29
      go_wp2_with fail
      refine hrv.mono ?_
      rintro e w1 ⟨v2, rfl, hr2, k1, rfl⟩
      have hr2' := hr2
      obtain ⟨ao, c, rfl, g1, g2, g3, g4⟩ := hr2
      clear g3 g4
      unfold maxLen at g2
      have hpre := hr2'.pre 4 h2
      have hpost := hr2'.post 4 h2 (if c = 4 then ao else ao.map (fun a => a.add 4)) ⟨fun h => by rw [if_pos h], fun h => by rw [if_neg h]⟩
      have HP : Hid _ := hpost
      clear hpost
      go_wp2_with fail
      refine (number_any (hpre.drewN k1) HLP.out).mono ?_
      rintro e w2 ⟨rfl, k2, rfl⟩
      by_cases hc4 : c = 4
      all_goals
        go_wp2_with fail
        refine (part_any (l := rest.drop 4) (n := n) ?hr htl).mono ?_
        case hr =>
          have := (Rd.drewN HP.out k1).drewN k2
          refine Rd.cong this ?_ ?_ ?_
          · first | rw [if_pos hc4] | (rw [if_neg hc4]; try rfl)
          · first | rfl | omega
          · first | rfl | omega
        rintro e w3 ⟨v1, v3, rfl, hr3, hr4, k3, rfl⟩
        rw [HPE.out] at hr3 hr4 ⊢
        simp only [] at hr3 hr4 ⊢
        go_wp2_with fail
        go_ret3
        exact ⟨_, _, rfl, Ow.nil _ _, Ow.nil _ _, .inl rfl, Below.dN _ _⟩
    · rw [if_neg hsh]
      have e : M.part (rest.drop 4) n = ((rest.drop 4).take n, (rest.drop 4).drop n, 0) := by unfold M.part; rw [if_neg hsh]
      have hbl : ((rest.drop 4).take n).length ≤ 140737488355000 := by simp; omega
      have hbh : ((rest.drop 4).drop n).length ≤ 140737488355000 := by simp; omega
      generalize (rest.drop 4).take n = body at *
      generalize (rest.drop 4).drop n = beh at *
      have HPE : Hid _ := e
      clear e hsh
      have hcr := M.crc_lt body
      by_cases hsum : M.crc body = M.num (rest.take 4)
      · rw [if_neg (by simpa using hsum)]
        have hbn : (((M.crc body : Nat) : Int) != ((M.num (rest.take 4) : Nat) : Int)) = false := by simp [hsum]
        clear hsum
        go_enter Try.func29, Try.ntmps29
        go_wp2_with fail
        refine hrv.mono ?_
        rintro e w1 ⟨v2, rfl, hr2, k1, rfl⟩
        have hr2' := hr2
        obtain ⟨ao, c, rfl, g1, g2, g3, g4⟩ := hr2
        clear g3 g4
        unfold maxLen at g2
        have hpre := hr2'.pre 4 h2
        have hpost := hr2'.post 4 h2 (if c = 4 then ao else ao.map (fun a => a.add 4)) ⟨fun h => by rw [if_pos h], fun h => by rw [if_neg h]⟩
        have HP : Hid _ := hpost
        clear hpost
        go_wp2_with fail
        refine (number_any (hpre.drewN k1) HLP.out).mono ?_
        rintro e w2 ⟨rfl, k2, rfl⟩
        by_cases hc4 : c = 4
        all_goals
          go_wp2_with fail
          refine (part_any (l := rest.drop 4) (n := n) ?hr htl).mono ?_
          case hr =>
            have := (Rd.drewN HP.out k1).drewN k2
            refine Rd.cong this ?_ ?_ ?_
            · first | rw [if_pos hc4] | (rw [if_neg hc4]; try rfl)
            · first | rfl | omega
            · first | rfl | omega
          rintro e w3 ⟨v1, v3, rfl, hr3, hr4, k3, rfl⟩
          rw [HPE.out] at hr3 hr4 ⊢
          simp only [] at hr3 hr4 ⊢
          go_wp2_with fail
          refine (sum_any (Rd.redrew hr3 _)).mono ?_
          rintro e w4 ⟨rfl, k4, rfl⟩
          go_wp2_with fail
          refine (clone_any (Rd.redrew hr3 _) (by omega)).mono ?_
          rintro e w5 ⟨v5, rfl, ho5, hb5⟩
          have hr7 := (Rd.redrew hr4 _).below hb5 (Nat.le_refl _)
          go_wp2_with fail
          refine (clone_any hr7 (by omega)).mono ?_
          rintro e w6 ⟨v6, rfl, ho6, hb6⟩
          go_wp2_with fail
          go_ret3
          exact ⟨_, _, rfl, ho5.below hb6 (Nat.le_refl _), ho6.mono hb5.size, ho5.apart ho6 (Nat.le_refl _), Below.tr (Below.tr (Below.dN _ _) hb5) hb6⟩
      · rw [if_pos (by simpa using hsum)]
        have hbn : (((M.crc body : Nat) : Int) != ((M.num (rest.take 4) : Nat) : Int)) = true := by simp; omega
        clear hsum
        go_enter Try.func29, Try.ntmps29
        go_wp2_with fail
        refine hrv.mono ?_
        rintro e w1 ⟨v2, rfl, hr2, k1, rfl⟩
        have hr2' := hr2
        obtain ⟨ao, c, rfl, g1, g2, g3, g4⟩ := hr2
        clear g3 g4
        unfold maxLen at g2
        have hpre := hr2'.pre 4 h2
        have hpost := hr2'.post 4 h2 (if c = 4 then ao else ao.map (fun a => a.add 4)) ⟨fun h => by rw [if_pos h], fun h => by rw [if_neg h]⟩
        have HP : Hid _ := hpost
        clear hpost
        go_wp2_with fail
        refine (number_any (hpre.drewN k1) HLP.out).mono ?_
        rintro e w2 ⟨rfl, k2, rfl⟩
        by_cases hc4 : c = 4
        all_goals
          go_wp2_with fail
          refine (part_any (l := rest.drop 4) (n := n) ?hr htl).mono ?_
          case hr =>
            have := (Rd.drewN HP.out k1).drewN k2
            refine Rd.cong this ?_ ?_ ?_
            · first | rw [if_pos hc4] | (rw [if_neg hc4]; try rfl)
            · first | rfl | omega
            · first | rfl | omega
          rintro e w3 ⟨v1, v3, rfl, hr3, hr4, k3, rfl⟩
          rw [HPE.out] at hr3 hr4 ⊢
          simp only [] at hr3 hr4 ⊢
          go_wp2_with fail
          refine (sum_any (Rd.redrew hr3 _)).mono ?_
          rintro e w4 ⟨rfl, k4, rfl⟩
          go_wp2_with fail
          go_ret3
          exact ⟨_, _, rfl, Ow.nil _ _, Ow.nil _ _, .inl rfl, Below.dN _ _⟩
end Go.Proofs.Ytlajncjamafomaa

/- Lists of byte slices in memory. -/
namespace Go.Proofs.Ytlajncjamafomaa
open Go.RowKit
set_option linter.unusedVariables false
set_option maxRecDepth 100000

/-- The slice value v reads as these texts. -/
def Rds (w : World) (v : Value) (ls : List (List UInt8)) : Prop :=
  ∃ ao c, v = .slice ao ls.length c ∧ ls.length ≤ c ∧ c ≤ maxLen ∧ ∀ i, (h : i < ls.length) → ∃ a u, ao = some a ∧ w.cell? (a.add i) = some u ∧ Rd w u ls[i]

theorem Rds.below {B : Nat} {w w' : World} {v : Value} {ls : List (List UInt8)} (h : Rds w v ls) (hb : Below B w w') (hB : w.heap.size ≤ B) : Rds w' v ls := by
  obtain ⟨ao, c, h0, h1, h2, h4⟩ := h
  refine ⟨ao, c, h0, h1, h2, fun i hi => ?_⟩
  obtain ⟨a, u, e, hc, hr⟩ := h4 i hi
  have hlt := World.block_lt_of_cell? w _ hc
  exact ⟨a, u, e, by rw [hb.cell (by omega)]; exact hc, hr.below hb hB⟩
end Go.Proofs.Ytlajncjamafomaa

/- How a list of byte slices that came in is read: as 'Rds', with a bound on all its bytes by the input's bulk. -/
namespace Go.Proofs.Ytlajncjamafomaa
open Go.ChangeShapes Go.WideShapes Go.ChangeAt Go.RowKit
set_option linter.unusedVariables false
set_option maxRecDepth 100000

/-- All bytes of a list, and one more a text. -/
def tot : List (List UInt8) → Nat
  | [] => 0
  | f :: r => f.length + 1 + tot r
theorem tot_len (ls : List (List UInt8)) : ls.length ≤ tot ls := by
  induction ls with
  | nil => simp [tot]
  | cons f r ih => simp only [tot, List.length_cons]; omega
theorem tot_mem (ls : List (List UInt8)) (f : List UInt8) (h : f ∈ ls) : f.length ≤ tot ls := by
  induction ls with
  | nil => cases h
  | cons g r ih =>
    rcases List.mem_cons.1 h with rfl | h
    · simp only [tot]; omega
    · have := ih h; simp only [tot]; omega
theorem tot_row (ls : List (List UInt8)) : (M.rowB ls).length ≤ 11 * tot ls := by
  induction ls with
  | nil => simp [M.rowB]
  | cons f r ih => have := vi_len f.length; simp only [tot, M.rowB, List.length_append]; omega

/-- One slice of bytes among the cells that came in. -/
theorem open_bytes_cs {H : Type} {enc : TypeId × Value → H} {W : World} {fuel : Nat} {cs : List Value} {x : DataW H × List MemPlace} (hf : DataW.trod enc Try.prog W 0 (fun _ => true) true fuel 22 cs = some x) :
    ∃ u l, cs = [u] ∧ Rd W u l ∧ l.length + 1 ≤ Rows.uptoBulk x.1 := by
  rcases open_ints Try.underlying22 Try.underlying5 (by kernel_rfl) hf with ⟨hcs, hx⟩ | ⟨a, len, cap, zs, hcs, _, hl, hm, hz, hd, hcell, hwz⟩
  · subst hx
    exact ⟨_, [], hcs, Rd.nil _, by simp [Rows.uptoBulk]⟩
  · have hz' : zs.length = cap := by simpa using hz
    have hlen : ((zs.take len).map (fun z => UInt8.ofNat z.toNat)).length = len := by simp; omega
    refine ⟨_, (zs.take len).map (fun z => UInt8.ofNat z.toNat), hcs, Rd.mk hlen.symm (by omega) hm (fun i hi => ?_), ?_⟩
    · have hi' : i < zs.length := by omega
      rw [hcell i hi']
      have hw := hwz (zs[i]) (List.getElem_mem hi')
      have hx : 0 ≤ zs[i] ∧ zs[i] ≤ 255 := by simpa [Lit.wf, IntKind.min, IntKind.max, IntKind.signed, IntKind.bits] using hw
      have e : zs.getD i 0 = zs[i] := by simp [hi']
      rw [e]
      simp only [List.getElem_map, List.getElem_take]
      rw [M.u8_ofNat]
      congr 2
      omega
    · rw [hlen, hd]
      have := bulk_ge (H := H) (lits .u8 (zs.take len))
      simp only [Rows.uptoBulk]
      simp only [lits, List.length_map, List.length_take] at this
      simp only [lits]
      omega

theorem tot_bulk {H : Type} : ∀ (elems : List (DataW H × List MemPlace)) (ls : List (List UInt8)), ls.length = elems.length → (∀ (i : Nat) (y : DataW H × List MemPlace) (l : List UInt8), elems[i]? = some y → ls[i]? = some l → l.length + 1 ≤ Rows.uptoBulk y.1) → tot ls ≤ Rows.uptoBulkAll (elems.map (·.1))
  | [], [], _, _ => by simp [tot, Rows.uptoBulkAll]
  | y :: ys, l :: ls, hlen, h => by
    have h0 := h 0 y l rfl rfl
    have ih := tot_bulk ys ls (by simpa using hlen) (fun i y' l' e1 e2 => h (i + 1) y' l' (by simpa using e1) (by simpa using e2))
    simp only [tot, List.map_cons, Rows.uptoBulkAll]
    omega

/-- A list of byte slices that came in. -/
theorem open_lists {H : Type} {enc : TypeId × Value → H} {W : World} {a0 : Option Addr} {len cap : Nat} {d : DataW H} {p : List MemPlace} (h : DataW.Trod enc Try.prog W 0 (fun _ => true) true 26 (.slice a0 len cap) d p) :
    ∃ ls : List (List UInt8), Rds W (.slice a0 len cap) ls ∧ tot ls ≤ Rows.uptoBulk d := by
  obtain ⟨fuel, hf⟩ := h
  have hc1 : Try.prog.cellsOf 22 = 1 := by kernel_rfl
  rcases DataW.trod_slice Try.underlying26 hf with ⟨hcs, hx⟩ | ⟨a, len', cap', elems, rest, n, _, hcs, hx, _, hl, hm, hlen, hel, _, _⟩
  · simp [Value.cells] at hcs
    obtain ⟨rfl, rfl, rfl⟩ := hcs
    exact ⟨[], ⟨none, 0, rfl, by simp, by simp, fun i hi => by simp at hi⟩, by simp [tot]⟩
  · simp [Value.cells] at hcs
    obtain ⟨rfl, rfl, rfl⟩ := hcs
    have each : ∀ i, i < len → ∃ ul : Value × List UInt8, W.cell? (a.add i) = some ul.1 ∧ Rd W ul.1 ul.2 ∧ ∀ y, elems[i]? = some y → ul.2.length + 1 ≤ Rows.uptoBulk y.1 := by
      intro i hi
      have h1 := hel i hi
      rw [hc1, Nat.mul_one, List.getElem?_eq_getElem (by omega), Option.bind_eq_some_iff] at h1
      obtain ⟨cs, h2, h3⟩ := h1
      obtain ⟨u, l, rfl, hr, hb⟩ := open_bytes_cs h3
      refine ⟨(u, l), cell_of_cells?_one h2, hr, fun y hy => ?_⟩
      rw [List.getElem?_eq_getElem (by omega)] at hy
      obtain rfl := Option.some.inj hy
      exact hb
    have hall : ∃ g : Nat → Value × List UInt8, ∀ i, i < len → W.cell? (a.add i) = some (g i).1 ∧ Rd W (g i).1 (g i).2 ∧ ∀ y, elems[i]? = some y → (g i).2.length + 1 ≤ Rows.uptoBulk y.1 := by
      refine ⟨fun i => if h : i < len then Classical.choose (each i h) else (undef, []), fun i hi => ?_⟩
      simp only [dif_pos hi]
      exact Classical.choose_spec (each i hi)
    obtain ⟨g, hg⟩ := hall
    have hgl : ((List.range len).map (fun i => (g i).2)).length = len := by simp
    refine ⟨(List.range len).map (fun i => (g i).2), ⟨some a, cap, by rw [hgl], by omega, hm, fun i hi => ?_⟩, ?_⟩
    · have hi' : i < len := by omega
      refine ⟨a, (g i).1, rfl, (hg i hi').1, ?_⟩
      simpa using (hg i hi').2.1
    · have := tot_bulk elems ((List.range len).map (fun i => (g i).2)) (by rw [hgl, hlen]) (fun i y l e1 e2 => by
        have hi : i < len := by have := (List.getElem?_eq_some_iff.1 e1).1; omega
        have e3 : ((List.range len).map (fun i => (g i).2))[i]? = some (g i).2 := by simp [hi]
        rw [e3] at e2
        obtain rfl := Option.some.inj e2
        exact (hg i hi).2.2 y e1)
      have hd : d = .slice (elems.map (·.1)) (rest.map (·.1)) := congrArg Prod.fst hx
      rw [hd]
      simp only [Rows.uptoBulk]
      omega
end Go.Proofs.Ytlajncjamafomaa

/- Lists of byte slices that are the call's own: the row and each of its texts in a block of its own. -/
namespace Go.Proofs.Ytlajncjamafomaa
open Go.RowKit
set_option linter.unusedVariables false
set_option maxRecDepth 100000

/-- An operation whose guard lets it by is carried out as one without a guard. -/
theorem wpList_unguard {P : Program} {w : World} {ops : Array Oper} {rest : List Oper} {o : Oper} {a : Act} {Q : Exit → Act → World → Prop} (hw : Region.wanted o (yielded ops a.tmps) = true) (h : wpList P ops Q ({ o with guard := none } :: rest) a w) : wpList P ops Q (o :: rest) a w := by
  unfold wpList at h ⊢
  rw [if_pos hw]
  rw [if_pos (by rfl)] at h
  exact h

/-- A slice of slices of the call's own, from block B on. -/
structure Ows (B : Nat) (w : World) (v : Value) (ls : List (List UInt8)) (us : List Value) : Prop where
  row : w.ownsRow B 22 1 v us.length us
  len : us.length = ls.length
  el : ∀ (i : Nat) (u : Value) (l : List UInt8), us[i]? = some u → ls[i]? = some l → Ow B w u l
  off : ∀ u ∈ us, ∀ b, u.ownBlock = some b → v.ownBlock ≠ some b
  sep : us.Pairwise Apart

theorem Ows.nil (B : Nat) (w : World) : Ows B w (.slice none 0 0) [] [] := ⟨World.ownsRow_nil _ _ _ _, rfl, by simp, by simp, .nil⟩

theorem ownsRow_bel {B C n : Nat} {e : TypeId} {w w' : World} {v : Value} {xs : List Value} (h : w.ownsRow B e 1 v n xs) (hb : Below C w w') (hC : w.heap.size ≤ C) : w'.ownsRow B e 1 v n xs := by
  obtain ⟨h1, h2⟩ := h
  refine ⟨h1, ?_⟩
  rcases h2 with h2 | ⟨g, cap, cur, hv, hg, hh, r⟩
  · exact .inl h2
  · refine .inr ⟨g, cap, cur, hv, hg, ?_, r⟩
    have hlt : g < w.heap.size := (Array.getElem?_eq_some_iff.1 hh).1
    rw [hb.block g (by omega)]; exact hh

theorem Ows.below {B C : Nat} {w w' : World} {v : Value} {ls : List (List UInt8)} {us : List Value} (h : Ows B w v ls us) (hb : Below C w w') (hC : w.heap.size ≤ C) : Ows B w' v ls us :=
  ⟨ownsRow_bel h.row hb hC, h.len, fun i u l e1 e2 => (h.el i u l e1 e2).below hb hC, h.off, h.sep⟩

theorem Ows.elem {B : Nat} {w : World} {v : Value} {ls : List (List UInt8)} {us : List Value} (h : Ows B w v ls us) (u : Value) (hu : u ∈ us) : ∃ l, Ow B w u l := by
  obtain ⟨i, hi, rfl⟩ := List.getElem_of_mem hu
  have hi' : i < ls.length := by have := h.len; omega
  exact ⟨ls[i], h.el i _ _ (by simp [hi]) (by simp [hi'])⟩

theorem cell_new1 (w : World) (v : Value) (t : TypeId) : (w.alloc (.cells #[v] t)).cell? ⟨w.heap.size, 0, none⟩ = some v := by
  rw [World.cell?_alloc_at _ _ _ _ rfl]; rfl
theorem Ow.shape {B : Nat} {w : World} {v : Value} {l : List UInt8} (h : Ow B w v l) : ∃ a c, v = .slice a l.length c := by
  obtain ⟨ao, c, e, _⟩ := h.rd
  exact ⟨_, _, e⟩

/-- One text more, in a new block. -/
theorem Ows.snoc {B C : Nat} {w w2 w3 : World} {v v' u : Value} {ls : List (List UInt8)} {us : List Value} {l : List UInt8} {o : Obj} (h : Ows B w v ls us) (hb : Below C w w2) (hC : w.heap.size ≤ C) (hu : Ow w.heap.size w2 u l) (hB : B ≤ w.heap.size)
    (hrow : w3.ownsRow B 22 1 v' (us.length + 1) (us ++ [u])) (hg : (w2.alloc o).grownBy w3 v.ownBlock) (hv : v'.ownBlock = v.ownBlock ∨ v'.ownBlock = some (w2.alloc o).heap.size) : Ows B w3 v' (ls ++ [l]) (us ++ [u]) := by
  have h2 := h.below hb hC
  have hlt : ∀ b, u.ownBlock = some b → w.heap.size ≤ b ∧ b < w2.heap.size := fun b e => World.ownsRow.lt hu b e
  have hvlt : ∀ b, v.ownBlock = some b → b < w.heap.size := fun b e => (World.ownsRow.lt h.row b e).2
  have huv : ∀ b, u.ownBlock = some b → v.ownBlock ≠ some b := fun b e q => by have := hlt b e; have := hvlt b q; omega
  have kp : ∀ (x : Value) (m : List UInt8) (D : Nat), Ow D w2 x m → (∀ b, x.ownBlock = some b → v.ownBlock ≠ some b) → Ow D w3 x m := by
    intro x m D hx hne
    refine World.ownsRow.kept (hx.alloc o) hg ?_
    by_cases e : x.ownBlock = none
    · exact .inl e
    · obtain ⟨b, hb⟩ := Option.ne_none_iff_exists'.1 e
      exact .inr (fun q => hne b hb (by rw [← q]; exact hb))
  refine ⟨by simpa using hrow, by simp [h.len], ?_, ?_, ?_⟩
  · intro i x m e1 e2
    have hlen := h.len
    by_cases hi : i < us.length
    · rw [List.getElem?_append_left hi] at e1
      rw [List.getElem?_append_left (by omega)] at e2
      have hm : x ∈ us := List.mem_of_getElem? e1
      exact kp x m B (h2.el i x m e1 e2) (fun b e => h.off x hm b e)
    · rw [List.getElem?_append_right (by omega)] at e1
      rw [List.getElem?_append_right (by omega)] at e2
      rw [List.getElem?_singleton] at e1 e2
      split at e1
      · rename_i h0
        rw [if_pos (by omega)] at e2
        obtain rfl := Option.some.inj e1
        obtain rfl := Option.some.inj e2
        exact (kp u l _ hu huv).mono hB
      · cases e1
  · intro x hx b e
    have hxlt : b < w2.heap.size ∧ v.ownBlock ≠ some b := by
      rcases List.mem_append.1 hx with hx | hx
      · obtain ⟨m, hm⟩ := h2.elem x hx
        exact ⟨(World.ownsRow.lt hm b e).2, h.off x hx b e⟩
      · obtain rfl := List.mem_singleton.1 hx
        exact ⟨(hlt b e).2, huv b e⟩
    rcases hv with q | q
    · rw [q]; exact hxlt.2
    · rw [q]
      intro q2
      have := Option.some.inj q2
      simp at this
      omega
  · rw [List.pairwise_append]
    refine ⟨h.sep, List.pairwise_singleton .., fun a ha x hx => ?_⟩
    obtain rfl := List.mem_singleton.1 hx
    obtain ⟨m, hm⟩ := h.elem a ha
    exact hm.apart hu (Nat.le_refl _)

theorem Rd.grown {w w' : World} {r : Option Nat} {v : Value} {l : List UInt8} (h : Rd w v l) (hg : w.grownBy w' r) (hne : ∀ b, v.ownBlock = some b → r ≠ some b) : Rd w' v l := by
  obtain ⟨ao, c, rfl, h1, h2, h3, h4⟩ := h
  refine ⟨ao, c, rfl, h1, h2, h3, fun i hi => ?_⟩
  obtain ⟨a, rfl, hc⟩ := h4 i hi
  have hlt := World.block_lt_of_cell? w _ hc
  rw [add_block] at hlt
  refine ⟨a, rfl, ?_⟩
  rw [World.cell?_of_block (w := w) (by rw [add_block]; exact hg.block a.block hlt (fun e => hne a.block rfl e.symm))]
  exact hc

theorem Ows.rds {B : Nat} {w : World} {v : Value} {ls : List (List UInt8)} {us : List Value} (h : Ows B w v ls us) : Rds w v ls := by
  have hlen := h.len
  have hrow := h.row
  rcases hrow.2 with ⟨hv, h0⟩ | ⟨g, cap, cur, hv, hg, hh, hn, hcap, hsz, htake⟩
  · have : ls = [] := List.length_eq_zero_iff.1 (by omega)
    subst this
    exact ⟨none, 0, hv, by simp, by simp, fun i hi => by simp at hi⟩
  · refine ⟨some ⟨g, 0, none⟩, cap, by rw [hv, hlen], by omega, hcap, fun i hi => ?_⟩
    have hiu : i < us.length := by omega
    refine ⟨⟨g, 0, none⟩, us[i], rfl, ?_, (h.el i us[i] ls[i] (by simp [hiu]) (by simp [hi])).rd⟩
    rw [Addr.add_lit, Nat.zero_add]
    subst hv
    rw [hrow.cellAt i (by omega)]
    simp [hiu]
end Go.Proofs.Ytlajncjamafomaa

/- What the document's own Sum and Frame answer of any bytes: the same as the code's. -/
namespace Go.Proofs.Ytlajncjamafomaa
open Go.RowKit
set_option linter.unusedVariables false
set_option maxRecDepth 100000

theorem rsum_odd (c : Nat) (h : c < 4294967296) (ho : c % 2 = 1) : bits BinOp.xor IntKind.u32 ((c : Int) / 2) 3988292384 = (M.st c : Int) := by
  rw [show ((c : Int) / 2) = ((c / 2 : Nat) : Int) by omega, show (3988292384 : Int) = ((3988292384 : Nat) : Int) from rfl, u32_xor_nat _ _ (by omega) (by decide)]
  unfold M.st; rw [ho]
theorem rsum_even (c : Nat) (ho : c % 2 = 0) : (c : Int) / 2 = (M.st c : Int) := by
  unfold M.st; rw [ho, Nat.zero_mul, Nat.xor_zero]; omega
theorem rsum_turn (c : Nat) (h : c < 4294967296) : bits BinOp.xor IntKind.u32 (c : Int) 4294967295 = ((4294967295 ^^^ c : Nat) : Int) := by
  rw [show (4294967295 : Int) = ((4294967295 : Nat) : Int) from rfl, u32_xor_nat _ _ h (by decide), Nat.xor_comm]

set_option maxHeartbeats 400000 in
theorem rsum_any {v : Value} {l : List UInt8} {w : World} (hr : Rd w v l) :
    Calls Try.prog 34 #[v] w fun e w' => e = .returned (.int .u32 (M.crc l)) ∧ ∃ k, w' = w.drewN k := by
  obtain ⟨ao, c, rfl, h1, h2, h3, h4⟩ := hr
  unfold maxLen at h2
  go_enter Try.func34, Try.ntmps34
  go_wp2
  go_loopw [3, 4, 5, 6] (fun m i _ _ wr => ∃ k q : Nat, k ≤ l.length ∧ i = .int .i64 k ∧ m = .int .u32 q ∧ q < 4294967296 ∧ q = M.crcF 4294967295 (l.take k) ∧ wr = w) (fun _ i _ _ _ => l.length - (intOf i).toNat)
  case atStart => exact ⟨0, 4294967295, Nat.zero_le _, rfl, rfl, by decide, rfl, rfl⟩
  case round =>
    obtain ⟨k, q, hk, rfl, rfl, hq, hqe, rfl⟩ := hrel
    have HQ : Hid _ := hqe
    clear hqe
    by_cases hlt : k < l.length
    · obtain ⟨a, rfl, hc⟩ := h4 k hlt
      have hx := l[k].toNat_lt
      clear h4
      go_wp2
      have e0 : bits BinOp.xor IntKind.u32 (q : Int) (l[k].toNat : Int) = ((q ^^^ l[k].toNat : Nat) : Int) := u32_xor_nat _ _ hq (by omega)
      have hql := M.xor_lt q l[k].toNat hq hx
      have HS : Hid (M.st8 (q ^^^ l[k].toNat) = M.crcF 4294967295 (l.take (k + 1))) := by
        show _ = _
        rw [take_snoc l k hlt, M.crcF_snoc, HQ.out]
      rw [e0]
      clear e0
      go_loopw [3, 5, 6] (fun m i _ wx => ∃ j p : Nat, j ≤ 8 ∧ i = .int .i64 j ∧ m = .int .u32 p ∧ p < 4294967296 ∧ M.stN (8 - j) p = M.st8 (q ^^^ l[k].toNat) ∧ wx = wr) (fun _ i _ _ => 8 - (intOf i).toNat)
      case atStart => exact ⟨0, _, Nat.zero_le _, rfl, rfl, hql, rfl, rfl⟩
      case round =>
        obtain ⟨j, p, hj, rfl, rfl, hp, hpe, rfl⟩ := hrel
        have HP : Hid _ := hpe
        clear hpe
        by_cases hlt8 : j < 8
        · have HN : Hid (M.stN (8 - (j + 1)) (M.st p) = M.st8 (q ^^^ l[k].toNat)) := by
            have := HP.out
            rw [show 8 - j = 8 - (j + 1) + 1 by omega, M.stN] at this
            exact this
          by_cases ho : p % 2 = 1
          · have hodd : ((p : Int) % 2 == 1) = true := by simp; omega
            have HR : Hid _ := rsum_odd p hp ho
            clear ho
            go_wp2
            exact ⟨⟨j + 1, M.st p, by omega, by go_num, congrArg _ HR.out, M.st_lt p hp, HN.out, trivial⟩, by simp [intOf]; omega⟩
          · have hodd : ((p : Int) % 2 == 1) = false := by simp; omega
            have HR : Hid _ := rsum_even p (by omega)
            clear ho
            go_wp2
            exact ⟨⟨j + 1, M.st p, by omega, by go_num, congrArg _ HR.out, M.st_lt p hp, HN.out, trivial⟩, by simp [intOf]; omega⟩
        · go_wp2
          have := HP.out
          rw [show 8 - j = 0 by omega, M.stN] at this
          exact ⟨⟨k + 1, p, by omega, by go_num, rfl, hp, by rw [← HS.out, this], trivial⟩, by simp [intOf]; omega⟩
    · go_wp2
      go_ret
      refine ⟨ret_int ?_, 0, rfl⟩
      rw [rsum_turn q hq, HQ.out, List.take_of_length_le (by omega)]; rfl

set_option maxHeartbeats 400000 in
theorem rframe_any {v : Value} {l : List UInt8} {w : World} (hr : Rd w v l) (hl : l.length ≤ 140737488355000) :
    Calls Try.prog 35 #[v] w fun e w' => ∃ v', e = .returned v' ∧ Ow w.heap.size w' v' (M.frame l) ∧ Below w.heap.size w w' := by
  have hr' := hr
  obtain ⟨ao, c, rfl, h1, h2, h3, h4⟩ := hr
  unfold maxLen at h2
  clear h3 h4
  have hc := M.crc_lt l
  go_enter Try.func35, Try.ntmps35
  go_wp2_with fail
  refine (rsum_any hr').mono ?_
  rintro e w1 ⟨rfl, k1, rfl⟩
  go_wp2_with fail
  refine (rvarint_any l.length _ (by omega)).mono ?_
  rintro e w2 ⟨v2, rfl, ho2, hb2⟩
  have hw2 : Below w.heap.size w w2 := Below.tr (Below.dN w k1) hb2
  have ho2' : Ow w.heap.size w2 v2 (M.vi l.length) := ho2
  have hvl := vi_len l.length
  clear ho2
  go_wp2_with fail
  go_loopw [4, 5] (fun out i wr => ∃ k : Nat, k ≤ 4 ∧ i = .int .i64 ((k : Int) - 1) ∧ Below w.heap.size w wr ∧ ∃ done, Ow w.heap.size wr out done ∧ done.length + k ≤ 14 ∧ done ++ M.be k (M.crc l) = M.vi l.length ++ M.be 4 (M.crc l)) (fun _ i _ => (intOf i + 1).toNat)
  case atStart => exact ⟨4, Nat.le_refl _, rfl, hw2, _, ho2', by omega, rfl⟩
  case round =>
    obtain ⟨k, hk, rfl, hb, done, ho, hdl, hd⟩ := hrel
    have HD : Hid _ := hd
    clear hd
    cases k with
    | zero =>
      go_wp2_with (first | (at_builtin; refine wpList_app rfl _ _ rfl w.heap.size _ done rfl ho _ l rfl (hr'.below hb (Nat.le_refl _)) hb.size (by omega) ?_; intro v5 w5 ho5 hb5 hg5) | fail)
      go_ret
      refine ⟨_, rfl, ?_, hb.trans hb5⟩
      have := HD.out
      rw [M.be, List.append_nil] at this
      rw [M.frame, ← this]; exact ho5
    | succ k =>
      go_wp2_with (first | (at_builtin; refine wpList_app rfl _ _ rfl w.heap.size _ done rfl (ho.alloc _) _ [UInt8.ofNat (M.crc l / 2 ^ (8 * k))] rfl (rd_one _ _ _ ?hz _) ?hB ?hlen ?_; rotate_right; intro v' w' ho' hb' hg') | fail)
      case hz => rw [M.u8_ofNat]; simp
      case hB => have := hb.size; simp; omega
      case hlen => simp; omega
      refine ⟨⟨k, by omega, by go_num, ?_, done ++ [UInt8.ofNat (M.crc l / 2 ^ (8 * k))], ho', ?_, ?_⟩, by simp [intOf]⟩
      · exact hb.trans (((Below.refl _ _).alloc hb.size _).trans hb')
      · simp; omega
      · have := HD.out; rw [M.be] at this; simpa using this
end Go.Proofs.Ytlajncjamafomaa

/- What the document's own TakeVarint answers of any bytes. -/
namespace Go.Proofs.Ytlajncjamafomaa
open Go.RowKit
set_option linter.unusedVariables false
set_option maxRecDepth 100000

/-- What is to be read where the bytes end at s. -/
theorem rtv_step (l : List UInt8) (s k : Nat) (hk : k ≤ s) (hs : s < 10) (hl : s < l.length) (h9 : s = 9 → l[s].toNat ≤ 1) :
    M.val ((l.take (s + 1)).drop (k + 1)) * 128 + (l[k]'(by omega)).toNat % 128 = M.val ((l.take (s + 1)).drop k) ∧ M.val ((l.take (s + 1)).drop (k + 1)) < 144115188075855872 := by
  have hkl : k < (l.take (s + 1)).length := by simp; omega
  constructor
  · rw [List.drop_eq_getElem_cons hkl, M.val]
    simp only [List.getElem_take]
    omega
  · have hlen : ((l.take (s + 1)).drop (k + 1)).length = s - k := by simp; omega
    by_cases h : s = 9 ∧ k = 0
    · obtain ⟨rfl, rfl⟩ := h
      have h1 := h9 rfl
      have e : (l.take (9 + 1)).drop (0 + 1) = ((l.take 9).drop 1) ++ [l[9]] := by
        rw [take_snoc l 9 hl, List.drop_append_of_le_length (by simp; omega)]
      rw [e, M.val_append]
      have hv := M.val_lt ((l.take 9).drop 1)
      have hl8 : ((l.take 9).drop 1).length = 8 := by simp; omega
      rw [hl8] at hv ⊢
      simp only [M.val, Nat.mul_zero, Nat.add_zero]
      have h56 : (128 : Nat) ^ 8 = 72057594037927936 := by decide
      rw [h56] at hv ⊢
      have : l[9].toNat % 128 ≤ 1 := by omega
      omega
    · have hv := M.val_lt ((l.take (s + 1)).drop (k + 1))
      rw [hlen] at hv
      have := Nat.pow_le_pow_right (n := 128) (by decide) (show s - k ≤ 8 by omega)
      have h56 : (128 : Nat) ^ 8 = 72057594037927936 := by decide
      omega

theorem tv_cases (l : List UInt8) : (M.cont 10 l = 10 ∧ M.tv l = (0, [], 12)) ∨ (M.cont 10 l < 10 ∧ l.length = M.cont 10 l ∧ M.tv l = (0, [], 10)) ∨ ∃ s, M.cont 10 l = s ∧ s < 10 ∧ ∃ h : s < l.length,
    ((0 < s ∧ l[s].toNat = 0 ∨ s = 9 ∧ 1 < l[s].toNat) ∧ M.tv l = (0, [], 12)) ∨ (¬ (0 < s ∧ l[s].toNat = 0 ∨ s = 9 ∧ 1 < l[s].toNat) ∧ M.tv l = (M.val (l.take (s + 1)), l.drop (s + 1), 0)) := by
  have hle := M.cont_le 10 l
  by_cases h1 : M.cont 10 l = 10
  · refine .inl ⟨h1, ?_⟩
    unfold M.tv; simp only []; rw [if_pos h1]
  · by_cases h2 : l.length ≤ M.cont 10 l
    · refine .inr (.inl ⟨by omega, by omega, ?_⟩)
      unfold M.tv; simp only []; rw [if_neg h1, if_pos h2]
    · refine .inr (.inr ⟨M.cont 10 l, rfl, by omega, by omega, ?_⟩)
      have eg : l.getD (M.cont 10 l) 0 = l[M.cont 10 l]'(by omega) := by simp [show M.cont 10 l < l.length by omega]
      by_cases h3 : 0 < M.cont 10 l ∧ (l.getD (M.cont 10 l) 0).toNat = 0 ∨ M.cont 10 l = 9 ∧ 1 < (l.getD (M.cont 10 l) 0).toNat
      · refine .inl ⟨by rw [eg] at h3; exact h3, ?_⟩
        unfold M.tv; simp only []; rw [if_neg h1, if_neg h2, if_pos h3]
      · refine .inr ⟨by rw [eg] at h3; exact h3, ?_⟩
        unfold M.tv; simp only []; rw [if_neg h1, if_neg h2, if_neg h3]

set_option maxHeartbeats 1000000 in
theorem rtakeV_any {v : Value} {l : List UInt8} {w : World} (hr : Rd w v l) (hl : l.length ≤ 140737488355000) :
    Calls Try.prog 57 #[v] w fun e w' => ∃ v2, e = .returned (.tuple #[.int .u64 (M.tv l).1, v2, .int .i64 (M.tv l).2.2]) ∧ Ow w.heap.size w' v2 (M.tv l).2.1 ∧ Below w.heap.size w w' := by
  have hr' := hr
  obtain ⟨ao, c, rfl, h1, h2, h3, h4⟩ := hr
  unfold maxLen at h2
  clear h3
  have HT : Hid _ := tv_cases l
  generalize htv : M.tv l = T at *
  clear htv
  go_enter Try.func57, Try.ntmps57
  go_wp2
  go_loopw [5] (fun i wr => ∃ k : Nat, k ≤ l.length ∧ k ≤ 10 ∧ i = .int .i64 k ∧ (∀ j, (h : j < l.length) → j < k → 128 ≤ l[j].toNat) ∧ wr = w) (fun i _ => 10 - (intOf i).toNat)
  case atStart => exact ⟨0, Nat.zero_le _, Nat.zero_le _, rfl, fun j _ hj => by omega, rfl⟩
  case round =>
    obtain ⟨k, hk, hk10, rfl, hs, rfl⟩ := hrel
    have HS : Hid _ := hs
    clear hs
    by_cases hlt : k < l.length
    · obtain ⟨a, rfl, hc⟩ := h4 k hlt
      by_cases hlt10 : k < 10
      · by_cases hx : 128 ≤ l[k].toNat
        · clear h4 hr'
          go_wp2
          refine ⟨⟨k + 1, by omega, by omega, by go_num, fun j h hj => ?_, trivial⟩, by simp [intOf]; omega⟩
          by_cases hj' : j < k
          · exact HS.out j h hj'
          · obtain rfl : j = k := by omega
            exact hx
        · have e : M.cont 10 l = k := M.cont_eq 10 k l hk10 hk (fun j hj => HS.out j (by omega) hj) (.inr (.inr ⟨hlt, by omega⟩))
          have eT : ((0 < k ∧ l[k].toNat = 0 ∨ k = 9 ∧ 1 < l[k].toNat) ∧ T = (0, [], 12)) ∨ (¬ (0 < k ∧ l[k].toNat = 0 ∨ k = 9 ∧ 1 < l[k].toNat) ∧ T = (M.val (l.take (k + 1)), l.drop (k + 1), 0)) := by
            rcases HT.out with ⟨q, _⟩ | ⟨_, q, _⟩ | ⟨s, q, q2, q3, q4⟩
            · omega
            · omega
            · rw [e] at q
              subst q
              exact q4
          clear e HT
          have hx2 := l[k].toNat_lt
          rcases eT with ⟨hbad, rfl⟩ | ⟨hok, rfl⟩
          · clear h4 hr'
            by_cases h9 : 9 ≤ k
            · have h9' : ((k : Int) == 9) = true := by simp; omega
              go_wp2
              all_goals go_ret3
              all_goals exact ⟨_, rfl, Ow.nil _ _, Below.refl _ _⟩
            · have h9' : ((k : Int) == 9) = false := by simp; omega
              go_wp2
              all_goals go_ret3
              all_goals exact ⟨_, rfl, Ow.nil _ _, Below.refl _ _⟩
          · have hpost := hr'.post (k + 1) (by omega) (if c = k + 1 then some a else some (a.add (k + 1))) ⟨fun h => by rw [if_pos h], fun h => by rw [if_neg h]; rfl⟩
            have hdl : (l.drop (k + 1)).length ≤ 140737488355000 := by simp; omega
            have HP : Hid _ := And.intro hpost hdl
            have HV : Hid (∀ j, (h : j ≤ k) → _) := fun j h => rtv_step l k j h hlt10 hlt (by omega)
            clear hpost hdl hr'
            have h3 : (((k : Int) == 9) = true ∧ (((l[k].toNat : Nat) : Int) == 0) = false ∧ 9 ≤ k ∧ 1 ≤ l[k].toNat ∧ l[k].toNat ≤ 1) ∨ (((k : Int) == 9) = false ∧ (((l[k].toNat : Nat) : Int) == 0) = false ∧ 1 ≤ k ∧ k ≤ 8 ∧ 1 ≤ l[k].toNat) ∨ (((k : Int) == 9) = false ∧ k < 1) := by
              simp only [beq_iff_eq, beq_eq_false_iff_ne]
              omega
            clear hok
            rcases h3 with ⟨q0, r0, q1, q2, q3⟩ | ⟨q0, r0, q1, q2, q3⟩ | ⟨q0, q1⟩
            all_goals
              go_wp2_with fail
              go_loopw [6, 7] (fun m i wx => ∃ j : Nat, j ≤ k + 1 ∧ i = .int .i64 ((j : Int) - 1) ∧ m = .int .u64 (M.val ((l.take (k + 1)).drop j)) ∧ wx = wr) (fun _ i _ => (intOf i + 1).toNat)
              case atStart =>
                refine ⟨k + 1, Nat.le_refl _, by go_num, ?_, rfl⟩
                have e0 : (l.take (k + 1)).drop (k + 1) = [] := by
                  apply List.drop_eq_nil_of_le
                  simp
                  omega
                rw [e0]; rfl
              case round =>
                obtain ⟨j, hj, rfl, rfl, rfl⟩ := hrel
                cases j with
                | zero =>
                  have hp := HP.out.1
                  by_cases hcn : c = k + 1
                  · rw [if_pos hcn] at hp
                    have HP2 : Hid _ := hp
                    clear hp
                    go_wp2_with fail
                    refine (copy_any (l := l.drop (k + 1)) (Rd.cong HP2.out ?_ ?_ ?_) (by have := HP.out.2; omega)).mono ?_
                    · first | rfl | (simp; done)
                    · first | rfl | omega
                    · first | rfl | omega
                    rintro e w2 ⟨v2, rfl, ho2, hb2⟩
                    go_wp2_with fail
                    go_ret3
                    exact ⟨_, rfl, ho2, hb2⟩
                  · rw [if_neg hcn] at hp
                    have HP2 : Hid _ := hp
                    clear hp
                    go_wp2_with fail
                    refine (copy_any (l := l.drop (k + 1)) (Rd.cong HP2.out ?_ ?_ ?_) (by have := HP.out.2; omega)).mono ?_
                    · first | rfl | (simp [Addr.add]; done)
                    · first | rfl | omega
                    · first | rfl | omega
                    rintro e w2 ⟨v2, rfl, ho2, hb2⟩
                    go_wp2_with fail
                    go_ret3
                    exact ⟨_, rfl, ho2, hb2⟩
                | succ j =>
                  have hst := HV.out j (by omega)
                  obtain ⟨a', ea, hcj⟩ := h4 j (by omega)
                  obtain rfl := Option.some.inj ea
                  clear ea
                  have hxj := (l[j]'(by omega)).toNat_lt
                  have hlt' := hst.2
                  have HE : Hid ((M.val ((l.take (k + 1)).drop (j + 1)) : Int) * 128 + ((l[j]'(by omega)).toNat : Int) % 128 = (M.val ((l.take (k + 1)).drop j) : Int)) := by
                    show _ = _
                    have := hst.1
                    omega
                  clear hst
                  go_wp2
                  exact ⟨⟨j, by omega, by go_num, congrArg _ HE.out, trivial⟩, by simp [intOf]⟩
      · have e : M.cont 10 l = 10 := by
          obtain rfl : k = 10 := by omega
          exact M.cont_eq 10 10 l hk10 hk (fun j hj => HS.out j (by omega) hj) (by omega)
        obtain rfl : k = 10 := by omega
        have eT : T = (0, [], 12) := by
          rcases HT.out with ⟨_, q⟩ | ⟨q, _⟩ | ⟨s, q, q2, _⟩
          · exact q
          · omega
          · omega
        subst eT
        clear h4 hr' e
        go_wp2
        go_ret3
        exact ⟨_, rfl, Ow.nil _ _, Below.refl _ _⟩
    · obtain rfl : k = l.length := by omega
      have e : M.cont 10 l = l.length := M.cont_eq 10 l.length l hk10 hk (fun j hj => HS.out j (by omega) hj) (by omega)
      by_cases h10 : l.length = 10
      · have eT : T = (0, [], 12) := by
          rcases HT.out with ⟨_, q⟩ | ⟨q, _⟩ | ⟨s, q, q2, q3, _⟩
          · exact q
          · omega
          · omega
        subst eT
        clear h4 hr' e HT
        go_wp2
        go_ret3
        exact ⟨_, rfl, Ow.nil _ _, Below.refl _ _⟩
      · have eT : T = (0, [], 10) := by
          rcases HT.out with ⟨q, _⟩ | ⟨_, _, q⟩ | ⟨s, q, q2, q3, _⟩
          · omega
          · exact q
          · omega
        subst eT
        clear h4 hr' e HT
        have h10' : ((l.length : Int) == 10) = false := by simp; omega
        go_wp2
        go_ret3
        exact ⟨_, rfl, Ow.nil _ _, Below.refl _ _⟩
end Go.Proofs.Ytlajncjamafomaa
