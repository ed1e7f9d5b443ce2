/- begin; what a chain of regions is. -/
import Derived.Test.YtnapkomjegbhcaaG33
namespace Go.Proofs.Ytnapkomjegbhcaa
open Go.RowKit
set_option linter.unusedVariables false
set_option maxRecDepth 100000

structure CI (B N V : Nat) (v : Value) (rs : List Rg) (w : World) : Prop where
  all : AllR B v rs w
  ok : ∀ r ∈ rs, r.Ok N V
  nd : (rs.map Rg.id).Nodup
  prt : Prt (rs.map Rg.r3)
section
variable {B N V : Nat} {v : Value} {rs : List Rg} {w w' : World}
theorem CI.below {C : Nat} (h : CI B N V v rs w) (hb : Below C w w') (hC : w.heap.size ≤ C) : CI B N V v rs w' := ⟨h.all.below hb hC, h.ok, h.nd, h.prt⟩
theorem CI.mono {N' V' : Nat} (h : CI B N V v rs w) (hN : N ≤ N') (hV : V ≤ V') : CI B N' V' v rs w := ⟨h.all, fun r hr => (h.ok r hr).mono hN hV, h.nd, h.prt⟩
theorem CI.ne (h : CI B N V v rs w) : rs ≠ [] := fun e => by have := h.prt.ne; rw [e] at this; exact this rfl
theorem CI.chk (h : CI B N V v rs w) {r : Rg} (hr : r ∈ rs) : chkE r.id r.s r.e r.pe = 0 := by
  have o := h.ok r hr
  have hf := h.prt.full
  have hm : r.r3 ∈ fullR (rs.map Rg.r3) := by rw [hf]; exact List.mem_map_of_mem hr
  unfold fullR at hm
  exact chk3 o.id0 o.s64 o.e64 (List.mem_filter.1 hm).2 o.p0 o.p1 o.p2
end
def rg0 (g : Nat) : Rg := ⟨1, 1, [], [], 1, 2, 3, .slice none 0 0, .slice none 0 0, .slice (some ⟨g, 0, none⟩) 3 3⟩
set_option maxHeartbeats 1000000 in
theorem begin_any (w : World) : Calls Try.prog 5 #[] w fun x w' => ∃ v rs, x = .returned v ∧ CI w.heap.size 10 1 v rs w' ∧ rs.length = 1 ∧ Below w.heap.size w w' := by
  go_enter Try.func5, Try.ntmps5
  go_wp2_with fail
  go_ret
  have h0 := heap_alloc_new w (.cells #[.int .u64 1, .int .i64 1, .bool false, .int .u64 2, .int .i64 2, .bool false, .int .u64 3, .int .i64 3, .bool false] 50)
  have hb1 := g_al w (.cells #[.int .u64 1, .int .i64 1, .bool false, .int .u64 2, .int .i64 2, .bool false, .int .u64 3, .int .i64 3, .bool false] 50)
  have hsz := World.size_alloc w (.cells #[.int .u64 1, .int .i64 1, .bool false, .int .u64 2, .int .i64 2, .bool false, .int .u64 3, .int .i64 3, .bool false] 50)
  generalize (w.alloc (.cells #[.int .u64 1, .int .i64 1, .bool false, .int .u64 2, .int .i64 2, .bool false, .int .u64 3, .int .i64 3, .bool false] 50)) = W1 at *
  have hs1 : w.heap.size < W1.heap.size := (Array.getElem?_eq_some_iff.1 h0).1
  have hb2 := g_al W1 (.cells #[.int .u64 1, .slice none 0 0, .slice none 0 0, .int .u64 1, .int .u64 1, .slice (some ⟨w.heap.size, 0, none⟩) 3 3] 34)
  have h2 := heap_alloc_new W1 (.cells #[.int .u64 1, .slice none 0 0, .slice none 0 0, .int .u64 1, .int .u64 1, .slice (some ⟨w.heap.size, 0, none⟩) 3 3] 34)
  rw [hsz] at h2
  have hp : OwPe w.heap.size W1 (.slice (some ⟨w.heap.size, 0, none⟩) 3 3) (pe3 1 2 3) := ⟨by rfl, .inr ⟨w.heap.size, 3, _, rfl, Nat.le_refl _, h0, Nat.le_refl _, by unfold maxLen; omega, rfl, rfl⟩⟩
  refine ⟨_, [rg0 w.heap.size], rfl, ⟨⟨⟨rfl, .inr ⟨w.heap.size + 1, 1, _, rfl, by omega, h2, Nat.le_refl _, by unfold maxLen; omega, rfl, rfl⟩⟩, fun r hr => ?_, fun r hr b hbl => ?_⟩, fun r hr => ?_, by simp, ?_⟩, rfl, hb1.trans (hb2.mono hb1.size)⟩
  · rw [List.mem_singleton.1 hr]
    exact ⟨Ow.nil _ _, Ow.nil _ _, hp.below hb2 (Nat.le_refl _), (fun b e => by cases e), (fun b e => by cases e), fun b e => by cases e⟩
  · rw [List.mem_singleton.1 hr] at hbl
    rcases hbl with q | q | q
    · cases q
    · cases q
    · have hq : w.heap.size = b := Option.some.inj q
      intro z
      have hz : w.heap.size + 1 = b := Option.some.inj z
      omega
  · rw [List.mem_singleton.1 hr]
    exact ⟨(by show (1 : UInt64) ≠ 0; decide), (by show (1 : UInt64).toNat < 10; decide), by simp [rg0], by simp [rg0], (by show (0 : UInt64) < 1; decide), (by show (1 : UInt64) < 2; decide), (by show (2 : UInt64) < 3; decide), (by show (1 : UInt64).toNat ≤ 1; decide)⟩
  · exact Prt.begin _
end Go.Proofs.Ytnapkomjegbhcaa
