/- Check. -/
import Derived.Test.YtlfdcnojbbigbaaG24
namespace Go.Proofs.Ytlfdcnojbbigbaa
open Go.RowKit
set_option linter.unusedVariables false
set_option maxRecDepth 100000

/-- What Check answers. -/
def chkE (id : UInt64) (s e : List UInt8) (ps : List Pe) : Int := if id = 0 ∨ 64 < s.length ∨ 64 < e.length then 1 else if cov s e s = false then 101 else if grpF ps = false then 1 else 0
set_option maxHeartbeats 1000000 in
theorem check_any {id : UInt64} {cf vr : Int} {sv ev pv : Value} {s e : List UInt8} {ps : List Pe} {w : World} (hs : Rd w sv s) (he : Rd w ev e) (hp : RdPe w pv ps) :
    Calls Try.prog 18 #[.agg #[.int .u64 (id.toNat : Int), sv, ev, .int .u64 cf, .int .u64 vr, pv]] w fun x w' => x = .returned (.int .i64 (chkE id s e ps)) ∧ Below w.heap.size w w' := by
  have HRS : Hid (Rd w sv s ∧ Rd w ev e ∧ RdPe w pv ps) := ⟨hs, he, hp⟩
  obtain ⟨sa, sc, rfl⟩ := hs.shp
  obtain ⟨ea, ec, rfl⟩ := he.shp
  obtain ⟨pa, pk, rfl, _⟩ := hp.shape
  have hsl := hs.len
  have hel := he.len
  unfold maxLen at hsl hel
  have hck : chkE id s e ps = if id = 0 ∨ 64 < s.length ∨ 64 < e.length then 1 else if cov s e s = false then 101 else if grpF ps = false then 1 else 0 := rfl
  generalize chkE id s e ps = res at *
  have HC : Hid _ := hck
  clear hck hs he hp
  have hbx : Below w.heap.size w (w.alloc (.cells #[.int .u64 (id.toNat : Int), .slice sa s.length sc, .slice ea e.length ec, .int .u64 cf, .int .u64 vr, .slice pa ps.length pk] 34)) := g_al w _
  by_cases hid : id = 0
  · subst hid
    go_enter Try.func18, Try.ntmps18
    go_wp2_with fail
    go_ret
    exact ⟨by rw [HC.out]; first | rfl | simp, g_al _ _⟩
  have hid2 : ¬ id.toNat = 0 := fun q => hid (UInt64.toNat_inj.1 q)
  have hid3 : ¬ ((id.toNat : Int) = 0) := by omega
  have hid4 : ((id.toNat : Int) == 0) = false := by simp; omega
  by_cases h1 : 64 < s.length
  · have g1 : (64 : Int) < (s.length : Int) := by omega
    go_enter Try.func18, Try.ntmps18
    go_wp2_with fail
    go_ret
    exact ⟨by rw [HC.out, if_pos (.inr (.inl h1))]; rfl, hbx⟩
  have g1 : ¬ (64 : Int) < (s.length : Int) := by omega
  by_cases h2 : 64 < e.length
  · have g2 : (64 : Int) < (e.length : Int) := by omega
    go_enter Try.func18, Try.ntmps18
    go_wp2_with fail
    go_ret
    exact ⟨by rw [HC.out, if_pos (.inr (.inr h2))]; rfl, hbx⟩
  have g2 : ¬ (64 : Int) < (e.length : Int) := by omega
  have HN : Hid (res = if cov s e s = false then 101 else if grpF ps = false then 1 else 0) := by
    show _ = _
    rw [HC.out, if_neg (by rintro (q | q | q); exact hid q; exact h1 q; exact h2 q)]
  clear HC
  have hcv : ∀ W, Below w.heap.size w W → Calls Try.prog 19 #[.agg #[.int .u64 (id.toNat : Int), .slice sa s.length sc, .slice ea e.length ec, .int .u64 cf, .int .u64 vr, .slice pa ps.length pk], .slice sa s.length sc] W fun x w' => x = .returned (.bool (cov s e s)) ∧ Below W.heap.size W w' := fun W hW => covers_any (HRS.out.1.below hW (Nat.le_refl _)) (HRS.out.2.1.below hW (Nat.le_refl _)) (HRS.out.1.below hW (Nat.le_refl _))
  have hgp : ∀ W, Below w.heap.size w W → Calls Try.prog 34 #[.slice pa ps.length pk] W fun x w' => x = .returned (.bool (grpF ps)) ∧ Below W.heap.size W w' := fun W hW => grouped_any (HRS.out.2.2.below hW (Nat.le_refl _))
  have hK : ∀ W, Below (w.heap.size + 1) (w.alloc (.cells #[.int .u64 (id.toNat : Int), .slice sa s.length sc, .slice ea e.length ec, .int .u64 cf, .int .u64 vr, .slice pa ps.length pk] 34)) W → W.cell? ⟨w.heap.size, 5, none⟩ = some (.slice pa ps.length pk) := fun W hW => by
    rw [hW.cell (by simp), World.cell?_alloc_at _ _ _ _ rfl]; rfl
  have hz : (w.alloc (.cells #[.int .u64 (id.toNat : Int), .slice sa s.length sc, .slice ea e.length ec, .int .u64 cf, .int .u64 vr, .slice pa ps.length pk] 34)).heap.size = w.heap.size + 1 := by simp
  generalize cov s e s = cv at *
  generalize grpF ps = gp at *
  have HZ : Hid _ := And.intro hK hz
  clear hK hz
  go_enter Try.func18, Try.ntmps18
  go_wp2_with fail
  refine (hcv _ hbx).mono ?_
  rintro x w1 ⟨rfl, hb1⟩
  have k5 := HZ.out.1 w1 (by rw [← HZ.out.2]; exact hb1)
  have hB1 : Below w.heap.size w w1 := hbx.trans (hb1.mono hbx.size)
  cases hcq : cv with
  | false =>
    subst hcq
    go_wp2_with fail
    go_ret
    exact ⟨by rw [HN.out]; first | rfl | simp, hB1⟩
  | true =>
    subst hcq
    go_wp2_with fail
    refine (hgp _ hB1).mono ?_
    rintro x w2 ⟨rfl, hb2⟩
    have hB2 : Below w.heap.size w w2 := hB1.trans (hb2.mono hB1.size)
    cases hgq : gp with
    | false =>
      subst hgq
      go_wp2_with fail
      go_ret
      exact ⟨by rw [HN.out]; first | rfl | simp, hB2⟩
    | true =>
      subst hgq
      go_wp2_with fail
      go_ret
      exact ⟨by rw [HN.out]; first | rfl | simp, hB2⟩
end Go.Proofs.Ytlfdcnojbbigbaa
