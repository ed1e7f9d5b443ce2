/- What bytes.Compare answers of two slices of bytes: -1, 0, 1, byte by byte, the shorter one first. -/
import Derived.Test.YtlfdcnojbbigbaaG1
import Derived.Test.YtlfdcnojbbigbaaG5
import Derived.Lib.Bytealg
import Derived.Laws.Entries
namespace Go.Proofs.Ytlfdcnojbbigbaa
open Go.RowKit
set_option linter.unusedVariables false
set_option maxRecDepth 100000

theorem cmpL_lib : ∀ (a b : List UInt8), Lib.compareBytes a b = M.cmpL a b
  | [], [] => rfl
  | [], _ :: _ => rfl
  | _ :: _, [] => rfl
  | x :: r, y :: s => by
    rw [Lib.compareBytes, M.cmpL, cmpL_lib r s]
    by_cases h : x = y
    · subst h
      rw [if_neg (UInt8.lt_irrefl _), if_neg (UInt8.lt_irrefl _), if_pos rfl]
    · rw [if_neg h]
      by_cases h1 : x < y
      · rw [if_pos h1, if_pos h1]
      · have h2 : y < x := by
          rw [UInt8.lt_iff_toNat_lt] at h1 ⊢
          have : x.toNat ≠ y.toNat := fun e => h (UInt8.toNat_inj.1 e)
          omega
        rw [if_neg h1, if_neg h1, if_pos h2]

theorem run_loadL {P : Program} (w : World) : ∀ (l : List UInt8) (a : Addr) (acc : ByteArray), (∀ j x, l[j]? = some x → w.cell? (a.add j) = some (.int .u8 (x.toNat : Int))) →
    (Extern.Bytes.loadBytes a l.length acc).run P w = .ok ⟨acc.data ++ l.toArray⟩ w
  | [], a, acc, _ => by simp [Extern.Bytes.loadBytes]
  | x :: l, a, acc, h => by
    have h0 : w.cell? a = some (.int .u8 (x.toNat : Int)) := by
      have := h 0 x rfl
      simpa [Addr.add] using this
    have ih := run_loadL (P := P) w l (a.add 1) (acc.push x) (fun j y hy => by
      have := h (j + 1) y (by simpa using hy)
      have e : (a.add 1).add j = a.add (j + 1) := by
        unfold Addr.add
        by_cases hj : j = 0
        · subst hj; simp
        · simp [hj]; omega
      rw [e]; exact this)
    have hx : (((x.toNat : Nat) : Int).toNat.toUInt8) = x := by simp
    simp only [List.length_cons, Extern.Bytes.loadBytes, Sem.run_bind, run_load, h0, Result.andThen, hx]
    rw [ih]
    congr 1
    apply ByteArray.ext
    simp [ByteArray.push]

theorem run_bytesOfL {P : Program} {w : World} {v : Value} {l : List UInt8} (h : Rd w v l) : (Extern.Bytes.bytesOf v).run P w = .ok ⟨l.toArray⟩ w := by
  rcases h.two with ⟨rfl, rfl⟩ | ⟨a, c, rfl, h1, h2, h3⟩
  · simp only [Extern.Bytes.bytesOf, Sem.run_pure]; rfl
  · simp only [Extern.Bytes.bytesOf]
    rw [run_loadL w l a .empty (fun j x hj => by
      obtain ⟨hl, rfl⟩ := List.getElem?_eq_some_iff.1 hj
      exact h3 j hl)]
    congr 1
    apply ByteArray.ext
    show (#[] : Array UInt8) ++ l.toArray = l.toArray
    simp

theorem run_compareL {P : Program} {w : World} {v u : Value} {l m : List UInt8} (h : Rd w v l) (k : Rd w u m) : (Extern.BytealgCompare.compare #[v, u]).run P w = .ok (.int .i64 (M.cmpL l m)) w := by
  change Sem.run P (do pure (goInt (Extern.BytealgCompare.cmp (← Extern.Bytes.bytesOf v) (← Extern.Bytes.bytesOf u)))) w = _
  simp only [Sem.run_bind, Sem.run_pure, run_bytesOfL h, run_bytesOfL k, Result.andThen]
  rw [Lib.cmp_eq]
  show Result.ok (goInt (Lib.compareBytes l m)) w = _
  rw [cmpL_lib]
  rfl

theorem bcompare_any {va vb : Value} {la lb : List UInt8} {w : World} (ha : Rd w va la) (hb : Rd w vb lb) :
    Calls Try.prog 35 #[va, vb] w fun e w' => e = .returned (.int .i64 (M.cmpL la lb)) ∧ w' = w := by
  have hr := run_compareL (P := Try.prog) ha hb
  obtain ⟨ao, ca, rfl, _⟩ := ha
  obtain ⟨bo, cb, rfl, _⟩ := hb
  go_enter Try.func35, Try.ntmps35
  go_wp2
  rw [run_callFunc_extern Try.func54 (by kernel_rfl) (by kernel_rfl) (by kernel_rfl) (e := Extern.BytealgCompare.compare) (by kernel_rfl), hr]
  simp only [Result.andThen]
  rw [Oper.upon_value]
  go_wp2
  go_ret
  exact ⟨rfl, rfl⟩
end Go.Proofs.Ytlfdcnojbbigbaa
