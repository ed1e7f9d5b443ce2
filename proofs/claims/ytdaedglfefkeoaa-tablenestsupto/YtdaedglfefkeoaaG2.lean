/- How an argument that came in is read: a slice of bytes as 'Rd', with the form's own bound on its length. -/
import Derived.Test.YtdaedglfefkeoaaG1
import Derived.ProofKit
import Derived.OpenShut
import Derived.ChangeOld
import Derived.SizedLaws
import Derived.Lib.Bytealg
import Derived.Laws.Entries
import Derived.Laws.BytesArg
import Derived.Laws.Cells
import Derived.Lib.SliceRun
namespace Go.Proofs.Ytdaedglfefkeoaa
open Go.ChangeShapes Go.WideShapes Go.ChangeAt Go.RowKit
set_option linter.unusedVariables false
set_option maxRecDepth 100000

theorem Try.bytes5 : Try.prog.bytesOf 5 = 1 := by kernel_rfl

/-- A slice of bytes that came in. -/
theorem open_bytes {H : Type} {enc : TypeId × Value → H} {W : World} {a0 : Option Addr} {len cap : Nat} {d : DataW H} {p : List MemPlace} (h : DataW.Trod enc Try.prog W 0 (fun _ => true) true 25 (.slice a0 len cap) d p) :
    ∃ l : List UInt8, Rd W (.slice a0 len cap) l ∧ l.length = len ∧ ∃ zs : List Int, (a0 = none ∧ len = 0) ∨ d = .slice (lits .u8 (zs.take len)) (lits .u8 (zs.drop len)) ∧ zs.length = cap ∧ len ≤ cap := by
  obtain ⟨fuel, hf⟩ := h
  rcases open_ints Try.underlying25 Try.underlying5 (by kernel_rfl) hf with ⟨hcs, _⟩ | ⟨x, n, c, zs, hcs, _, hl, hm, hz, hd, hcell, hwz⟩
  · simp [Value.cells] at hcs
    obtain ⟨rfl, rfl, rfl⟩ := hcs
    exact ⟨[], Rd.nil _, rfl, [], .inl ⟨rfl, rfl⟩⟩
  · simp [Value.cells] at hcs
    obtain ⟨rfl, rfl, rfl⟩ := hcs
    have hz' : zs.length = cap := by simpa using hz
    have hlen : ((zs.take len).map (fun z => UInt8.ofNat z.toNat)).length = len := by simp; omega
    refine ⟨(zs.take len).map (fun z => UInt8.ofNat z.toNat), Rd.mk hlen.symm (by omega) hm (fun i hi => ?_), hlen, zs, .inr ⟨?_, hz', hl⟩⟩
    · have hi' : i < zs.length := by omega
      rw [hcell i hi']
      have hw := hwz (zs[i]) (List.getElem_mem hi')
      have hx : 0 ≤ zs[i] ∧ zs[i] ≤ 255 := by simpa [Lit.wf, IntKind.min, IntKind.max, IntKind.signed, IntKind.bits] using hw
      have e : zs.getD i 0 = zs[i] := by simp [hi']
      rw [e]
      simp only [List.getElem_map, List.getElem_take]
      rw [M.u8_ofNat]
      congr 2
      omega
    · simp only [Prod.mk.injEq] at hd
      exact hd.1

end Go.Proofs.Ytdaedglfefkeoaa

/- Plain mathematics: the order of texts, of ordered texts and of numbers in bytes. No program is named here. -/
namespace Go.Proofs.Ytdaedglfefkeoaa.M
set_option maxRecDepth 100000

/-- -1, 0, 1: byte by byte, the shorter one first. -/
def cmpL : List UInt8 → List UInt8 → Int
  | [], [] => 0
  | [], _ :: _ => -1
  | _ :: _, [] => 1
  | x :: r, y :: s => if x = y then cmpL r s else if x < y then -1 else 1

theorem cmpL_self (l : List UInt8) : cmpL l l = 0 := by
  induction l with
  | nil => rfl
  | cons x l ih => simp [cmpL, ih]
theorem cmpL_zero {a b : List UInt8} (h : cmpL a b = 0) : a = b := by
  induction a generalizing b with
  | nil => cases b with
    | nil => rfl
    | cons y s => simp [cmpL] at h
  | cons x r ih => cases b with
    | nil => simp [cmpL] at h
    | cons y s =>
      simp only [cmpL] at h
      by_cases hxy : x = y
      · rw [if_pos hxy] at h; rw [hxy, ih h]
      · rw [if_neg hxy] at h; split at h <;> omega
theorem cmpL_iff (a b : List UInt8) : cmpL a b = 0 ↔ a = b := ⟨cmpL_zero, fun h => h ▸ cmpL_self a⟩

/-- Of the same length ahead. -/
theorem cmpL_app (p q x y : List UInt8) (h : p.length = q.length) : cmpL (p ++ x) (q ++ y) = if p = q then cmpL x y else cmpL p q := by
  induction p generalizing q with
  | nil =>
    obtain rfl : q = [] := List.length_eq_zero_iff.1 (by simpa using h.symm)
    simp
  | cons a p ih =>
    cases q with
    | nil => simp at h
    | cons b q =>
      simp only [List.cons_append, cmpL]
      by_cases hab : a = b
      · rw [if_pos hab, if_pos hab, ih q (by simpa using h)]
        simp [hab]
      · have hn : ¬ (a :: p = b :: q) := by simp [hab]
        rw [if_neg hab, if_neg hn, if_neg hab]

theorem cmpL_take (n : Nat) (a b : List UInt8) : cmpL a b = if a.take n = b.take n then cmpL (a.drop n) (b.drop n) else cmpL (a.take n) (b.take n) := by
  induction n generalizing a b with
  | zero => simp
  | succ n ih =>
    cases a with
    | nil => cases b with
      | nil => simp
      | cons y s => simp [cmpL]
    | cons x r => cases b with
      | nil => simp [cmpL]
      | cons y s =>
        simp only [List.take_succ_cons, List.drop_succ_cons, cmpL]
        by_cases hxy : x = y
        · rw [if_pos hxy, ih r s]; simp [hxy]
        · have hn : ¬ (x :: r.take n = y :: s.take n) := by simp [hxy]
          rw [if_neg hxy, if_neg hn, if_neg hxy]

/-- Filled up with zeros to n. -/
def zn (n : Nat) (l : List UInt8) : List UInt8 := l ++ List.replicate (n - l.length) 0

theorem u8_pos (y : UInt8) (h : y ≠ 0) : (0 : UInt8) < y := by
  rw [UInt8.lt_iff_toNat_lt]
  have : y.toNat ≠ 0 := fun e => h (UInt8.toNat_inj.1 (by simpa using e))
  simpa using Nat.pos_of_ne_zero this

theorem zn_nil_lt (n : Nat) (m : List UInt8) (c d : UInt8) (hm : m.length ≤ n) (hcd : c < d) : cmpL (zn n [] ++ [c]) (zn n m ++ [d]) = -1 := by
  induction n generalizing m with
  | zero =>
    obtain rfl : m = [] := List.length_eq_zero_iff.1 (by omega)
    have : c ≠ d := fun e => by rw [e] at hcd; exact absurd hcd (UInt8.lt_irrefl _)
    simp [zn, cmpL, this, hcd]
  | succ n ih =>
    cases m with
    | nil =>
      have := ih [] (by simp)
      simpa [zn, List.replicate_succ, cmpL] using this
    | cons y s =>
      have e1 : zn (n + 1) [] = 0 :: zn n [] := by simp [zn, List.replicate_succ]
      have e2 : zn (n + 1) (y :: s) = y :: zn n s := by simp [zn]
      rw [e1, e2]
      simp only [List.cons_append, cmpL]
      by_cases hy : (0 : UInt8) = y
      · rw [if_pos hy]; exact ih s (by simpa using hm)
      · rw [if_neg hy, if_pos (u8_pos y (fun e => hy e.symm))]
theorem zn_nil_gt (n : Nat) (m : List UInt8) (c d : UInt8) (hm : m.length ≤ n) (hcd : c < d) : cmpL (zn n m ++ [d]) (zn n [] ++ [c]) = 1 := by
  induction n generalizing m with
  | zero =>
    obtain rfl : m = [] := List.length_eq_zero_iff.1 (by omega)
    have h1 : d ≠ c := fun e => by rw [e] at hcd; exact absurd hcd (UInt8.lt_irrefl _)
    have h2 : ¬ d < c := UInt8.lt_asymm hcd
    simp [zn, cmpL, h1, h2]
  | succ n ih =>
    cases m with
    | nil =>
      have := ih [] (by simp)
      simpa [zn, List.replicate_succ, cmpL] using this
    | cons y s =>
      have e1 : zn (n + 1) [] = 0 :: zn n [] := by simp [zn, List.replicate_succ]
      have e2 : zn (n + 1) (y :: s) = y :: zn n s := by simp [zn]
      rw [e1, e2]
      simp only [List.cons_append, cmpL]
      by_cases hy : y = 0
      · rw [if_pos hy]; exact ih s (by simpa using hm)
      · rw [if_neg hy, if_neg (UInt8.lt_asymm (u8_pos y hy))]

theorem u8_lt (a b : Nat) (h : a < b) (hb : b < 256) : UInt8.ofNat a < UInt8.ofNat b := by
  rw [UInt8.lt_iff_toNat_lt, UInt8.toNat_ofNat', UInt8.toNat_ofNat']; omega

/-- A group is in the order of what it holds. -/
theorem grp_cmp (n c : Nat) (l m : List UInt8) (hl : l.length ≤ n) (hm : m.length ≤ n) (hc : c + n < 256) :
    cmpL (zn n l ++ [UInt8.ofNat (c + l.length)]) (zn n m ++ [UInt8.ofNat (c + m.length)]) = cmpL l m := by
  induction l generalizing m n c with
  | nil =>
    cases m with
    | nil => rw [cmpL_self, cmpL_self]
    | cons y s => rw [zn_nil_lt n (y :: s) _ _ hm (u8_lt _ _ (by simp) (by omega))]; rfl
  | cons x r ih =>
    cases m with
    | nil => rw [zn_nil_gt n (x :: r) _ _ hl (u8_lt _ _ (by simp) (by omega))]; rfl
    | cons y s =>
      obtain ⟨n, rfl⟩ : ∃ k, n = k + 1 := ⟨n - 1, by simp at hl; omega⟩
      have e1 : zn (n + 1) (x :: r) = x :: zn n r := by simp [zn]
      have e2 : zn (n + 1) (y :: s) = y :: zn n s := by simp [zn]
      rw [e1, e2]
      simp only [List.cons_append, cmpL, List.length_cons]
      by_cases hxy : x = y
      · rw [if_pos hxy, if_pos hxy]
        have := ih n (c + 1) s (by simpa using hl) (by simpa using hm) (by omega)
        rw [show c + (r.length + 1) = c + 1 + r.length by omega, show c + (s.length + 1) = c + 1 + s.length by omega]
        exact this
      · rw [if_neg hxy, if_neg hxy]

/-- An ordered text, group by group. -/
theorem ob_grp (l : List UInt8) : ob l = (zn 8 (l.take 8) ++ [UInt8.ofNat (247 + (l.take 8).length)]) ++ (if 8 ≤ l.length then ob (l.drop 8) else []) := by
  by_cases h : 8 ≤ l.length
  · rw [if_pos h]
    obtain ⟨k', e, e1, e2⟩ := obF_long (l.length / 8) l h (by omega)
    rw [ob, e1]
    have hk : k' = (l.drop 8).length / 8 := by simp; omega
    have h8 : (l.take 8).length = 8 := by simp; omega
    rw [hk, show obF ((l.drop 8).length / 8) (l.drop 8) = ob (l.drop 8) from rfl]
    simp only [zn, h8, Nat.sub_self, List.replicate_zero, List.append_nil]
    rfl
  · rw [if_neg h, ob, obF_short _ l (by omega), List.take_of_length_le (by omega), List.append_nil]
    rfl

theorem grp_len (l : List UInt8) : (zn 8 (l.take 8) ++ [UInt8.ofNat (247 + (l.take 8).length)]).length = 9 := by simp [zn]; omega
theorem take8_le (l : List UInt8) : (l.take 8).length ≤ 8 := by simp; omega

theorem ob_cmp (a b : List UInt8) : cmpL (ob a) (ob b) = cmpL a b := by
  obtain ⟨n, hn⟩ : ∃ n, a.length ≤ n := ⟨_, Nat.le_refl _⟩
  induction n using Nat.strongRecOn generalizing a b with
  | ind n ih =>
    rw [ob_grp a, ob_grp b, cmpL_app _ _ _ _ (by rw [grp_len, grp_len]), grp_cmp 8 247 _ _ (take8_le a) (take8_le b) (by decide), cmpL_take 8 a b]
    by_cases h : a.take 8 = b.take 8
    · rw [if_pos (by rw [h]), if_pos h]
      have hlen := congrArg List.length h
      simp only [List.length_take] at hlen
      by_cases ha : 8 ≤ a.length
      · have hb : 8 ≤ b.length := by omega
        rw [if_pos ha, if_pos hb]
        exact ih (n - 8) (by omega) (a.drop 8) (b.drop 8) (by simp; omega)
      · have hb : ¬ 8 ≤ b.length := by omega
        rw [if_neg ha, if_neg hb, List.drop_eq_nil_of_le (by omega), List.drop_eq_nil_of_le (by omega)]
    · have hg : ¬ (zn 8 (a.take 8) ++ [UInt8.ofNat (247 + (a.take 8).length)]) = zn 8 (b.take 8) ++ [UInt8.ofNat (247 + (b.take 8).length)] := by
        intro e
        have := grp_cmp 8 247 _ _ (take8_le a) (take8_le b) (by decide)
        rw [e, cmpL_self] at this
        exact h (cmpL_zero this.symm)
      rw [if_neg hg, if_neg h]

/-- None is the beginning of another. -/
theorem ob_free (a b x : List UInt8) (h : ob b = ob a ++ x) : a = b := by
  obtain ⟨n, hn⟩ : ∃ n, a.length ≤ n := ⟨_, Nat.le_refl _⟩
  induction n using Nat.strongRecOn generalizing a b with
  | ind n ih =>
    rw [ob_grp a, ob_grp b] at h
    have hi := List.append_inj (h.trans (List.append_assoc _ _ _)) (by rw [grp_len, grp_len])
    have h8 : a.take 8 = b.take 8 := by
      have := grp_cmp 8 247 _ _ (take8_le a) (take8_le b) (by decide)
      rw [hi.1, cmpL_self] at this
      exact cmpL_zero this.symm
    have hlen := congrArg List.length h8
    simp only [List.length_take] at hlen
    by_cases ha : 8 ≤ a.length
    · have hb : 8 ≤ b.length := by omega
      have h2 := hi.2
      rw [if_pos ha, if_pos hb] at h2
      have := ih (n - 8) (by omega) (a.drop 8) (b.drop 8) h2 (by simp; omega)
      rw [← List.take_append_drop 8 a, ← List.take_append_drop 8 b, h8, this]
    · have hb : ¬ 8 ≤ b.length := by omega
      rwa [List.take_of_length_le (by omega), List.take_of_length_le (by omega)] at h8

/-- Where none is the beginning of the other, what stands behind turns nothing. -/
theorem cmpL_free (p q x y : List UInt8) (h1 : ∀ z, q ≠ p ++ z) (h2 : ∀ z, p ≠ q ++ z) : cmpL (p ++ x) (q ++ y) = cmpL p q := by
  induction p generalizing q with
  | nil => exact absurd rfl (h1 q)
  | cons a p ih =>
    cases q with
    | nil => exact absurd rfl (h2 (a :: p))
    | cons b q =>
      simp only [List.cons_append, cmpL]
      by_cases hab : a = b
      · rw [if_pos hab, if_pos hab]
        exact ih q (fun z e => h1 z (by rw [hab, e]; rfl)) (fun z e => h2 z (by rw [hab, e]; rfl))
      · rw [if_neg hab, if_neg hab]

def cmpN (s t : Nat) : Int := if s < t then -1 else if t < s then 1 else 0

theorem be_mod (k n : Nat) : be k n = be k (n % 2 ^ (8 * k)) := by
  suffices H : ∀ j, j ≤ k → be j n = be j (n % 2 ^ (8 * k)) from H k (Nat.le_refl _)
  intro j
  induction j with
  | zero => intro _; rfl
  | succ j ih =>
    intro hj
    rw [be, be, ih (by omega)]
    congr 1
    apply UInt8.toNat_inj.1
    rw [UInt8.toNat_ofNat', UInt8.toNat_ofNat']
    have e : 2 ^ (8 * k) = 2 ^ (8 * j) * (256 * 2 ^ (8 * (k - j - 1))) := by
      rw [show (256 : Nat) = 2 ^ 8 from rfl, ← Nat.pow_add, ← Nat.pow_add]
      congr 1; omega
    rw [e, Nat.mod_mul_right_div_self]
    rw [Nat.mod_mul_right_mod]

theorem be_cmp (k s t : Nat) (hs : s < 2 ^ (8 * k)) (ht : t < 2 ^ (8 * k)) : cmpL (be k s) (be k t) = cmpN s t := by
  induction k generalizing s t with
  | zero =>
    have h1 : s = 0 := by simpa using hs
    have h2 : t = 0 := by simpa using ht
    subst h1; subst h2; rfl
  | succ k ih =>
    have hP : 0 < 2 ^ (8 * k) := Nat.pow_pos (by decide)
    have e : 2 ^ (8 * (k + 1)) = 2 ^ (8 * k) * 256 := by rw [show 8 * (k + 1) = 8 * k + 8 by omega, Nat.pow_add]
    rw [e] at hs ht
    have hs1 : s / 2 ^ (8 * k) < 256 := Nat.div_lt_of_lt_mul hs
    have ht1 : t / 2 ^ (8 * k) < 256 := Nat.div_lt_of_lt_mul ht
    rw [be, be, cmpL, be_mod k s, be_mod k t, ih _ _ (Nat.mod_lt _ hP) (Nat.mod_lt _ hP)]
    have ds := Nat.div_add_mod s (2 ^ (8 * k))
    have dt := Nat.div_add_mod t (2 ^ (8 * k))
    have ms := Nat.mod_lt s hP
    have mt := Nat.mod_lt t hP
    generalize s / 2 ^ (8 * k) = a at *
    generalize t / 2 ^ (8 * k) = b at *
    generalize s % 2 ^ (8 * k) = c at *
    generalize t % 2 ^ (8 * k) = d at *
    generalize 2 ^ (8 * k) = P at *
    by_cases hab : a = b
    · subst hab
      rw [if_pos rfl]
      unfold cmpN
      by_cases h1 : c < d
      · have h3 : s < t := by omega
        rw [if_pos h1, if_pos h3]
      · have h3 : ¬ s < t := by omega
        rw [if_neg h1, if_neg h3]
        by_cases h2 : d < c
        · have h4 : t < s := by omega
          rw [if_pos h2, if_pos h4]
        · have h4 : ¬ t < s := by omega
          rw [if_neg h2, if_neg h4]
    · have hne : ¬ UInt8.ofNat a = UInt8.ofNat b := fun e => by
        have := congrArg UInt8.toNat e
        rw [UInt8.toNat_ofNat', UInt8.toNat_ofNat'] at this
        omega
      rw [if_neg hne]
      unfold cmpN
      by_cases hlt : a < b
      · have hm : P * a + P ≤ P * b := by rw [← Nat.mul_succ]; exact Nat.mul_le_mul_left _ hlt
        rw [if_pos (u8_lt a b hlt ht1), if_pos (by omega)]
      · have hlt' : b < a := by omega
        have hm : P * b + P ≤ P * a := by rw [← Nat.mul_succ]; exact Nat.mul_le_mul_left _ hlt'
        rw [if_neg (UInt8.lt_asymm (u8_lt b a hlt' hs1)), if_neg (by omega), if_pos (by omega)]
end Go.Proofs.Ytdaedglfefkeoaa.M

/- What bytes.Compare answers of two slices of bytes: -1, 0, 1, byte by byte, the shorter one first. -/
namespace Go.Proofs.Ytdaedglfefkeoaa
open Go.RowKit
set_option linter.unusedVariables false
set_option maxRecDepth 100000

theorem cmpL_lib : ∀ (a b : List UInt8), Lib.compareBytes a b = M.cmpL a b
  | [], [] => rfl
  | [], _ :: _ => rfl
  | _ :: _, [] => rfl
  | x :: r, y :: s => by
    rw [Lib.compareBytes, M.cmpL, cmpL_lib r s]
    by_cases h : x = y
    · subst h
      rw [if_neg (UInt8.lt_irrefl _), if_neg (UInt8.lt_irrefl _), if_pos rfl]
    · rw [if_neg h]
      by_cases h1 : x < y
      · rw [if_pos h1, if_pos h1]
      · have h2 : y < x := by
          rw [UInt8.lt_iff_toNat_lt] at h1 ⊢
          have : x.toNat ≠ y.toNat := fun e => h (UInt8.toNat_inj.1 e)
          omega
        rw [if_neg h1, if_neg h1, if_pos h2]

theorem run_loadL {P : Program} (w : World) : ∀ (l : List UInt8) (a : Addr) (acc : ByteArray), (∀ j x, l[j]? = some x → w.cell? (a.add j) = some (.int .u8 (x.toNat : Int))) →
    (Extern.Bytes.loadBytes a l.length acc).run P w = .ok ⟨acc.data ++ l.toArray⟩ w
  | [], a, acc, _ => by simp [Extern.Bytes.loadBytes]
  | x :: l, a, acc, h => by
    have h0 : w.cell? a = some (.int .u8 (x.toNat : Int)) := by
      have := h 0 x rfl
      simpa [Addr.add] using this
    have ih := run_loadL (P := P) w l (a.add 1) (acc.push x) (fun j y hy => by
      have := h (j + 1) y (by simpa using hy)
      have e : (a.add 1).add j = a.add (j + 1) := by
        unfold Addr.add
        by_cases hj : j = 0
        · subst hj; simp
        · simp [hj]; omega
      rw [e]; exact this)
    have hx : (((x.toNat : Nat) : Int).toNat.toUInt8) = x := by simp
    simp only [List.length_cons, Extern.Bytes.loadBytes, Sem.run_bind, run_load, h0, Result.andThen, hx]
    rw [ih]
    congr 1
    apply ByteArray.ext
    simp [ByteArray.push]

theorem run_bytesOfL {P : Program} {w : World} {v : Value} {l : List UInt8} (h : Rd w v l) : (Extern.Bytes.bytesOf v).run P w = .ok ⟨l.toArray⟩ w := by
  rcases h.two with ⟨rfl, rfl⟩ | ⟨a, c, rfl, h1, h2, h3⟩
  · simp only [Extern.Bytes.bytesOf, Sem.run_pure]; rfl
  · simp only [Extern.Bytes.bytesOf]
    rw [run_loadL w l a .empty (fun j x hj => by
      obtain ⟨hl, rfl⟩ := List.getElem?_eq_some_iff.1 hj
      exact h3 j hl)]
    congr 1
    apply ByteArray.ext
    show (#[] : Array UInt8) ++ l.toArray = l.toArray
    simp

theorem run_compareL {P : Program} {w : World} {v u : Value} {l m : List UInt8} (h : Rd w v l) (k : Rd w u m) : (Extern.BytealgCompare.compare #[v, u]).run P w = .ok (.int .i64 (M.cmpL l m)) w := by
  change Sem.run P (do pure (goInt (Extern.BytealgCompare.cmp (← Extern.Bytes.bytesOf v) (← Extern.Bytes.bytesOf u)))) w = _
  simp only [Sem.run_bind, Sem.run_pure, run_bytesOfL h, run_bytesOfL k, Result.andThen]
  rw [Lib.cmp_eq]
  show Result.ok (goInt (Lib.compareBytes l m)) w = _
  rw [cmpL_lib]
  rfl

theorem bcompare_any {va vb : Value} {la lb : List UInt8} {w : World} (ha : Rd w va la) (hb : Rd w vb lb) :
    Calls Try.prog 53 #[va, vb] w fun e w' => e = .returned (.int .i64 (M.cmpL la lb)) ∧ w' = w := by
  have hr := run_compareL (P := Try.prog) ha hb
  obtain ⟨ao, ca, rfl, _⟩ := ha
  obtain ⟨bo, cb, rfl, _⟩ := hb
  go_enter Try.func53, Try.ntmps53
  go_wp2
  rw [run_callFunc_extern Try.func67 (by kernel_rfl) (by kernel_rfl) (by kernel_rfl) (e := Extern.BytealgCompare.compare) (by kernel_rfl), hr]
  simp only [Result.andThen]
  rw [Oper.upon_value]
  go_wp2
  go_ret
  exact ⟨rfl, rfl⟩
end Go.Proofs.Ytdaedglfefkeoaa

/- What bytes.Equal answers of two slices of bytes. -/
namespace Go.Proofs.Ytdaedglfefkeoaa
open Go.RowKit
set_option linter.unusedVariables false
set_option maxRecDepth 100000

theorem fold_bytes (l : List UInt8) (s : ByteArray) : (l.map (fun x => (x.toNat : Int))).foldl (fun r n => r.push (UInt8.ofNat n.toNat)) s = ⟨s.data ++ l.toArray⟩ := by
  induction l generalizing s with
  | nil => simp
  | cons x l ih =>
    rw [List.map_cons, List.foldl_cons, ih]
    apply ByteArray.ext
    simp [ByteArray.push]
theorem run_convL {P : Program} {w : World} {v : Value} {l : List UInt8} (h : Rd w v l) (src e dst : TypeId) (hs : P.underlying src = some (.slice e)) (he : P.underlying e = some (.int .u8)) (hd : P.underlying dst = some .string) : (convert src dst v).run P w = .ok (.string ⟨l.toArray⟩) w := by
  rcases h.two with ⟨rfl, rfl⟩ | ⟨a, c, rfl, h1, h2, h3⟩
  · rw [run_convert_bytes_nil w src e hs he 0 0 dst hd]; rfl
  · rw [run_convert_bytes_string w src dst e _ _ _ hs he hd, run_bytesToString w a l.length c (l.map (fun x => (x.toNat : Int))), fold_bytes]
    · congr 2
      apply ByteArray.ext
      show (#[] : Array UInt8) ++ l.toArray = l.toArray
      simp
    · rw [run_loadCells w a l.length (fun j => .int .u8 ((l[j]?.getD 0).toNat : Int)) (fun j hj => by rw [h3 j hj]; simp [hj])]
      congr 1
      apply Array.ext'
      apply List.ext_getElem?
      intro j
      by_cases hj : j < l.length <;> simp [hj]
theorem bequal_any {va vb : Value} {la lb : List UInt8} {w : World} (ha : Rd w va la) (hb : Rd w vb lb) :
    Calls Try.prog 46 #[va, vb] w fun e w' => e = .returned (.bool (decide (la = lb))) ∧ w' = w := by
  have h1 := run_convL (P := Try.prog) ha 25 5 9 (by kernel_rfl) (by kernel_rfl) (by kernel_rfl)
  have h2 := run_convL (P := Try.prog) hb 25 5 9 (by kernel_rfl) (by kernel_rfl) (by kernel_rfl)
  have h3 : (la == lb) = decide (la = lb) := by
    by_cases e : la = lb
    · subst e; simp
    · rw [decide_eq_false e]; simp [e]
  have HB : Hid _ := h3
  clear h3
  obtain ⟨ao, ca, rfl, _⟩ := ha
  obtain ⟨bo, cb, rfl, _⟩ := hb
  go_enter Try.func46, Try.ntmps46
  go_wp2_with fail
  go_ret
  refine ⟨?_, rfl⟩
  show Ending.returned (.bool (la == lb)) = _
  rw [HB.out]
end Go.Proofs.Ytdaedglfefkeoaa

/- What 'Cmp' of two byte slices answers: -1, 0, 1, byte by byte, the shorter one first. -/
namespace Go.Proofs.Ytdaedglfefkeoaa
open Go.RowKit
set_option linter.unusedVariables false
set_option maxRecDepth 100000

theorem cmpL_step (a b : List UInt8) (k : Nat) (ha : k < a.length) (hb : k < b.length) : M.cmpL (a.drop k) (b.drop k) = if a[k] = b[k] then M.cmpL (a.drop (k + 1)) (b.drop (k + 1)) else if a[k] < b[k] then -1 else 1 := by
  rw [List.drop_eq_getElem_cons ha, List.drop_eq_getElem_cons hb, M.cmpL]

set_option maxHeartbeats 1000000 in
theorem cmp_any {va vb : Value} {la lb : List UInt8} {w : World} (ha : Rd w va la) (hb : Rd w vb lb) :
    Calls Try.prog 27 #[va, vb] w fun e w' => e = .returned (.int .i64 (M.cmpL la lb)) ∧ ∃ n, w' = w.drewN n := by
  obtain ⟨ao, ca, rfl, a1, a2, _, a4⟩ := ha
  obtain ⟨bo, cb, rfl, b1, b2, _, b4⟩ := hb
  unfold maxLen at a2 b2
  generalize hT : M.cmpL la lb = T
  have HT : Hid (M.cmpL (la.drop 0) (lb.drop 0) = T) := hT
  clear hT
  go_enter Try.func27, Try.ntmps27
  go_wp2
  go_loopw [5] (fun i wr => ∃ k : Nat, k ≤ la.length ∧ k ≤ lb.length ∧ i = .int .i64 k ∧ M.cmpL (la.drop k) (lb.drop k) = T ∧ ∃ m, wr = w.drewN m) (fun i _ => la.length - (intOf i).toNat)
  case atStart => exact ⟨0, Nat.zero_le _, Nat.zero_le _, rfl, HT.out, 0, rfl⟩
  case round =>
    obtain ⟨k, hka, hkb, rfl, hd, m, rfl⟩ := hrel
    clear HT
    have HD : Hid _ := hd
    clear hd
    by_cases hlt : k < la.length ∧ k < lb.length
    · obtain ⟨hla, hlb⟩ := hlt
      obtain ⟨a, rfl, hca⟩ := a4 k hla
      obtain ⟨b, rfl, hcb⟩ := b4 k hlb
      have hst := HD.out
      rw [cmpL_step la lb k hla hlb] at hst
      clear a4 b4 HD
      by_cases he : la[k] = lb[k]
      · rw [if_pos he] at hst
        rw [← he] at hcb
        have hne : (((la[k].toNat : Nat) : Int) != ((la[k].toNat : Nat) : Int)) = false := by simp
        have HS : Hid _ := hst
        clear hst he
        go_wp2
        go_region
        all_goals go_wp2
        all_goals exact ⟨⟨k + 1, by omega, by omega, by go_num, HS.out, _, rfl⟩, by simp [intOf]; omega⟩
      · rw [if_neg he] at hst
        have hnn : la[k].toNat ≠ lb[k].toNat := fun e => he (UInt8.toNat_inj.1 e)
        have hne : (((la[k].toNat : Nat) : Int) != ((lb[k].toNat : Nat) : Int)) = true := by simp; omega
        have hlti : (la[k] < lb[k]) ↔ la[k].toNat < lb[k].toNat := UInt8.lt_iff_toNat_lt
        by_cases hl : la[k].toNat < lb[k].toNat
        · rw [if_pos (hlti.2 hl)] at hst
          subst hst
          clear hlti hnn he
          go_wp2
          go_region
          all_goals go_wp2
          all_goals go_region
          all_goals go_wp2
          all_goals go_ret
          all_goals exact ⟨rfl, _, rfl⟩
        · rw [if_neg (fun h => hl (hlti.1 h))] at hst
          subst hst
          clear hlti hnn he
          go_wp2
          go_region
          all_goals go_wp2
          all_goals go_region
          all_goals go_wp2
          all_goals go_ret
          all_goals exact ⟨rfl, _, rfl⟩
    · have hst := HD.out
      clear HD a4 b4
      rcases Nat.lt_trichotomy la.length lb.length with h | h | h
      · obtain rfl : k = la.length := by omega
        have e1 : la.drop la.length = [] := List.drop_length
        have e2 : ∃ x r, lb.drop la.length = x :: r := ⟨_, _, List.drop_eq_getElem_cons h⟩
        obtain ⟨x, r, e2⟩ := e2
        rw [e1, e2] at hst
        have hT : T = -1 := hst.symm
        subst hT
        clear hst e1 e2
        have hq : (((la.length : Nat) : Int) == ((lb.length : Nat) : Int)) = false := by simp; omega
        go_wp2
        all_goals go_ret
        all_goals exact ⟨rfl, _, rfl⟩
      · have hk1 : k = la.length := by omega
        have e1 : la.drop k = [] := by rw [hk1]; exact List.drop_length
        have e2 : lb.drop k = [] := by rw [hk1, h]; exact List.drop_length
        rw [e1, e2] at hst
        have hT : T = 0 := hst.symm
        subst hT
        clear hst e1 e2 hk1
        have hq : (((la.length : Nat) : Int) == ((lb.length : Nat) : Int)) = true := by simp [h]
        have HH : Hid _ := h
        have hge : la.length ≤ k := by omega
        have hge2 : lb.length ≤ k := by omega
        clear h
        go_wp2
        all_goals go_ret
        all_goals exact ⟨rfl, _, rfl⟩
      · have hk1 : k = lb.length := by omega
        have e1 : lb.drop k = [] := by rw [hk1]; exact List.drop_length
        have e2 : ∃ x r, la.drop k = x :: r := ⟨_, _, List.drop_eq_getElem_cons (by omega)⟩
        obtain ⟨x, r, e2⟩ := e2
        rw [e1, e2] at hst
        have hT : T = 1 := hst.symm
        subst hT
        clear hst e1 e2
        have hge : lb.length ≤ k := by omega
        clear hk1
        have hq : (((la.length : Nat) : Int) == ((lb.length : Nat) : Int)) = false := by simp; omega
        go_wp2
        all_goals go_ret
        all_goals exact ⟨rfl, _, rfl⟩
end Go.Proofs.Ytdaedglfefkeoaa

/- What the document's own Cmp answers: -1, 0, 1, byte by byte, the shorter one first. -/
namespace Go.Proofs.Ytdaedglfefkeoaa
open Go.RowKit
set_option linter.unusedVariables false
set_option maxRecDepth 100000

theorem rcmpL_step (a b : List UInt8) (k : Nat) (ha : k < a.length) (hb : k < b.length) : M.cmpL (a.drop k) (b.drop k) = if a[k] = b[k] then M.cmpL (a.drop (k + 1)) (b.drop (k + 1)) else if a[k] < b[k] then -1 else 1 := by
  rw [List.drop_eq_getElem_cons ha, List.drop_eq_getElem_cons hb, M.cmpL]

set_option maxHeartbeats 1000000 in
theorem rcmp_any {va vb : Value} {la lb : List UInt8} {w : World} (ha : Rd w va la) (hb : Rd w vb lb) :
    Calls Try.prog 34 #[va, vb] w fun e w' => e = .returned (.int .i64 (M.cmpL la lb)) ∧ ∃ n, w' = w.drewN n := by
  obtain ⟨ao, ca, rfl, a1, a2, _, a4⟩ := ha
  obtain ⟨bo, cb, rfl, b1, b2, _, b4⟩ := hb
  unfold maxLen at a2 b2
  generalize hT : M.cmpL la lb = T
  have HT : Hid (M.cmpL (la.drop 0) (lb.drop 0) = T) := hT
  clear hT
  go_enter Try.func34, Try.ntmps34
  go_wp2
  go_loopw [5] (fun i wr => ∃ k : Nat, k ≤ la.length ∧ k ≤ lb.length ∧ i = .int .i64 k ∧ M.cmpL (la.drop k) (lb.drop k) = T ∧ ∃ m, wr = w.drewN m) (fun i _ => la.length - (intOf i).toNat)
  case atStart => exact ⟨0, Nat.zero_le _, Nat.zero_le _, rfl, HT.out, 0, rfl⟩
  case round =>
    obtain ⟨k, hka, hkb, rfl, hd, m, rfl⟩ := hrel
    clear HT
    have HD : Hid _ := hd
    clear hd
    by_cases hlt : k < la.length ∧ k < lb.length
    · obtain ⟨hla, hlb⟩ := hlt
      obtain ⟨a, rfl, hca⟩ := a4 k hla
      obtain ⟨b, rfl, hcb⟩ := b4 k hlb
      have hst := HD.out
      rw [rcmpL_step la lb k hla hlb] at hst
      clear a4 b4 HD
      have hlti : (la[k] < lb[k]) ↔ la[k].toNat < lb[k].toNat := UInt8.lt_iff_toNat_lt
      have hnn : la[k] = lb[k] ↔ la[k].toNat = lb[k].toNat := UInt8.toNat_inj.symm
      rcases Nat.lt_trichotomy la[k].toNat lb[k].toNat with h | h | h
      · rw [if_neg (fun e => by have := hnn.1 e; omega), if_pos (hlti.2 h)] at hst
        subst hst
        clear hlti hnn
        go_wp2
        go_region
        all_goals go_wp2
        all_goals go_ret
        all_goals exact ⟨rfl, _, rfl⟩
      · rw [if_pos (hnn.2 h)] at hst
        have HS : Hid _ := hst
        have h1 : ¬ la[k].toNat < lb[k].toNat := by omega
        have h2 : ¬ lb[k].toNat < la[k].toNat := by omega
        clear hst hlti hnn h
        go_wp2
        go_region
        all_goals go_wp2
        all_goals go_region
        all_goals go_wp2
        all_goals exact ⟨⟨k + 1, by omega, by omega, by go_num, HS.out, _, rfl⟩, by simp [intOf]; omega⟩
      · rw [if_neg (fun e => by have := hnn.1 e; omega), if_neg (fun e => by have := hlti.1 e; omega)] at hst
        subst hst
        have h1 : ¬ la[k].toNat < lb[k].toNat := by omega
        clear hlti hnn
        go_wp2
        go_region
        all_goals go_wp2
        all_goals go_region
        all_goals go_wp2
        all_goals go_ret
        all_goals exact ⟨rfl, _, rfl⟩
    · have hst := HD.out
      clear HD a4 b4
      rcases Nat.lt_trichotomy la.length lb.length with h | h | h
      · obtain rfl : k = la.length := by omega
        have e1 : la.drop la.length = [] := List.drop_length
        have e2 : ∃ x r, lb.drop la.length = x :: r := ⟨_, _, List.drop_eq_getElem_cons h⟩
        obtain ⟨x, r, e2⟩ := e2
        rw [e1, e2] at hst
        have hT : T = -1 := hst.symm
        subst hT
        clear hst e1 e2
        go_wp2
        all_goals go_ret
        all_goals exact ⟨rfl, _, rfl⟩
      · have hk1 : k = la.length := by omega
        have e1 : la.drop k = [] := by rw [hk1]; exact List.drop_length
        have e2 : lb.drop k = [] := by rw [hk1, h]; exact List.drop_length
        rw [e1, e2] at hst
        have hT : T = 0 := hst.symm
        subst hT
        clear hst e1 e2 hk1
        have q1 : ¬ la.length < lb.length := by omega
        have q2 : ¬ lb.length < la.length := by omega
        have HH : Hid _ := h
        have hge : la.length ≤ k := by omega
        have hge2 : lb.length ≤ k := by omega
        clear h
        go_wp2
        all_goals go_ret
        all_goals exact ⟨rfl, _, rfl⟩
      · have hk1 : k = lb.length := by omega
        have e1 : lb.drop k = [] := by rw [hk1]; exact List.drop_length
        have e2 : ∃ x r, la.drop k = x :: r := ⟨_, _, List.drop_eq_getElem_cons (by omega)⟩
        obtain ⟨x, r, e2⟩ := e2
        rw [e1, e2] at hst
        have hT : T = 1 := hst.symm
        subst hT
        clear hst e1 e2
        have hge : lb.length ≤ k := by omega
        have q1 : ¬ la.length < lb.length := by omega
        clear hk1
        go_wp2
        all_goals go_ret
        all_goals exact ⟨rfl, _, rfl⟩
end Go.Proofs.Ytdaedglfefkeoaa

/- What number, Sum, bytes.Clone and the document's Copy answer of any bytes. -/
namespace Go.Proofs.Ytdaedglfefkeoaa
open Go.RowKit
set_option linter.unusedVariables false
set_option maxRecDepth 100000

theorem take_snoc (l : List UInt8) (k : Nat) (h : k < l.length) : l.take (k + 1) = l.take k ++ [l[k]] := by
  rw [List.take_succ_eq_append_getElem h]

set_option maxHeartbeats 400000 in
theorem number_any {v : Value} {l : List UInt8} {w : World} (hr : Rd w v l) (hl : l.length ≤ 8) :
    Calls Try.prog 49 #[v] w fun e w' => e = .returned (.int .u64 (M.num l)) ∧ ∃ k, w' = w.drewN k := by
  obtain ⟨ao, c, rfl, h1, h2, h3, h4⟩ := hr
  have hb : ∀ k, k ≤ l.length → M.num (l.take k) < 256 ^ k := fun k hk => by
    have := M.num_lt (l.take k)
    rw [List.length_take, Nat.min_eq_left hk] at this
    exact this
  unfold maxLen at h2
  go_enter Try.func49, Try.ntmps49
  go_wp2
  go_loopw [3, 8] (fun m i wr => ∃ k : Nat, k ≤ l.length ∧ i = .int .i64 k ∧ m = .int .u64 (M.num (l.take k)) ∧ wr = w) (fun _ i _ => l.length - (intOf i).toNat)
  case atStart => exact ⟨0, Nat.zero_le _, rfl, rfl, rfl⟩
  case round =>
    obtain ⟨k, hk, rfl, rfl, rfl⟩ := hrel
    by_cases hlt : k < l.length
    · obtain ⟨a, rfl, hc⟩ := h4 k hlt
      have hbk := hb k hk
      have hbk' : M.num (l.take k) < 72057594037927936 := Nat.lt_of_lt_of_le hbk (by have := Nat.pow_le_pow_right (n := 256) (by decide) (show k ≤ 7 by omega); simpa using this)
      clear hbk hb h4
      have hx := l[k].toNat_lt
      have e : bits BinOp.or IntKind.u64 ((M.num (l.take k) : Int) * 256) (l[k].toNat : Int) = (M.num (l.take (k + 1)) : Int) := by
        rw [show ((M.num (l.take k) : Int) * 256) = ((M.num (l.take k) * 256 : Nat) : Int) by omega, u64_or_nat _ _ (by omega) (by omega), nat_join 8 _ _ (by omega) (by omega), take_snoc l k hlt, M.num_snoc]
      have HE : Hid _ := e
      clear e
      go_wp2
      exact ⟨⟨k + 1, by omega, by go_num, congrArg _ HE.out, trivial⟩, by simp [intOf]; omega⟩
    · go_wp2
      go_ret
      exact ⟨ret_int (by rw [List.take_of_length_le (by omega)]), 0, rfl⟩

theorem clone_any {v : Value} {l : List UInt8} {w : World} (hr : Rd w v l) (hl : l.length ≤ 140737488355328) :
    Calls Try.prog 52 #[v] w fun e w' => ∃ v', e = .returned v' ∧ Ow w.heap.size w' v' l ∧ Below w.heap.size w w' := by
  have q : ∀ (w : World) (a : Option Addr) (n c n' c' : Nat), (binOp .eql 25 (.slice a n c) (.slice none n' c')).run Try.prog w = .ok (.bool a.isNone) w := fun w a n c n' c' => Lib.run_eql_slice_nil w _ _ a n c n' c' Try.underlying25
  rcases hr.two with ⟨rfl, rfl⟩ | ⟨a, c, hv, h1, h2, h3⟩
  · go_enter Try.func52, Try.ntmps52
    go_wp2
    go_ret
    exact ⟨_, rfl, Ow.nil _ _, Below.refl _ _⟩
  · subst hv
    go_enter Try.func52, Try.ntmps52
    go_wp2_with (first | (at_builtin; refine wpList_app rfl _ _ rfl w.heap.size _ [] rfl (Ow.lit0 _ _ (Nat.le_refl _)) _ l rfl (hr.alloc _) (by simp) (by simpa using hl) ?_; intro v' w' ho' hb' hg') | fail)
    go_ret
    exact ⟨_, rfl, ho', ((Below.refl _ _).alloc (Nat.le_refl _) _).trans hb'⟩

theorem sum_round (c : Nat) (h : c < 4294967296) : bits BinOp.xor IntKind.u32 ((c : Int) / 2) (bits BinOp.and IntKind.u32 (c : Int) 1 * 3988292384 % 4294967296) = (M.st c : Int) := by
  rw [show (1 : Int) = ((1 : Nat) : Int) from rfl, u32_and_nat _ _ h (by decide), nat_mask1, show ((c : Int) / 2) = ((c / 2 : Nat) : Int) by omega, show (((c % 2 : Nat) : Int) * 3988292384 % 4294967296) = ((c % 2 * 3988292384 : Nat) : Int) by omega, u32_xor_nat _ _ (by omega) (by omega)]
  rfl

theorem sum_turn (c : Nat) (h : c < 4294967296) : bits BinOp.xor IntKind.u32 IntKind.u32.max (c : Int) = ((4294967295 ^^^ c : Nat) : Int) := by
  rw [show IntKind.u32.max = ((4294967295 : Nat) : Int) from rfl, u32_xor_nat _ _ (by decide) h]

set_option maxHeartbeats 400000 in
theorem sum_any {v : Value} {l : List UInt8} {w : World} (hr : Rd w v l) :
    Calls Try.prog 51 #[v] w fun e w' => e = .returned (.int .u32 (M.crc l)) ∧ ∃ k, w' = w.drewN k := by
  obtain ⟨ao, c, rfl, h1, h2, h3, h4⟩ := hr
  unfold maxLen at h2
  go_enter Try.func51, Try.ntmps51
  go_wp2
  go_loopw [3, 8] (fun m i wr => ∃ k q : Nat, k ≤ l.length ∧ i = .int .i64 k ∧ m = .int .u32 q ∧ q < 4294967296 ∧ q = M.crcF 4294967295 (l.take k) ∧ wr = w) (fun _ i _ => l.length - (intOf i).toNat)
  case atStart => exact ⟨0, 4294967295, Nat.zero_le _, rfl, rfl, by decide, rfl, rfl⟩
  case round =>
    obtain ⟨k, q, hk, rfl, rfl, hq, hqe, rfl⟩ := hrel
    have HQ : Hid _ := hqe
    clear hqe
    by_cases hlt : k < l.length
    · obtain ⟨a, rfl, hc⟩ := h4 k hlt
      have hx := l[k].toNat_lt
      clear h4
      go_wp2
      have e0 : bits BinOp.xor IntKind.u32 (q : Int) (l[k].toNat : Int) = ((q ^^^ l[k].toNat : Nat) : Int) := u32_xor_nat _ _ hq (by omega)
      have hql := M.xor_lt q l[k].toNat hq hx
      have HS : Hid (M.st8 (q ^^^ l[k].toNat) = M.crcF 4294967295 (l.take (k + 1))) := by
        show _ = _
        rw [take_snoc l k hlt, M.crcF_snoc, HQ.out]
      rw [e0]
      clear e0
      go_loopw [3, 16] (fun m i wx => ∃ j p : Nat, j ≤ 8 ∧ i = .int .i64 j ∧ m = .int .u32 p ∧ p < 4294967296 ∧ M.stN (8 - j) p = M.st8 (q ^^^ l[k].toNat) ∧ wx = wr) (fun _ i _ => 8 - (intOf i).toNat)
      case atStart => exact ⟨0, _, Nat.zero_le _, rfl, rfl, hql, rfl, rfl⟩
      case round =>
        obtain ⟨j, p, hj, rfl, rfl, hp, hpe, rfl⟩ := hrel
        have HP : Hid _ := hpe
        clear hpe
        by_cases hlt8 : j < 8
        · have hr1 := sum_round p hp
          have HR : Hid _ := hr1
          clear hr1
          go_wp2
          refine ⟨⟨j + 1, M.st p, by omega, by go_num, congrArg _ HR.out, M.st_lt p hp, ?_, trivial⟩, by simp [intOf]; omega⟩
          have := HP.out
          rw [show 8 - j = 8 - (j + 1) + 1 by omega, M.stN] at this
          exact this
        · go_wp2
          have := HP.out
          rw [show 8 - j = 0 by omega, M.stN] at this
          exact ⟨⟨k + 1, p, by omega, by go_num, rfl, hp, by rw [← HS.out, this], trivial⟩, by simp [intOf]; omega⟩
    · go_wp2
      go_ret
      refine ⟨ret_int ?_, 0, rfl⟩
      rw [sum_turn q hq, HQ.out, List.take_of_length_le (by omega)]; rfl

end Go.Proofs.Ytdaedglfefkeoaa

/- What the law's own Copy answers. -/
namespace Go.Proofs.Ytdaedglfefkeoaa
open Go.RowKit
set_option linter.unusedVariables false
set_option maxRecDepth 100000

theorem lcopy_any {v : Value} {l : List UInt8} {w : World} (hr : Rd w v l) (hl : l.length ≤ 140737488355328) :
    Calls Try.prog 28 #[v] w fun e w' => ∃ v', e = .returned v' ∧ Ow w.heap.size w' v' l ∧ Below w.heap.size w w' := by
  go_enter Try.func28, Try.ntmps28
  go_wp2_with (first | (at_builtin; refine wpList_app rfl _ _ rfl w.heap.size _ [] rfl (Ow.nil _ _) _ l rfl hr (Nat.le_refl _) (by simpa using hl) ?_; intro v' w' ho' hb' hg') | fail)
  go_ret
  exact ⟨_, rfl, ho', hb'⟩
end Go.Proofs.Ytdaedglfefkeoaa

/- Plain mathematics of what is read back: numbers, ordered texts, frames and rows, both ways. No program is named here. -/
namespace Go.Proofs.Ytdaedglfefkeoaa.M
set_option maxRecDepth 100000

/-- The fields of a row, one behind the other. -/
def rowB : List (List UInt8) → List UInt8
  | [] => []
  | f :: r => vi f.length ++ f ++ rowB r
def row (ls : List (List UInt8)) : List UInt8 := vi ls.length ++ rowB ls

theorem rowB_app (a b : List (List UInt8)) : rowB (a ++ b) = rowB a ++ rowB b := by
  induction a with
  | nil => rfl
  | cons f r ih => simp [rowB, ih]
theorem rowB_snoc (ls : List (List UInt8)) (k : Nat) (h : k < ls.length) : rowB (ls.take (k + 1)) = rowB (ls.take k) ++ vi ls[k].length ++ ls[k] := by
  rw [List.take_succ_eq_append_getElem h, rowB_app]
  simp [rowB]
theorem rowB_le (ls : List (List UInt8)) (k : Nat) : (rowB (ls.take k)).length ≤ (rowB ls).length := by
  have : rowB ls = rowB (ls.take k) ++ rowB (ls.drop k) := by rw [← rowB_app, List.take_append_drop]
  rw [this]; simp
theorem rowB_field (ls : List (List UInt8)) (k : Nat) (h : k < ls.length) : (rowB (ls.take k)).length + (vi ls[k].length).length + ls[k].length ≤ (rowB ls).length := by
  have h1 := rowB_le ls (k + 1)
  rw [rowB_snoc ls k h] at h1
  simp only [List.length_append] at h1
  omega

/-- k fields read: the fields, what stands behind, the error. -/
def rf : Nat → List UInt8 → List (List UInt8) × List UInt8 × Nat
  | 0, l => ([], l, 0)
  | k + 1, l =>
    if (tv l).2.2 ≠ 0 then ([], [], (tv l).2.2)
    else if (tv l).2.1.length < (tv l).1 then ([], [], 10)
    else if (rf k ((tv l).2.1.drop (tv l).1)).2.2 ≠ 0 then ([], [], (rf k ((tv l).2.1.drop (tv l).1)).2.2)
    else ((tv l).2.1.take (tv l).1 :: (rf k ((tv l).2.1.drop (tv l).1)).1, (rf k ((tv l).2.1.drop (tv l).1)).2.1, 0)
/-- What a row is read as: its fields, the error. -/
def tr (l : List UInt8) : List (List UInt8) × Nat :=
  if (tv l).2.2 ≠ 0 then ([], (tv l).2.2)
  else if (tv l).2.1.length < (tv l).1 then ([], 12)
  else if (rf (tv l).1 (tv l).2.1).2.2 ≠ 0 then ([], (rf (tv l).1 (tv l).2.1).2.2)
  else if (rf (tv l).1 (tv l).2.1).2.1.length ≠ 0 then ([], 12)
  else ((rf (tv l).1 (tv l).2.1).1, 0)

/-- One field read. -/
def fd (l : List UInt8) : List UInt8 × List UInt8 × Nat := if (tv l).2.2 ≠ 0 then ([], [], (tv l).2.2) else part (tv l).2.1 (tv l).1
/-- k fields read, behind those that were read so far. -/
def rfA : Nat → List (List UInt8) → List UInt8 → List (List UInt8) × List UInt8 × Nat
  | 0, fs, l => (fs, l, 0)
  | k + 1, fs, l => if (fd l).2.2 ≠ 0 then ([], [], (fd l).2.2) else rfA k (fs ++ [(fd l).1]) (fd l).2.1
theorem rfA_rf (k : Nat) (fs : List (List UInt8)) (l : List UInt8) : rfA k fs l = if (rf k l).2.2 ≠ 0 then ([], [], (rf k l).2.2) else (fs ++ (rf k l).1, (rf k l).2.1, 0) := by
  induction k generalizing fs l with
  | zero => simp [rfA, rf]
  | succ k ih =>
    rw [rfA, rf]
    unfold fd part
    by_cases h1 : (tv l).2.2 ≠ 0
    · simp only [if_pos h1]
    · simp only [if_neg h1]
      by_cases h2 : (tv l).2.1.length < (tv l).1
      · simp [if_pos h2]
      · simp only [if_neg h2, ne_eq, not_true_eq_false, if_false]
        rw [ih]
        by_cases h3 : (rf k ((tv l).2.1.drop (tv l).1)).2.2 ≠ 0
        · simp only [if_pos h3]
        · simp only [if_neg h3, ne_eq, not_true_eq_false, if_false, List.append_assoc, List.singleton_append]
theorem rfA_nil (k : Nat) (l : List UInt8) : rfA k [] l = if (rf k l).2.2 ≠ 0 then ([], [], (rf k l).2.2) else ((rf k l).1, (rf k l).2.1, 0) := by simpa using rfA_rf k [] l
theorem tr_rfA (l : List UInt8) (h1 : (tv l).2.2 = 0) (h2 : (tv l).1 ≤ (tv l).2.1.length) : tr l = if (rfA (tv l).1 [] (tv l).2.1).2.2 ≠ 0 then ([], (rfA (tv l).1 [] (tv l).2.1).2.2) else if (rfA (tv l).1 [] (tv l).2.1).2.1.length ≠ 0 then ([], 12) else ((rfA (tv l).1 [] (tv l).2.1).1, 0) := by
  unfold tr
  rw [if_neg (by simp [h1]), if_neg (by omega), rfA_nil]
  by_cases h3 : (rf (tv l).1 (tv l).2.1).2.2 ≠ 0
  · simp only [if_pos h3]
  · simp only [if_neg h3, ne_eq, not_true_eq_false, if_false]
theorem fd_len (l : List UInt8) (ht : (tv l).2.1.length ≤ l.length) : (fd l).1.length ≤ l.length ∧ (fd l).2.1.length ≤ l.length := by
  unfold fd part
  split
  · simp
  · split
    · simp
    · simp only [List.length_take, List.length_drop]; omega

theorem viF_pos (k n : Nat) : 1 ≤ (viF k n).length := by
  cases k with
  | zero => simp [viF]
  | succ k => rw [viF]; split <;> simp
theorem vi_pos (n : Nat) : 1 ≤ (vi n).length := viF_pos 9 n

theorem rf_back (ls : List (List UInt8)) (r : List UInt8) (h : ∀ f ∈ ls, f.length < 18446744073709551616) : rf ls.length (rowB ls ++ r) = (ls, r, 0) := by
  induction ls with
  | nil => rfl
  | cons f ls ih =>
    have hf := h f (List.mem_cons_self ..)
    have e : tv (rowB (f :: ls) ++ r) = (f.length, f ++ (rowB ls ++ r), 0) := by
      rw [rowB, List.append_assoc, List.append_assoc]; exact tv_vi _ _ hf
    rw [List.length_cons, rf, e]
    simp only [ne_eq, not_true_eq_false, if_false]
    rw [if_neg (by simp), List.drop_left' rfl, List.take_left' rfl, ih (fun g hg => h g (List.mem_cons_of_mem _ hg))]
    simp
theorem rowB_pos (ls : List (List UInt8)) : ls.length ≤ (rowB ls).length := by
  induction ls with
  | nil => simp
  | cons f r ih => have := vi_pos f.length; simp only [rowB, List.length_append, List.length_cons]; omega
theorem tr_row (ls : List (List UInt8)) (hn : ls.length < 18446744073709551616) (h : ∀ f ∈ ls, f.length < 18446744073709551616) : tr (row ls) = (ls, 0) := by
  have e : tv (row ls) = (ls.length, rowB ls, 0) := tv_vi _ _ hn
  have e2 : rf ls.length (rowB ls) = (ls, [], 0) := by simpa using rf_back ls [] h
  have := rowB_pos ls
  unfold tr
  rw [e]
  simp only [ne_eq, not_true_eq_false, if_false]
  rw [if_neg (by omega), e2]
  simp

/-- The converse: what is read as a number is written as just that. -/
theorem viF_val (k s : Nat) (l : List UInt8) (hs : s ≤ k) (hk : k ≤ 9) (hl : l.length = s + 1) (h1 : ∀ j, (h : j < s) → 128 ≤ (l[j]'(by omega)).toNat) (h2 : (l[s]'(by omega)).toNat < 128) (h3 : 0 < s → (l[s]'(by omega)).toNat ≠ 0) :
    viF k (val l) = l := by
  induction k generalizing s l with
  | zero =>
    obtain rfl : s = 0 := by omega
    match l, hl with
    | [x], _ =>
      simp at h2
      have e : val [x] = x.toNat := by simp [val]; omega
      rw [e, viF, UInt8.ofNat_toNat]
  | succ k ih =>
    match l, hl with
    | x :: r, hl =>
      cases s with
      | zero =>
        have : r = [] := by simpa using hl
        subst this
        simp at h2
        have e : val [x] = x.toNat := by simp [val]; omega
        rw [e, viF, if_pos h2, UInt8.ofNat_toNat]
      | succ s =>
        have hx := h1 0 (by omega)
        simp only [List.getElem_cons_zero] at hx
        have hlt := x.toNat_lt
        have hr := ih s r (by omega) (by omega) (by simpa using hl) (fun j hj => by simpa using h1 (j + 1) (by omega)) (by simpa using h2) (fun _ => by simpa using h3 (by omega))
        have hv : 1 ≤ val r := by
          have hrl : r.length = s + 1 := by simpa using hl
          have hlast : r[s].toNat ≠ 0 := by simpa using h3 (by omega)
          have hlast2 : r[s].toNat < 128 := by simpa using h2
          have e : r = r.take s ++ [r[s]] := by
            have := List.take_succ_eq_append_getElem (l := r) (i := s) (by omega)
            rw [List.take_of_length_le (by omega)] at this
            exact this
          rw [e, val_append]
          have hp : 0 < 128 ^ (r.take s).length := Nat.pow_pos (by decide)
          have hq : 1 ≤ val [r[s]] := by simp [val]; omega
          have := Nat.mul_le_mul hp hq
          omega
        rw [val, viF, if_neg (by omega)]
        rw [show (x.toNat % 128 + 128 * val r) % 128 + 128 = x.toNat by omega, show (x.toNat % 128 + 128 * val r) / 128 = val r by omega, hr, UInt8.ofNat_toNat]

theorem cont_out (m : Nat) (l : List UInt8) : (∀ j, (h : j < cont m l) → (h' : j < l.length) → 128 ≤ l[j].toNat) ∧ (cont m l < m → (h : cont m l < l.length) → l[cont m l].toNat < 128) := by
  induction m generalizing l with
  | zero => exact ⟨fun j h => by simp [cont] at h, fun h => by omega⟩
  | succ m ih =>
    cases l with
    | nil => exact ⟨fun j h => by simp [cont] at h, fun _ h => by simp at h⟩
    | cons x l =>
      obtain ⟨i1, i2⟩ := ih l
      by_cases hx : 128 ≤ x.toNat
      · have e : cont (m + 1) (x :: l) = cont m l + 1 := by simp only [cont]; rw [if_pos hx]
        refine ⟨fun j h h' => ?_, fun h h' => ?_⟩
        · cases j with
          | zero => simpa using hx
          | succ j => simpa using i1 j (by omega) (by simpa using h')
        · have := i2 (by omega) (by rw [e] at h'; simpa using h')
          simp only [e, List.getElem_cons_succ]; exact this
      · have e : cont (m + 1) (x :: l) = 0 := by simp only [cont]; rw [if_neg hx]
        refine ⟨fun j h => by omega, fun h h' => ?_⟩
        simp only [e, List.getElem_cons_zero]; omega

theorem tv_form (l : List UInt8) (h : (tv l).2.2 = 0) : vi (tv l).1 ++ (tv l).2.1 = l := by
  obtain ⟨c1, c2⟩ := cont_out 10 l
  have hle := cont_le 10 l
  unfold tv at h ⊢
  simp only [] at h ⊢
  by_cases h1 : cont 10 l = 10
  · rw [if_pos h1] at h; cases h
  · rw [if_neg h1] at h ⊢
    by_cases h2 : l.length ≤ cont 10 l
    · rw [if_pos h2] at h; cases h
    · rw [if_neg h2] at h ⊢
      by_cases h3 : 0 < cont 10 l ∧ (l.getD (cont 10 l) 0).toNat = 0 ∨ cont 10 l = 9 ∧ 1 < (l.getD (cont 10 l) 0).toNat
      · rw [if_pos h3] at h; cases h
      · rw [if_neg h3]
        have hlt : cont 10 l < l.length := by omega
        have eg : l.getD (cont 10 l) 0 = l[cont 10 l] := by simp [hlt]
        rw [eg] at h3
        have := viF_val 9 (cont 10 l) (l.take (cont 10 l + 1)) (by omega) (Nat.le_refl _) (by simp; omega) (fun j hj => by rw [List.getElem_take]; exact c1 j hj (by omega)) (by rw [List.getElem_take]; exact c2 (by omega) hlt) (fun h0 => by rw [List.getElem_take]; intro q; exact h3 (.inl ⟨h0, q⟩))
        show viF 9 (val (l.take (cont 10 l + 1))) ++ l.drop (cont 10 l + 1) = l
        rw [this, List.take_append_drop]

theorem rf_form (k : Nat) (l : List UInt8) (h : (rf k l).2.2 = 0) : (rf k l).1.length = k ∧ rowB (rf k l).1 ++ (rf k l).2.1 = l := by
  induction k generalizing l with
  | zero => exact ⟨rfl, rfl⟩
  | succ k ih =>
    rw [rf] at h ⊢
    by_cases h1 : (tv l).2.2 ≠ 0
    · rw [if_pos h1] at h; exact absurd h h1
    · rw [if_neg h1] at h ⊢
      by_cases h2 : (tv l).2.1.length < (tv l).1
      · rw [if_pos h2] at h; cases h
      · rw [if_neg h2] at h ⊢
        by_cases h3 : (rf k ((tv l).2.1.drop (tv l).1)).2.2 ≠ 0
        · rw [if_pos h3] at h; exact absurd h h3
        · rw [if_neg h3]
          have h1' : (tv l).2.2 = 0 := by simpa using h1
          obtain ⟨q1, q2⟩ := ih _ (show _ = 0 by simpa using h3)
          have ht := tv_form l h1'
          refine ⟨by simp [q1], ?_⟩
          show vi ((tv l).2.1.take (tv l).1).length ++ (tv l).2.1.take (tv l).1 ++ rowB _ ++ _ = l
          rw [List.append_assoc, List.append_assoc, q2, List.take_append_drop, List.length_take, Nat.min_eq_left (by omega), ht]
theorem tr_form (l : List UInt8) (h : (tr l).2 = 0) : row (tr l).1 = l := by
  unfold tr at h ⊢
  by_cases h1 : (tv l).2.2 ≠ 0
  · rw [if_pos h1] at h; exact absurd h h1
  · rw [if_neg h1] at h ⊢
    by_cases h2 : (tv l).2.1.length < (tv l).1
    · rw [if_pos h2] at h; cases h
    · rw [if_neg h2] at h ⊢
      by_cases h3 : (rf (tv l).1 (tv l).2.1).2.2 ≠ 0
      · rw [if_pos h3] at h; exact absurd h h3
      · rw [if_neg h3] at h ⊢
        by_cases h4 : (rf (tv l).1 (tv l).2.1).2.1.length ≠ 0
        · rw [if_pos h4] at h; cases h
        · rw [if_neg h4]
          obtain ⟨q1, q2⟩ := rf_form _ _ (show (rf (tv l).1 (tv l).2.1).2.2 = 0 by simpa using h3)
          have e : (rf (tv l).1 (tv l).2.1).2.1 = [] := List.length_eq_zero_iff.1 (by simpa using h4)
          rw [e, List.append_nil] at q2
          have ht := tv_form l (by simpa using h1)
          show vi (rf (tv l).1 (tv l).2.1).1.length ++ rowB _ = l
          rw [q1, q2, ht]

theorem be_num4 (u : List UInt8) (k : Nat) (h : u.length = k) : be k (num u) = u := num_inj _ _ (by rw [be_length, h]) (by rw [num_be k _ (by have := num_lt u; rw [h] at this; exact this)])

theorem tf_form (l : List UInt8) (h : (tf l).2.2 = 0) : frame (tf l).1 ++ (tf l).2.1 = l := by
  unfold tf at h ⊢
  simp only [] at h ⊢
  by_cases h1 : (tv l).2.2 ≠ 0
  · rw [if_pos h1] at h; exact absurd h h1
  · rw [if_neg h1] at h ⊢
    by_cases h2 : (tv l).2.1.length < 4
    · rw [if_pos h2] at h; cases h
    · rw [if_neg h2] at h ⊢
      by_cases h3 : ((tv l).2.1.drop 4).length < (tv l).1
      · rw [if_pos h3] at h; cases h
      · rw [if_neg h3] at h ⊢
        by_cases h4 : crc (((tv l).2.1.drop 4).take (tv l).1) ≠ num ((tv l).2.1.take 4)
        · rw [if_pos h4] at h; cases h
        · rw [if_neg h4]
          have ht := tv_form l (by simpa using h1)
          have h4' : crc (((tv l).2.1.drop 4).take (tv l).1) = num ((tv l).2.1.take 4) := by simpa using h4
          show frame (((tv l).2.1.drop 4).take (tv l).1) ++ ((tv l).2.1.drop 4).drop (tv l).1 = l
          unfold frame
          rw [h4', be_num4 _ 4 (by simp; omega), List.append_assoc, List.append_assoc, List.take_append_drop, List.take_append_drop, List.length_take, Nat.min_eq_left (by omega), ht]

/-- A last group read. -/
theorem tg_pad (l r : List UInt8) (h : l.length < 8) : tg (pad l ++ r) = (l, 0) := by
  have hp := pad_length l h
  have e8 : (pad l ++ r).getD 8 0 = UInt8.ofNat (247 + l.length) := by
    rw [List.getD_eq_getElem?_getD, List.getElem?_append_left (by omega)]
    have : (pad l)[8]? = some (UInt8.ofNat (247 + l.length)) := by
      unfold pad
      rw [List.getElem?_append_right (by simp; omega)]
      have : (l ++ List.replicate (8 - l.length) (0 : UInt8)).length = 8 := by simp; omega
      rw [this]; rfl
    rw [this]; rfl
  have en : (UInt8.ofNat (247 + l.length)).toNat = 247 + l.length := by rw [UInt8.toNat_ofNat']; omega
  have t8 : (pad l ++ r).take 8 = l ++ List.replicate (8 - l.length) 0 := by
    unfold pad
    rw [List.append_assoc]
    exact List.take_left' (by simp; omega)
  unfold tg
  rw [if_neg (by simp [hp]), e8, en, if_neg (by omega), t8, show 247 + l.length - 247 = l.length by omega, List.drop_left' rfl, if_pos (by simp)]
  congr 1
  unfold pad
  rw [List.append_assoc, List.append_assoc]
  exact List.take_left' rfl
theorem tg_full (a r : List UInt8) (h : a.length = 8) : tg (a ++ [255] ++ r) = (a, 0) := by
  have e8 : (a ++ [255] ++ r).getD 8 0 = 255 := by
    rw [List.getD_eq_getElem?_getD, List.append_assoc, List.getElem?_append_right (by omega), h]; rfl
  have t8 : (a ++ [255] ++ r).take 8 = a := by rw [List.append_assoc]; exact List.take_left' h
  unfold tg
  rw [if_neg (by simp only [List.length_append, h, List.length_singleton]; omega), e8, if_neg (by decide), t8]
  rw [show (255 : UInt8).toNat - 247 = 8 by decide, if_pos (by rw [List.drop_of_length_le (by omega)]; rfl), t8]

theorem tbA_back (k n : Nat) (acc l r : List UInt8) (hn : l.length < 8 * (k + 1)) (hk : k < n) : tbA n acc (obF k l ++ r) = (acc ++ l, r, 0) := by
  induction k generalizing n acc l with
  | zero =>
    obtain ⟨n, rfl⟩ : ∃ m, n = m + 1 := ⟨n - 1, by omega⟩
    rw [tbA, obF, tg_pad l r (by omega)]
    simp only [ne_eq, not_true_eq_false, if_false]
    rw [if_pos (by omega), List.drop_left' (pad_length l (by omega))]
  | succ k ih =>
    obtain ⟨n, rfl⟩ : ∃ m, n = m + 1 := ⟨n - 1, by omega⟩
    rw [tbA, obF]
    by_cases h : l.length < 8
    · rw [if_pos h, tg_pad l r h]
      simp only [ne_eq, not_true_eq_false, if_false]
      rw [if_pos h, List.drop_left' (pad_length l h)]
    · rw [if_neg h, List.append_assoc, tg_full _ _ (by simp; omega)]
      simp only [ne_eq, not_true_eq_false, if_false]
      rw [if_neg (by simp; omega), List.drop_left' (by simp; omega), ih n _ _ (by simp; omega) (by omega), List.append_assoc, List.take_append_drop]
theorem tb_back (b r : List UInt8) : tb (ob b ++ r) = (b, r, 0) := by
  unfold tb ob
  have h := obF_length (b.length / 8) b (by omega)
  rw [tbA_back (b.length / 8) _ [] b r (by omega) (by rw [List.length_append, h]; omega)]
  simp
theorem tk_back (b : List UInt8) (n : Nat) (hn : n < 18446744073709551616) : tk (key b n) = (b, n, 0) := by
  unfold tk key
  simp only []
  have h8 := be_length 8 (18446744073709551615 - n)
  rw [tb_back]
  simp only [ne_eq, not_true_eq_false, if_false]
  have h256 : 18446744073709551615 - n < 256 ^ 8 := by
    have : (256 : Nat) ^ 8 = 18446744073709551616 := by decide
    omega
  rw [if_neg (by omega), h8, if_neg (by simp), List.take_of_length_le (by omega), num_be 8 _ h256, show 18446744073709551615 - (18446744073709551615 - n) = n by omega]

/-- The converse for ordered texts. -/
theorem tg_form (l : List UInt8) (h : (tg l).2 = 0) : ((tg l).1.length < 8 → pad (tg l).1 = l.take 9) ∧ ((tg l).1.length = 8 → (tg l).1 ++ [255] = l.take 9) := by
  obtain ⟨h1, h2, h3, h4⟩ := tg_ok l h
  have hb := (l.getD 8 0).toNat_lt
  have hl := tg_len l h
  have e9 : l.take 9 = l.take 8 ++ [l.getD 8 0] := by
    rw [List.take_succ_eq_append_getElem (show 8 < l.length by omega)]
    simp [show 8 < l.length by omega]
  generalize hm : (l.getD 8 0).toNat - 247 = m at *
  have em : l.getD 8 0 = UInt8.ofNat (247 + m) := by
    rw [← UInt8.ofNat_toNat (x := l.getD 8 0)]; congr 1; omega
  refine ⟨fun q => ?_, fun q => ?_⟩
  · rw [e9, em]
    unfold pad
    rw [hl.1]
    congr 1
    have ez : (l.take 8).drop m = List.replicate (8 - m) 0 := by
      refine List.eq_replicate_iff.2 ⟨by simp; omega, fun x hx => ?_⟩
      have := List.all_eq_true.1 h4 x hx
      simpa using this
    rw [h3, ← ez]
    have : l.take m = (l.take 8).take m := by rw [List.take_take, Nat.min_eq_left (by omega)]
    rw [this, List.take_append_drop]
  · rw [e9, em, h3, show m = 8 by omega]
    rfl
theorem tbA_form (n : Nat) (acc l : List UInt8) (h : (tbA n acc l).2.2 = 0) : ∃ x, (tbA n acc l).1 = acc ++ x ∧ ob x ++ (tbA n acc l).2.1 = l := by
  induction n generalizing acc l with
  | zero => cases h
  | succ n ih =>
    rw [tbA] at h ⊢
    by_cases h1 : (tg l).2 ≠ 0
    · rw [if_pos h1] at h; exact absurd h h1
    · rw [if_neg h1] at h ⊢
      obtain ⟨f1, f2⟩ := tg_form l (by simpa using h1)
      have hl := tg_len l (by simpa using h1)
      by_cases h2 : (tg l).1.length < 8
      · rw [if_pos h2]
        refine ⟨_, rfl, ?_⟩
        show ob (tg l).1 ++ l.drop 9 = l
        unfold ob
        rw [obF_short _ _ h2, f1 h2, List.take_append_drop]
      · rw [if_neg h2] at h ⊢
        obtain ⟨x, q1, q2⟩ := ih _ _ h
        refine ⟨(tg l).1 ++ x, by rw [q1, List.append_assoc], ?_⟩
        have e8 : (tg l).1.length = 8 := by omega
        have eo : ob ((tg l).1 ++ x) = (tg l).1 ++ [255] ++ ob x := by
          unfold ob
          rw [List.length_append, e8, show (8 + x.length) / 8 = x.length / 8 + 1 by omega, obF, if_neg (by simp; omega), List.take_left' e8, List.drop_left' e8]
        rw [eo, f2 e8, List.append_assoc, q2, List.take_append_drop]
theorem tb_form (l : List UInt8) (h : (tb l).2.2 = 0) : ob (tb l).1 ++ (tb l).2.1 = l := by
  obtain ⟨x, q1, q2⟩ := tbA_form _ _ _ h
  unfold tb
  rw [q1]
  simpa using q2
end Go.Proofs.Ytdaedglfefkeoaa.M

/- Plain mathematics of tables: pairs that rise, the bytes of a table, what bytes are read as. No program is named here. -/
namespace Go.Proofs.Ytdaedglfefkeoaa.M
set_option maxRecDepth 100000

/-- Pairs whose keys rise. -/
def ris : List (List UInt8 × List UInt8 × Bool) → Bool
  | [] => true
  | [_] => true
  | p :: q :: r => decide (cmpL p.1 q.1 < 0) && ris (q :: r)
theorem ris_iff (ps : List (List UInt8 × List UInt8 × Bool)) : ris ps = true ↔ ∀ i p q, ps[i]? = some p → ps[i + 1]? = some q → cmpL p.1 q.1 < 0 := by
  induction ps with
  | nil => simp [ris]
  | cons p r ih =>
    cases r with
    | nil => simp [ris]
    | cons q r =>
      rw [ris, Bool.and_eq_true, decide_eq_true_iff, ih]
      constructor
      · rintro ⟨h1, h2⟩ i x y hx hy
        cases i with
        | zero => simp at hx hy; subst hx; subst hy; exact h1
        | succ i => exact h2 i x y (by simpa using hx) (by simpa using hy)
      · intro h
        exact ⟨h 0 p q rfl rfl, fun i x y hx hy => h (i + 1) x y (by simpa using hx) (by simpa using hy)⟩
theorem ris_false {ps : List (List UInt8 × List UInt8 × Bool)} {i : Nat} {p q : List UInt8 × List UInt8 × Bool} (h1 : ps[i]? = some p) (h2 : ps[i + 1]? = some q) (h : 0 ≤ cmpL p.1 q.1) : ris ps = false := by
  by_cases e : ris ps = true
  · have := (ris_iff ps).1 e i p q h1 h2; omega
  · simpa using e

/-- The row of a pair. -/
def prow (p : List UInt8 × List UInt8 × Bool) : List UInt8 := row [p.1, p.2.1, [if p.2.2 then 1 else 0]]
/-- The bytes of a table. -/
def tab (ps : List (List UInt8 × List UInt8 × Bool)) : List UInt8 := frame (row (ps.map prow))
/-- What Build answers. -/
def bld (ps : List (List UInt8 × List UInt8 × Bool)) : List UInt8 × Nat := if ris ps then (tab ps, 0) else ([], 51)

/-- The pair that three fields say. -/
def dec : List (List UInt8) → Option (List UInt8 × List UInt8 × Bool)
  | [k, v, [m]] => if m = 0 then some (k, v, false) else if m = 1 then some (k, v, true) else none
  | _ => none
/-- The pair that a field is read as. -/
def tp (l : List UInt8) : Option (List UInt8 × List UInt8 × Bool) := if (tr l).2 = 0 then dec (tr l).1 else none
/-- The pairs that fields are read as. -/
def allP : List (List UInt8) → Option (List (List UInt8 × List UInt8 × Bool))
  | [] => some []
  | f :: r => match tp f, allP r with
    | some p, some ps => some (p :: ps)
    | _, _ => none
/-- Pairs, if they rise. -/
def keepR : Option (List (List UInt8 × List UInt8 × Bool)) → Option (List (List UInt8 × List UInt8 × Bool))
  | some ps => if ris ps then some ps else none
  | none => none
/-- The pairs that bytes are read as. -/
def opn (l : List UInt8) : Option (List (List UInt8 × List UInt8 × Bool)) :=
  if (tf l).2.2 = 0 ∧ (tf l).2.1 = [] ∧ (tr (tf l).1).2 = 0 then
    keepR (allP (tr (tf l).1).1)
  else none

theorem dec_form {fs : List (List UInt8)} {p : List UInt8 × List UInt8 × Bool} (h : dec fs = some p) : fs = [p.1, p.2.1, [if p.2.2 then 1 else 0]] := by
  unfold dec at h
  split at h
  · split at h
    · obtain rfl := Option.some.inj h
      rename_i h0; simp [h0]
    · split at h
      · obtain rfl := Option.some.inj h
        rename_i h0; simp [h0]
      · cases h
  · cases h
theorem dec_back (p : List UInt8 × List UInt8 × Bool) : dec [p.1, p.2.1, [if p.2.2 then 1 else 0]] = some p := by
  obtain ⟨k, v, g⟩ := p
  cases g <;> rfl
theorem tp_form {l : List UInt8} {p : List UInt8 × List UInt8 × Bool} (h : tp l = some p) : prow p = l := by
  unfold tp at h
  split at h
  · rename_i h0
    have := dec_form h
    unfold prow
    rw [← this]
    exact tr_form l h0
  · cases h
theorem tp_back (p : List UInt8 × List UInt8 × Bool) (h1 : p.1.length < 18446744073709551616) (h2 : p.2.1.length < 18446744073709551616) : tp (prow p) = some p := by
  have e : tr (prow p) = ([p.1, p.2.1, [if p.2.2 then 1 else 0]], 0) := tr_row _ (by simp) (fun f hf => by
    simp only [List.mem_cons, List.not_mem_nil, or_false] at hf
    rcases hf with rfl | rfl | rfl
    · exact h1
    · exact h2
    · simp)
  unfold tp
  rw [e]
  simp only [if_true]
  exact dec_back p
theorem allP_form {fs : List (List UInt8)} {ps : List (List UInt8 × List UInt8 × Bool)} (h : allP fs = some ps) : ps.map prow = fs := by
  induction fs generalizing ps with
  | nil => simp [allP] at h; subst h; rfl
  | cons f r ih =>
    rw [allP] at h
    split at h
    · rename_i p qs e1 e2
      obtain rfl := Option.some.inj h
      rw [List.map_cons, tp_form e1, ih e2]
    · cases h
theorem allP_back (ps : List (List UInt8 × List UInt8 × Bool)) (h : ∀ p ∈ ps, p.1.length < 18446744073709551616 ∧ p.2.1.length < 18446744073709551616) : allP (ps.map prow) = some ps := by
  induction ps with
  | nil => rfl
  | cons p r ih =>
    have h0 := h p (List.mem_cons_self ..)
    rw [List.map_cons, allP, tp_back p h0.1 h0.2, ih (fun q hq => h q (List.mem_cons_of_mem _ hq))]
theorem allP_none {fs : List (List UInt8)} {i : Nat} {f : List UInt8} (h : fs[i]? = some f) (hf : tp f = none) : allP fs = none := by
  induction fs generalizing i with
  | nil => simp at h
  | cons g r ih =>
    rw [allP]
    cases i with
    | zero => simp at h; subst h; rw [hf]
    | succ i =>
      rw [ih (i := i) (by simpa using h)]
      cases tp g <;> rfl
theorem allP_some {fs : List (List UInt8)} {ps : List (List UInt8 × List UInt8 × Bool)} (hl : ps.length = fs.length) (h : ∀ (i : Nat) f p, fs[i]? = some f → ps[i]? = some p → tp f = some p) : allP fs = some ps := by
  induction fs generalizing ps with
  | nil =>
    obtain rfl := List.length_eq_zero_iff.1 hl
    rfl
  | cons f r ih =>
    cases ps with
    | nil => simp at hl
    | cons p ps =>
      rw [allP, h 0 f p rfl rfl, ih (by simpa using hl) (fun i g q e1 e2 => h (i + 1) g q (by simpa using e1) (by simpa using e2))]

theorem opn_form {l : List UInt8} {ps : List (List UInt8 × List UInt8 × Bool)} (h : opn l = some ps) : tab ps = l ∧ ris ps = true := by
  unfold opn at h
  split at h
  · rename_i h0
    unfold keepR at h
    split at h
    · rename_i qs e
      split at h
      · rename_i hr
        obtain rfl := Option.some.inj h
        refine ⟨?_, hr⟩
        have e1 := tf_form l h0.1
        rw [h0.2.1, List.append_nil] at e1
        have e2 := tr_form _ h0.2.2
        have e3 := allP_form e
        unfold tab
        rw [e3, e2, e1]
      · cases h
    · cases h
  · cases h
end Go.Proofs.Ytdaedglfefkeoaa.M

/- Plain mathematics: more of the order of texts, and of pairs that rise by key. No program is named here. -/
namespace Go.Proofs.Ytdaedglfefkeoaa.M
set_option maxRecDepth 100000

theorem cmpL_swap (a b : List UInt8) : cmpL b a = - cmpL a b := by
  induction a generalizing b with
  | nil => cases b <;> rfl
  | cons x r ih =>
    cases b with
    | nil => rfl
    | cons y s =>
      simp only [cmpL]
      by_cases h : x = y
      · subst h; rw [if_pos rfl, if_pos rfl, ih]
      · rw [if_neg h, if_neg (fun e => h e.symm)]
        by_cases h1 : x < y
        · rw [if_pos h1, if_neg (UInt8.lt_asymm h1)]; rfl
        · have h2 : y < x := by
            rw [UInt8.lt_iff_toNat_lt] at h1 ⊢
            have : x.toNat ≠ y.toNat := fun e => h (UInt8.toNat_inj.1 e)
            omega
          rw [if_neg h1, if_pos h2]
theorem cmpL_trans {a b c : List UInt8} (h1 : cmpL a b < 0) (h2 : cmpL b c < 0) : cmpL a c < 0 := by
  induction a generalizing b c with
  | nil =>
    cases c with
    | nil => cases b with
      | nil => simp [cmpL] at h1
      | cons y s => simp [cmpL] at h2
    | cons z t => simp [cmpL]
  | cons x r ih =>
    cases b with
    | nil => simp [cmpL] at h1
    | cons y s =>
      cases c with
      | nil => simp [cmpL] at h2
      | cons z t =>
        simp only [cmpL] at h1 h2 ⊢
        by_cases e1 : x = y
        · subst e1
          rw [if_pos rfl] at h1
          by_cases e2 : x = z
          · subst e2
            rw [if_pos rfl] at h2
            rw [if_pos rfl]
            exact ih h1 h2
          · rw [if_neg e2] at h2 ⊢
            exact h2
        · rw [if_neg e1] at h1
          have l1 : x < y := by
            by_cases q : x < y
            · exact q
            · rw [if_neg q] at h1; omega
          by_cases e2 : y = z
          · subst e2
            rw [if_neg e1, if_pos l1]; decide
          · rw [if_neg e2] at h2
            have l2 : y < z := by
              by_cases q : y < z
              · exact q
              · rw [if_neg q] at h2; omega
            have l3 : x < z := by
              rw [UInt8.lt_iff_toNat_lt] at l1 l2 ⊢; omega
            have e3 : ¬ x = z := fun e => by rw [e] at l3; exact absurd l3 (UInt8.lt_irrefl _)
            rw [if_neg e3, if_pos l3]; decide
theorem cmpL_le_lt {a b c : List UInt8} (h1 : cmpL a b ≤ 0) (h2 : cmpL b c < 0) : cmpL a c < 0 := by
  by_cases e : cmpL a b = 0
  · rw [cmpL_zero e]; exact h2
  · exact cmpL_trans (by omega) h2
theorem cmpL_lt_le {a b c : List UInt8} (h1 : cmpL a b < 0) (h2 : cmpL b c ≤ 0) : cmpL a c < 0 := by
  by_cases e : cmpL b c = 0
  · rw [← cmpL_zero e]; exact h1
  · exact cmpL_trans h1 (by omega)

/-- They rise, all of them. -/
theorem ris_pair {ps : List (List UInt8 × List UInt8 × Bool)} (h : ris ps = true) {i j : Nat} {p q : List UInt8 × List UInt8 × Bool} (hi : ps[i]? = some p) (hj : ps[j]? = some q) (hij : i < j) : cmpL p.1 q.1 < 0 := by
  obtain ⟨d, rfl⟩ : ∃ d, j = i + 1 + d := ⟨j - i - 1, by omega⟩
  induction d generalizing q with
  | zero => exact (ris_iff ps).1 h i p q hi hj
  | succ d ih =>
    have hl := (List.getElem?_eq_some_iff.1 hj).1
    obtain ⟨r, hr⟩ : ∃ r, ps[i + 1 + d]? = some r := ⟨_, List.getElem?_eq_getElem (by omega)⟩
    exact cmpL_trans (ih hr (by omega)) ((ris_iff ps).1 h _ r q hr hj)

/-- How many pairs lie below a key. -/
def plK : List (List UInt8 × List UInt8 × Bool) → List UInt8 → Nat
  | [], _ => 0
  | p :: r, k => if cmpL p.1 k < 0 then plK r k + 1 else 0
theorem plK_le (ps : List (List UInt8 × List UInt8 × Bool)) (k : List UInt8) : plK ps k ≤ ps.length := by
  induction ps with
  | nil => exact Nat.le_refl _
  | cons x r ih => simp only [plK]; split <;> simp <;> omega
theorem plK_lt {ps : List (List UInt8 × List UInt8 × Bool)} {k : List UInt8} {i : Nat} {x : List UInt8 × List UInt8 × Bool} (h : i < plK ps k) (e : ps[i]? = some x) : cmpL x.1 k < 0 := by
  induction ps generalizing i with
  | nil => simp at e
  | cons y r ih =>
    simp only [plK] at h
    split at h
    · cases i with
      | zero => simp at e; subst e; assumption
      | succ i => exact ih (i := i) (by omega) (by simpa using e)
    · omega
theorem plK_ge {ps : List (List UInt8 × List UInt8 × Bool)} {k : List UInt8} {x : List UInt8 × List UInt8 × Bool} (e : ps[plK ps k]? = some x) : ¬ cmpL x.1 k < 0 := by
  induction ps with
  | nil => simp at e
  | cons y r ih =>
    simp only [plK] at e
    split at e
    · exact ih (by simpa using e)
    · simp at e; subst e; assumption
theorem plK_eq {ps : List (List UInt8 × List UInt8 × Bool)} {k : List UInt8} {i : Nat} (h1 : ∀ j x, j < i → ps[j]? = some x → cmpL x.1 k < 0) (h2 : ∀ x, ps[i]? = some x → ¬ cmpL x.1 k < 0) (h3 : i ≤ ps.length) : plK ps k = i := by
  rcases Nat.lt_trichotomy (plK ps k) i with q | q | q
  · have hl : plK ps k < ps.length := by omega
    exact absurd (h1 _ _ q (List.getElem?_eq_getElem hl)) (plK_ge (List.getElem?_eq_getElem hl))
  · exact q
  · have hl : i < ps.length := by have := plK_le ps k; omega
    exact absurd (plK_lt q (List.getElem?_eq_getElem hl)) (h2 _ (List.getElem?_eq_getElem hl))
theorem plK_all {ps : List (List UInt8 × List UInt8 × Bool)} (h : ris ps = true) {k : List UInt8} {i : Nat} {x : List UInt8 × List UInt8 × Bool} (hi : plK ps k ≤ i) (e : ps[i]? = some x) : 0 ≤ cmpL x.1 k := by
  have hl := (List.getElem?_eq_some_iff.1 e).1
  obtain ⟨y, hy⟩ : ∃ y, ps[plK ps k]? = some y := ⟨_, List.getElem?_eq_getElem (by omega)⟩
  have h0 := plK_ge hy
  rcases Nat.lt_or_ge (plK ps k) i with q | q
  · have h1 := ris_pair h hy e q
    have s1 := cmpL_swap k y.1
    have s2 := cmpL_swap k x.1
    have : cmpL k y.1 ≤ 0 := by omega
    have := cmpL_le_lt this h1
    omega
  · obtain rfl : i = plK ps k := by omega
    rw [hy] at e
    obtain rfl := Option.some.inj e
    omega
/-- Is the key there? -/
def isK (ps : List (List UInt8 × List UInt8 × Bool)) (k : List UInt8) : Bool := match ps[plK ps k]? with | some x => cmpL x.1 k == 0 | none => false
end Go.Proofs.Ytdaedglfefkeoaa.M

/- Plain mathematics of merging: what the tables tell together, and a heap's order. No program is named here. -/
namespace Go.Proofs.Ytdaedglfefkeoaa.M
set_option maxRecDepth 100000
set_option linter.unusedVariables false

abbrev P := List UInt8 × List UInt8 × Bool

theorem ris_pw {ps : List P} (h : ris ps = true) : ps.Pairwise (fun p q => cmpL p.1 q.1 < 0) := by
  rw [List.pairwise_iff_getElem]
  intro i j hi hj hij
  exact ris_pair h (List.getElem?_eq_getElem hi) (List.getElem?_eq_getElem hj) hij
theorem pw_ris {ps : List P} (h : ps.Pairwise (fun p q => cmpL p.1 q.1 < 0)) : ris ps = true := by
  rw [ris_iff]
  intro i p q hp hq
  obtain ⟨hi, rfl⟩ := List.getElem?_eq_some_iff.1 hp
  obtain ⟨hj, rfl⟩ := List.getElem?_eq_some_iff.1 hq
  exact (List.pairwise_iff_getElem.1 h) i (i + 1) hi hj (by omega)
theorem cmpL_irr (a : List UInt8) : ¬ cmpL a a < 0 := by rw [cmpL_self]; omega
theorem cmpL_asym {a b : List UInt8} (h : cmpL a b < 0) : ¬ cmpL b a < 0 := by have := cmpL_swap a b; omega

/-- Two lists that rise and have the same pairs are the same. -/
theorem pw_uniq : ∀ {a b : List P}, a.Pairwise (fun p q => cmpL p.1 q.1 < 0) → b.Pairwise (fun p q => cmpL p.1 q.1 < 0) → (∀ p, p ∈ a ↔ p ∈ b) → a = b
  | [], [], _, _, _ => rfl
  | [], y :: s, _, _, h => by have := (h y).2 (by simp); cases this
  | x :: r, [], _, _, h => by have := (h x).1 (by simp); cases this
  | x :: r, y :: s, ha, hb, h => by
    obtain ⟨h1, h2⟩ := List.pairwise_cons.1 ha
    obtain ⟨h3, h4⟩ := List.pairwise_cons.1 hb
    have e : x = y := by
      rcases List.mem_cons.1 ((h x).1 (by simp)) with e | e
      · exact e
      · rcases List.mem_cons.1 ((h y).2 (by simp)) with e2 | e2
        · exact e2.symm
        · exact absurd (h1 y e2) (cmpL_asym (h3 x e))
    subst e
    rw [pw_uniq h2 h4 (fun p => ?_)]
    constructor
    · intro hp
      rcases List.mem_cons.1 ((h p).1 (List.mem_cons_of_mem _ hp)) with e | e
      · subst e; exact absurd (h1 _ hp) (cmpL_irr _)
      · exact e
    · intro hp
      rcases List.mem_cons.1 ((h p).2 (List.mem_cons_of_mem _ hp)) with e | e
      · subst e; exact absurd (h3 _ hp) (cmpL_irr _)
      · exact e
theorem ris_key {ps : List P} (h : ris ps = true) {p q : P} (hp : p ∈ ps) (hq : q ∈ ps) (e : p.1 = q.1) : p = q := by
  obtain ⟨i, hi⟩ := List.mem_iff_getElem?.1 hp
  obtain ⟨j, hj⟩ := List.mem_iff_getElem?.1 hq
  rcases Nat.lt_trichotomy i j with l | l | l
  · have := ris_pair h hi hj l; rw [e] at this; exact absurd this (cmpL_irr _)
  · subst l; exact Option.some.inj (hi.symm.trans hj)
  · have := ris_pair h hj hi l; rw [e] at this; exact absurd this (cmpL_irr _)

/-- The first pair with a key. -/
def fk (ps : List P) (k : List UInt8) : Option P := ps.find? (fun q => decide (q.1 = k))
theorem fk_some {ps : List P} {k : List UInt8} {p : P} (h : fk ps k = some p) : p ∈ ps ∧ p.1 = k := by
  have h1 := List.find?_some h
  exact ⟨List.mem_of_find?_eq_some h, by simpa using h1⟩
theorem fk_none {ps : List P} {k : List UInt8} (h : fk ps k = none) {p : P} (hp : p ∈ ps) : p.1 ≠ k := by
  have := List.find?_eq_none.1 h p hp
  simpa using this
theorem fk_ris {ps : List P} (h : ris ps = true) {p : P} (hp : p ∈ ps) : fk ps p.1 = some p := by
  cases e : fk ps p.1 with
  | none => exact absurd rfl (fk_none e hp)
  | some q => obtain ⟨h1, h2⟩ := fk_some e; rw [ris_key h h1 hp h2]
theorem fk_app (a b : List P) (k : List UInt8) : fk (a ++ b) k = (fk a k).or (fk b k) := by unfold fk; rw [List.find?_append]

/-- The pair that the first table with the key has. -/
def fstT (Ts : List (List P)) (k : List UInt8) : Option P := fk Ts.flatten k
/-- These pairs are what the tables make. -/
def IsMg (Ts : List (List P)) (out : List P) : Prop := ris out = true ∧ ∀ p, p ∈ out ↔ fstT Ts p.1 = some p
theorem IsMg.uniq {Ts Us : List (List P)} {a b : List P} (ha : IsMg Ts a) (hb : IsMg Us b) (h : ∀ k, fstT Ts k = fstT Us k) : a = b :=
  pw_uniq (ris_pw ha.1) (ris_pw hb.1) (fun p => by rw [ha.2, hb.2, h])
theorem IsMg.fk {Ts : List (List P)} {a : List P} (h : IsMg Ts a) (k : List UInt8) : fk a k = fstT Ts k := by
  cases e : fstT Ts k with
  | none =>
    cases e2 : M.fk a k with
    | none => rfl
    | some q =>
      obtain ⟨h1, h2⟩ := fk_some e2
      have := (h.2 q).1 h1
      rw [h2, e] at this
      cases this
  | some p =>
    have hp := fk_some e
    have : p ∈ a := (h.2 p).2 (by rw [hp.2]; exact e)
    have := fk_ris h.1 this
    rwa [hp.2] at this

/-- A pair in its place, unless its key is there. -/
def ins (l : List P) (p : P) : List P := if isK l p.1 then l else l.take (plK l p.1) ++ p :: l.drop (plK l p.1)
theorem isK_iff {l : List P} (h : ris l = true) (k : List UInt8) : isK l k = true ↔ ∃ p ∈ l, p.1 = k := by
  constructor
  · intro hi
    unfold isK at hi
    split at hi
    · rename_i x e
      exact ⟨x, List.mem_of_getElem? e, cmpL_zero (by simpa using hi)⟩
    · cases hi
  · rintro ⟨p, hp, rfl⟩
    obtain ⟨i, hi⟩ := List.mem_iff_getElem?.1 hp
    have e : plK l p.1 = i := plK_eq (fun j x hj hx => ris_pair h hx hi hj) (fun x hx => by
      rw [hi] at hx
      obtain rfl := Option.some.inj hx
      exact cmpL_irr _) (by have := (List.getElem?_eq_some_iff.1 hi).1; omega)
    unfold isK
    rw [e, hi]
    simp [cmpL_self]
theorem ins_mem {l : List P} (h : ris l = true) (p q : P) : q ∈ ins l p ↔ q ∈ l ∨ (isK l p.1 = false ∧ q = p) := by
  unfold ins
  split
  · rename_i e; simp [e]
  · rename_i e
    have e' : isK l p.1 = false := by simpa using e
    rw [List.mem_append, List.mem_cons]
    constructor
    · rintro (q1 | q1 | q1)
      · exact .inl (List.mem_of_mem_take q1)
      · exact .inr ⟨e', q1⟩
      · exact .inl (List.mem_of_mem_drop q1)
    · rintro (q1 | q1)
      · rw [← List.take_append_drop (plK l p.1) l, List.mem_append] at q1
        rcases q1 with q1 | q1
        · exact .inl q1
        · exact .inr (.inr q1)
      · exact .inr (.inl q1.2)
theorem ins_ris {l : List P} (h : ris l = true) (p : P) : ris (ins l p) = true := by
  unfold ins
  split
  · exact h
  · rename_i hk
    have hpw := ris_pw h
    have hsp : l.take (plK l p.1) ++ l.drop (plK l p.1) = l := List.take_append_drop _ _
    have hpw2 := hpw
    rw [← hsp] at hpw2
    obtain ⟨h1, h2, h3⟩ := List.pairwise_append.1 hpw2
    have hlo : ∀ x ∈ l.take (plK l p.1), cmpL x.1 p.1 < 0 := fun x hx => by
      obtain ⟨i, hi⟩ := List.mem_iff_getElem?.1 hx
      rw [List.getElem?_take] at hi
      split at hi
      · rename_i hl; exact plK_lt hl hi
      · cases hi
    have hhi : ∀ x ∈ l.drop (plK l p.1), cmpL p.1 x.1 < 0 := fun x hx => by
      obtain ⟨i, hi⟩ := List.mem_iff_getElem?.1 hx
      rw [List.getElem?_drop] at hi
      have hge := plK_all h (Nat.le_add_right _ _) hi
      have hs := cmpL_swap p.1 x.1
      have hne : cmpL x.1 p.1 ≠ 0 := fun e => hk ((isK_iff h p.1).2 ⟨x, List.mem_of_mem_drop hx, cmpL_zero e⟩)
      omega
    refine pw_ris (List.pairwise_append.2 ⟨h1, List.pairwise_cons.2 ⟨hhi, h2⟩, fun a ha b hb => ?_⟩)
    rcases List.mem_cons.1 hb with e | e
    · subst e; exact hlo a ha
    · exact h3 a ha b e

/-- What the document makes of pairs one behind the other. -/
def mgF (xs : List P) : List P := xs.foldl ins []
theorem mgF_snoc (xs : List P) (p : P) : mgF (xs ++ [p]) = ins (mgF xs) p := by unfold mgF; rw [List.foldl_append]; rfl
theorem fold_ins (xs : List P) : ∀ (dn acc : List P), ris acc = true → (∀ p, p ∈ acc ↔ fk dn p.1 = some p) → ris (xs.foldl ins acc) = true ∧ ∀ p, p ∈ xs.foldl ins acc ↔ fk (dn ++ xs) p.1 = some p := by
  induction xs with
  | nil => intro dn acc h1 h2; rw [List.append_nil]; exact ⟨h1, h2⟩
  | cons x r ih =>
    intro dn acc h1 h2
    have := ih (dn ++ [x]) (ins acc x) (ins_ris h1 x) (fun p => ?_)
    · rw [List.append_assoc] at this
      simpa using this
    · rw [ins_mem h1, h2 p, fk_app]
      have hk : isK acc x.1 = false ↔ fk dn x.1 = none := by
        constructor
        · intro hi
          cases e : fk dn x.1 with
          | none => rfl
          | some q =>
            have hq := fk_some e
            have : q ∈ acc := (h2 q).2 (by rw [hq.2]; exact e)
            have := (isK_iff h1 x.1).2 ⟨q, this, hq.2⟩
            rw [hi] at this; cases this
        · intro hn
          cases e : isK acc x.1 with
          | false => rfl
          | true =>
            obtain ⟨q, hq, hqe⟩ := (isK_iff h1 x.1).1 e
            have := (h2 q).1 hq
            rw [hqe, hn] at this; cases this
      rw [hk]
      cases e : fk dn p.1 with
      | some q =>
        simp only [Option.some_or]
        constructor
        · rintro (h | ⟨h, rfl⟩)
          · exact h
          · rw [e] at h; cases h
        · exact .inl
      | none =>
        simp only [Option.none_or, fk, List.find?_singleton]
        constructor
        · rintro (h | ⟨h, rfl⟩)
          · cases h
          · simp
        · intro h
          split at h
          · have := Option.some.inj h
            subst this
            exact .inr ⟨e, rfl⟩
          · cases h
theorem mgF_is (Ts : List (List P)) : IsMg Ts (mgF Ts.flatten) := by
  have := fold_ins Ts.flatten [] [] rfl (fun p => by simp [fk])
  simpa [IsMg, fstT, mgF] using this
/-- A list that is merged with what others make. -/
theorem mg_nest (T : List P) (Ts : List (List P)) {out : List P} (h : IsMg Ts out) (k : List UInt8) : fstT [T, out] k = fstT (T :: Ts) k := by
  unfold fstT
  simp only [List.flatten_cons, List.flatten_nil, List.append_nil]
  rw [fk_app, fk_app, h.fk]; rfl
theorem mg_skip (Ts : List (List P)) (k : List UInt8) : fstT ([] :: Ts) k = fstT Ts k := rfl

/-- What is left of a table, and its place among the tables. -/
abbrev Ru := List P × Nat
def rk (r : Ru) : List UInt8 := (r.1.headD ([], [], false)).1
/-- Does a stand ahead of b? -/
def rlt (a b : Ru) : Bool := decide (cmpL (rk a) (rk b) < 0 ∨ cmpL (rk a) (rk b) = 0 ∧ a.2 < b.2)
theorem rlt_no {a b : Ru} : rlt a b = false ↔ cmpL (rk b) (rk a) < 0 ∨ cmpL (rk b) (rk a) = 0 ∧ b.2 ≤ a.2 := by
  unfold rlt
  have := cmpL_swap (rk a) (rk b)
  rw [decide_eq_false_iff_not]
  omega
theorem rlt_trans (a b c : Ru) (h1 : rlt b a = false) (h2 : rlt c b = false) : rlt c a = false := by
  rw [rlt_no] at *
  rcases h1 with h1 | ⟨h1, h1'⟩
  · rcases h2 with h2 | ⟨h2, h2'⟩
    · exact .inl (cmpL_trans h1 h2)
    · rw [← cmpL_zero h2]; exact .inl h1
  · rw [cmpL_zero h1]
    rcases h2 with h2 | ⟨h2, h2'⟩
    · exact .inl h2
    · exact .inr ⟨h2, by omega⟩
theorem rlt_asym (a b : Ru) (h : rlt a b = true) : rlt b a = false := by
  rw [rlt_no]
  unfold rlt at h
  have := of_decide_eq_true h
  omega

/-- Where merging stands: what is left of the tables, and what was told. -/
structure MInv (Ts : List (List P)) (H : List Ru) (out : List P) : Prop where
  left : ∀ r ∈ H, r.1 ≠ [] ∧ ∃ d, Ts[r.2]? = some (d ++ r.1)
  cov : ∀ i T p, Ts[i]? = some T → p ∈ T → (∃ q ∈ out, q.1 = p.1) ∨ ∃ r ∈ H, r.2 = i ∧ p ∈ r.1
  rise : ris out = true
  above : ∀ p ∈ out, ∀ r ∈ H, ∀ q ∈ r.1, cmpL p.1 q.1 ≤ 0
  fst : ∀ p ∈ out, fstT Ts p.1 = some p

theorem fstT_at {Ts : List (List P)} {i : Nat} {T : List P} {p : P} (hT : Ts[i]? = some T) (hp : fk T p.1 = some p) (hno : ∀ j U q, j < i → Ts[j]? = some U → q ∈ U → q.1 ≠ p.1) : fstT Ts p.1 = some p := by
  induction Ts generalizing i with
  | nil => simp at hT
  | cons U r ih =>
    unfold fstT
    rw [List.flatten_cons, fk_app]
    cases i with
    | zero => simp at hT; subst hT; rw [hp]; rfl
    | succ i =>
      have h0 : fk U p.1 = none := by
        cases e : fk U p.1 with
        | none => rfl
        | some q => obtain ⟨h1, h2⟩ := fk_some e; exact absurd h2 (hno 0 U q (by omega) rfl h1)
      rw [h0, Option.none_or]
      exact ih (i := i) (by simpa using hT) (fun j V q hj hV hq => hno (j + 1) V q (by omega) (by simpa using hV) hq)
theorem fstT_mem {Ts : List (List P)} {k : List UInt8} {p : P} (h : fstT Ts k = some p) : ∃ (i : Nat) (T : List P), Ts[i]? = some T ∧ p ∈ T ∧ p.1 = k := by
  obtain ⟨h1, h2⟩ := fk_some h
  obtain ⟨T, hT, hp⟩ := List.mem_flatten.1 h1
  obtain ⟨i, hi⟩ := List.mem_iff_getElem?.1 hT
  exact ⟨i, T, hi, hp, h2⟩
theorem MInv.done {Ts : List (List P)} {out : List P} (h : MInv Ts [] out) : IsMg Ts out := by
  refine ⟨h.rise, fun p => ⟨h.fst p, fun hp => ?_⟩⟩
  obtain ⟨i, T, hT, hm, _⟩ := fstT_mem hp
  rcases h.cov i T p hT hm with ⟨q, hq, e⟩ | ⟨r, hr, _⟩
  · have := h.fst q hq
    rw [e, hp] at this
    rw [Option.some.inj this]; exact hq
  · cases hr

/-- The last pair that was told. -/
def lastK (out : List P) : Option (List UInt8) := out.getLast?.map (·.1)
theorem last_max {out : List P} (h : ris out = true) {p : P} (hp : p ∈ out) {q : P} (hq : out.getLast? = some q) : cmpL p.1 q.1 ≤ 0 := by
  obtain ⟨i, hi⟩ := List.mem_iff_getElem?.1 hp
  rw [List.getLast?_eq_getElem?] at hq
  have hl := (List.getElem?_eq_some_iff.1 hi).1
  rcases Nat.lt_or_ge i (out.length - 1) with l | l
  · have := ris_pair h hi hq l; omega
  · obtain rfl : i = out.length - 1 := by omega
    rw [hi] at hq
    rw [Option.some.inj hq, cmpL_self]; omega

/-- The least run's first pair is done with. H: all runs; R: the others; N: what they are behind it. -/
theorem MInv.step {Ts : List (List P)} {H N : List Ru} {out : List P} {p : P} {l : List P} {i : Nat} (h : MInv Ts H out) (hTs : ∀ T ∈ Ts, ris T = true) (hm : (p :: l, i) ∈ H) (hmin : ∀ r ∈ H, rlt r (p :: l, i) = false)
    (hN1 : ∀ r ∈ N, r ∈ H ∨ (l ≠ [] ∧ r = (l, i))) (hN2 : ∀ r ∈ H, r ≠ (p :: l, i) → r ∈ N) (hN3 : l ≠ [] → (l, i) ∈ N) :
    (∀ q, out.getLast? = some q → q.1 = p.1 → MInv Ts N out) ∧ ((∀ q, out.getLast? = some q → q.1 ≠ p.1) → MInv Ts N (out ++ [p])) := by
  obtain ⟨_, d, hd⟩ := h.left _ hm
  simp only at hd
  have hTr := hTs _ (List.mem_of_getElem? hd)
  have hpw := ris_pw hTr
  have hpl : ∀ q ∈ l, cmpL p.1 q.1 < 0 := (List.pairwise_cons.1 (List.pairwise_append.1 hpw).2.1).1
  have hpT : p ∈ d ++ p :: l := by simp
  -- what is left is not below p
  have hge : ∀ r ∈ H, ∀ q ∈ r.1, cmpL p.1 q.1 ≤ 0 := fun r hr q hq => by
    obtain ⟨hne, d2, hd2⟩ := h.left r hr
    have h0 := rlt_no.1 (hmin r hr)
    obtain ⟨a, s⟩ := r
    cases a with
    | nil => exact absurd rfl hne
    | cons x a =>
      have e1 : rk (p :: l, i) = p.1 := rfl
      have e2 : rk (x :: a, s) = x.1 := rfl
      rw [e1, e2] at h0
      have hx : cmpL p.1 x.1 ≤ 0 := by omega
      rcases List.mem_cons.1 hq with e | e
      · rw [e]; exact hx
      · have hpw2 := ris_pw (hTs _ (List.mem_of_getElem? hd2))
        have := (List.pairwise_cons.1 (List.pairwise_append.1 hpw2).2.1).1 q e
        have := cmpL_le_lt hx this
        omega
  have hleft : ∀ r ∈ N, r.1 ≠ [] ∧ ∃ d, Ts[r.2]? = some (d ++ r.1) := fun r hr => by
    rcases hN1 r hr with q | ⟨q1, q2⟩
    · exact h.left r q
    · subst q2; exact ⟨q1, d ++ [p], by simpa using hd⟩
  have hgeN : ∀ r ∈ N, ∀ q ∈ r.1, cmpL p.1 q.1 ≤ 0 := fun r hr q hq => by
    rcases hN1 r hr with q1 | ⟨q1, q2⟩
    · exact hge r q1 q hq
    · subst q2; have := hpl q hq; omega
  have habove : ∀ x ∈ out, ∀ r ∈ N, ∀ q ∈ r.1, cmpL x.1 q.1 ≤ 0 := fun x hx r hr q hq => by
    have h1 := h.above x hx _ hm p (by simp)
    have h2 := hgeN r hr q hq
    by_cases e : cmpL p.1 q.1 = 0
    · rw [← cmpL_zero e]; exact h1
    · have := cmpL_le_lt h1 (show cmpL p.1 q.1 < 0 by omega); omega
  have hcov : ∀ (O : List P), (∀ q ∈ out, q ∈ O) → (∃ q ∈ O, q.1 = p.1) → ∀ j T x, Ts[j]? = some T → x ∈ T → (∃ q ∈ O, q.1 = x.1) ∨ ∃ r ∈ N, r.2 = j ∧ x ∈ r.1 := fun O hO hpO j T x hT hx => by
    rcases h.cov j T x hT hx with ⟨q, hq, e⟩ | ⟨r, hr, e, hxr⟩
    · exact .inl ⟨q, hO q hq, e⟩
    · by_cases er : r = (p :: l, i)
      · subst er
        rcases List.mem_cons.1 hxr with e2 | e2
        · obtain ⟨q, hq, e3⟩ := hpO; exact .inl ⟨q, hq, by rw [e3, e2]⟩
        · exact .inr ⟨(l, i), hN3 (List.ne_nil_of_mem e2), e, e2⟩
      · exact .inr ⟨r, hN2 r hr er, e, hxr⟩
  constructor
  · intro q hq e
    exact ⟨hleft, hcov out (fun _ h => h) ⟨q, List.mem_of_getLast? hq, e⟩, h.rise, habove, h.fst⟩
  · intro hno
    -- p is above all that was told
    have hab : ∀ x ∈ out, cmpL x.1 p.1 < 0 := fun x hx => by
      have h1 := h.above x hx _ hm p (by simp)
      have hne : out ≠ [] := List.ne_nil_of_mem hx
      obtain ⟨q, hq⟩ : ∃ q, out.getLast? = some q := ⟨_, List.getLast?_eq_some_getLast hne⟩
      have h2 := h.above q (List.mem_of_getLast? hq) _ hm p (by simp)
      have h3 : cmpL q.1 p.1 ≠ 0 := fun e => hno q hq (cmpL_zero e)
      have h4 := last_max h.rise hx hq
      exact cmpL_le_lt h4 (by omega)
    refine ⟨hleft, hcov (out ++ [p]) (fun q h => by simp [h]) ⟨p, by simp, rfl⟩, ?_, ?_, ?_⟩
    · refine pw_ris (List.pairwise_append.2 ⟨ris_pw h.rise, by simp, fun a ha b hb => ?_⟩)
      obtain rfl := List.mem_singleton.1 hb
      exact hab a ha
    · intro x hx r hr q hq
      rcases List.mem_append.1 hx with e | e
      · exact habove x e r hr q hq
      · obtain rfl := List.mem_singleton.1 e
        exact hgeN r hr q hq
    · intro x hx
      rcases List.mem_append.1 hx with e | e
      · exact h.fst x e
      · obtain rfl := List.mem_singleton.1 e
        refine fstT_at hd (fk_ris hTr hpT) (fun j U q hj hU hq eq => ?_)
        rcases h.cov j U q hU hq with ⟨y, hy, e2⟩ | ⟨r, hr, e2, hqr⟩
        · have := hab y hy
          rw [e2, eq] at this
          exact absurd this (cmpL_irr _)
        · have h0 := rlt_no.1 (hmin r hr)
          obtain ⟨hne, d2, hd2⟩ := h.left r hr
          obtain ⟨a, s⟩ := r
          simp only at e2 hqr
          subst e2
          cases a with
          | nil => cases hqr
          | cons y a =>
            have e1 : rk (x :: l, i) = x.1 := rfl
            have e2 : rk (y :: a, s) = y.1 := rfl
            rw [e1, e2] at h0
            rcases List.mem_cons.1 hqr with e4 | e4
            · subst e4
              rw [eq, cmpL_self] at h0
              omega
            · have hpw2 := ris_pw (hTs _ (List.mem_of_getElem? hd2))
              have h5 := (List.pairwise_cons.1 (List.pairwise_append.1 hpw2).2.1).1 q e4
              rw [eq] at h5
              have := cmpL_swap x.1 y.1
              omega
end Go.Proofs.Ytdaedglfefkeoaa.M
