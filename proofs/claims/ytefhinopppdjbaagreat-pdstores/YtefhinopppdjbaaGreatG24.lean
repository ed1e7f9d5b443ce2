/- expire, raise. -/
import Derived.Test.YtefhinopppdjbaaGreatG14
import Derived.Test.YtefhinopppdjbaaGreatG23
namespace Go.Proofs.YtefhinopppdjbaaGreat
open Go.RowKit
set_option linter.unusedVariables false
set_option linter.unusedSimpArgs false
set_option maxRecDepth 100000

/-- How many lie in the driver's row. -/
def evN (p : Nat) (w : World) : Nat := match w.cell? ⟨p, 6, none⟩ with
  | some (.slice _ n _) => n
  | _ => 0
section
variable {B p : Nat} {d : DC} {w w' : World} {H : List EN}
theorem Rg.evN (h : Rg B p d w H) : evN p w = H.length := by
  have := h.vx.1
  unfold Go.Proofs.YtefhinopppdjbaaGreat.evN
  rw [this]
  exact h.len
/-- Those that stay. -/
def stayE (C : Nat) (H : List EN) : List EN := H.filter (fun e => decide (C ≤ e.2.toNat))
theorem stay_of {C : Nat} {H G gone : List EN} (hp : (G ++ gone).Perm H) (hg : ∀ x ∈ gone, x.2.toNat < C) (hs : ∀ x ∈ G, C ≤ x.2.toNat) : G.Perm (stayE C H) := by
  have h1 := hp.filter (fun e => decide (C ≤ e.2.toNat))
  rw [List.filter_append] at h1
  have e1 : G.filter (fun e => decide (C ≤ e.2.toNat)) = G := List.filter_eq_self.2 (fun x hx => by simpa using hs x hx)
  have e2 : gone.filter (fun e => decide (C ≤ e.2.toNat)) = [] := List.filter_eq_nil_iff.2 (fun x hx => by have := hg x hx; simp; omega)
  rw [e1, e2, List.append_nil] at h1
  exact h1
set_option maxHeartbeats 2000000 in
theorem expire_any (h : Rg B p d w H) (hH : M.Hp elt H H.length) (hl : H.length ≤ 1099511627776) :
    Calls Tryz.prog 32 #[.pointer (some ⟨p, 0, none⟩)] w fun e w' => (∃ u, e = .returned u) ∧ ∃ x H', Tu B p d w w' x H' ∧ H'.Perm (stayE d.c H) := by
  go_enter Tryz.func32, Tryz.ntmps32
  go_wp2_with fail
  go_loopw [21] (fun _ wr => ∃ x G, Tu B p d w wr x G ∧ Hid (∃ gone, (G ++ gone).Perm H ∧ ∀ y ∈ gone, y.2.toNat < d.c)) (fun _ wr => evN p wr)
  case atStart => exact ⟨d.ev, H, ⟨h, hH, Chg.refl _ _, .inl rfl⟩, [], by simp, fun y hy => by cases hy⟩
  case round =>
    obtain ⟨x, G, hT, HG⟩ := hrel
    have hr := hT.rg
    have hlG : G.length ≤ H.length := by
      obtain ⟨gone, q, _⟩ := HG.out
      have := q.length_eq
      simp at this; omega
    have p2 : wr.cell? ⟨p, 2, none⟩ = some (.int .u64 (d.c : Int)) := hr.drv.at_ rfl
    have p6 : wr.cell? ⟨p, 6, none⟩ = some (.slice x.1 x.2.1 x.2.2) := hr.drv.at_ rfl
    have hxl : x.2.1 = G.length := hr.len
    rw [hxl] at p6
    by_cases hg0 : 0 < G.length
    · obtain ⟨e, he⟩ : ∃ e, G[0]? = some e := ⟨_, List.getElem?_eq_getElem hg0⟩
      obtain ⟨g, c, hd, h1, h2, hi, a0, a1, fr⟩ := hr.at_ he
      have hd' : x = (some ⟨g, 0, none⟩, G.length, c) := hd
      have hd1 : x.1 = some ⟨g, 0, none⟩ := by rw [hd']
      rw [hd1] at p6
      have hgi : (G.length : Int) > 0 := by omega
      have hgi2 : (0 : Int) < (G.length : Int) := by omega
      have hmin : ∀ y ∈ G, e.2.toNat ≤ y.2.toNat := fun y hy => by
        obtain ⟨k, hk⟩ := List.mem_iff_getElem?.1 hy
        have := hT.hp.min elt_tr elt_irr he k y (List.getElem?_eq_some_iff.1 hk).1 hk
        rw [elt_no] at this
        omega
      have hevw := hr.evN
      by_cases hcl : e.2.toNat < d.c
      · have hci : (e.2.toNat : Int) < (d.c : Int) := by omega
        have hpop := fun n => hpop_any (hr.drewN n) hT.hp hg0 (by omega)
        have HQ : Hid (∀ n x' H' w1, Tu B p { d with ev := x } (wr.drewN n) w1 x' H' → H'.Perm G.tail → (∃ x G, Tu B p d w w1 x G ∧ Hid (∃ gone, (G ++ gone).Perm H ∧ ∀ y ∈ gone, y.2.toNat < d.c)) ∧ evN p w1 < evN p wr) := fun n x' H' w1 q1 q2 => by
          refine ⟨⟨x', H', ⟨q1.rg, q1.hp, ?_, ?_⟩, ?_⟩, ?_⟩
          · exact (hT.ch.trans (chg_dN _ wr n)).trans (q1.ch.mono (fun b _ q => rgs_mono hT.bl q))
          · have hsz : w.heap.size ≤ wr.heap.size := hT.ch.size
            rcases q1.bl with r | ⟨b, r1, r2⟩
            · have r' : (sv x').ownBlock = (sv x).ownBlock := r
              rw [r']; exact hT.bl
            · exact .inr ⟨b, r1, Nat.le_trans hsz r2⟩
          · obtain ⟨gone, r1, r2⟩ := HG.out
            refine ⟨e :: gone, ?_, fun y hy => ?_⟩
            · have hG : G = e :: G.tail := by
                cases G with
                | nil => simp at hg0
                | cons a t => simp at he; subst he; rfl
              refine List.Perm.trans ?_ r1
              conv => rhs; rw [hG]
              have : (H' ++ e :: gone).Perm (G.tail ++ e :: gone) := List.Perm.append_right _ q2
              exact this.trans List.perm_middle
            · rcases List.mem_cons.1 hy with rfl | hy
              · exact hcl
              · exact r2 y hy
          · rw [q1.rg.evN, hevw, q2.length_eq, List.length_tail]; omega
        clear hr hd hd' hd1 he hxl hmin hevw HG hcl hT h hH
        obtain ⟨e1, e2⟩ := e
        simp only [] at *
        go_wp2_with fail
        go_quiet (fail)
        go_wp2_with fail
        refine (hpop _).mono ?_
        rintro r w1 ⟨⟨u, rfl⟩, x', H', q1, q2⟩
        have hQ := HQ.out _ _ _ _ q1 q2
        have HQ2 : Hid _ := hQ
        clear hQ HQ q1 q2 hpop
        go_wp2_with fail
        exact HQ2.out
      · have hci : ¬ (e.2.toNat : Int) < (d.c : Int) := by omega
        have HF : Hid (∀ n, ∃ x H', Tu B p d w (wr.drewN n) x H' ∧ H'.Perm (stayE d.c H)) := fun n => by
          obtain ⟨gone, r1, r2⟩ := HG.out
          exact ⟨x, G, ⟨hT.rg.drewN n, hT.hp, hT.ch.trans (chg_dN _ wr n), hT.bl⟩, stay_of r1 r2 (fun y hy => by have := hmin y hy; omega)⟩
        clear hr hd hd' hd1 he hxl hmin hevw HG hcl hT h hH
        obtain ⟨e1, e2⟩ := e
        simp only [] at *
        go_wp2_with fail
        go_quiet (fail)
        go_wp2_with fail
        go_end0
        exact ⟨⟨_, rfl⟩, HF.out _⟩
    · have hgi : ¬ (G.length : Int) > 0 := by omega
      have HF : Hid (∀ n, ∃ x H', Tu B p d w (wr.drewN n) x H' ∧ H'.Perm (stayE d.c H)) := fun n => by
        obtain ⟨gone, r1, r2⟩ := HG.out
        have : G = [] := List.eq_nil_of_length_eq_zero (by omega)
        exact ⟨x, G, ⟨hT.rg.drewN n, hT.hp, hT.ch.trans (chg_dN _ wr n), hT.bl⟩, stay_of r1 r2 (fun y hy => by rw [this] at hy; cases hy)⟩
      clear hr hxl HG hT h hH
      go_wp2_with fail
      go_quiet (fail)
      go_wp2_with fail
      go_end0
      exact ⟨⟨_, rfl⟩, HF.out _⟩
end
end Go.Proofs.YtefhinopppdjbaaGreat
