import Derived.Test.YtdnahdogohdmjaaW7
namespace Go.Proofs.Ytdnahdogohdmjaa
open Go.RowKit
set_option maxRecDepth 100000

/-- Each number is one of 64 bits. -/
def Small (d : List Nat) : Prop := ∀ i, nth d i < 18446744073709551616
theorem Small.mix {a b : Nat} {d e : List Nat} (h : Small d) (m : Mix a b d e) : Small e := fun i => by
  by_cases hi : a ≤ i ∧ i < b
  · obtain ⟨k, _, _, e⟩ := m.ins i hi.1 hi.2
    rw [e]; exact h k
  · rw [m.out i (by omega)]; exact h i
/-- The comparison handed over. -/
abbrev fV : Value := .func (.func 16) #[] #[]
theorem cmp_at {e : List Nat} (hs : Small e) (p q : Nat) (Z : Int) (hz : Z = cmpN (ky e p) (ky e q)) (w : World) : Calls Try.prog 16 #[.float .f64 (nth e p), .float .f64 (nth e q)] w fun r w' => r = .returned (.int .i64 Z) ∧ w' = w :=
  (Cmp_any _ _ (hs p) (hs q) w).mono fun _ _ h => ⟨by rw [hz]; exact h.1, h.2.symm⟩
theorem cmpN_neg {x y : Nat} : cmpN x y < 0 ↔ x < y := by unfold cmpN; split; (· omega); split <;> omega

attribute [local go_sem] run_store_float m_neg m_lt m_gt m_eq m_ne x_bits x_from eq_self_ Bool.not_not
set_option maxHeartbeats 1000000 in
theorem insertion_any (g : Nat) (sp : List Value) (d : List Nat) (c a b : Nat) (w : World) (h : Row g sp w w d) (hs : Small d) (hl : d.length < 1099511627776) (hab : a ≤ b) (hb : b ≤ d.length) :
    Calls Try.prog 39 #[.slice (some ⟨g, 0, none⟩) d.length c, .int .i64 a, .int .i64 b, fV] w fun e w' => e = .returned (.tuple #[]) ∧ ∃ d', Mix a b d d' ∧ Srt d' a b ∧ Row g sp w w' d' := by
  obtain ⟨n, hn⟩ : ∃ n, n = d.length := ⟨_, rfl⟩
  rw [← hn] at hl hb ⊢
  have i1 : IntKind.i64.wrap ((a : Int) + 1) = (a : Int) + 1 := IntWalk.i64_in _ (by omega)
  replace h := hide h; replace hn := hide hn; replace hs := hide hs
  go_enter Try.func39, Try.ntmps39
  go_wp2_with (fail)
  go_loopw [8] (fun i wr => ∃ (k : Nat) (e : List Nat), a + 1 ≤ k ∧ (k ≤ b ∨ k = a + 1) ∧ i = .int .i64 k ∧ Hid (Mix a b d e) ∧ Hid (Srt e a k) ∧ Hid (Row g sp w wr e)) (fun i _ => b - (intOf i).toNat)
  case atStart => exact ⟨a + 1, d, by omega, .inr rfl, by go_num, hide (Mix.refl a b d), hide (Srt.short d (by omega)), h⟩
  case round =>
    clear i1
    obtain ⟨k, e, hk, hk2, rfl, hm, hss, hr⟩ := hrel
    by_cases hlt : k < b
    · go_wp2_with (fail)
      go_loopw [9] (fun j wx => ∃ (x : Nat) (e : List Nat), a ≤ x ∧ x ≤ k ∧ j = .int .i64 x ∧ Hid (Mix a b d e) ∧ Hid (Ins a k x e) ∧ Hid (Row g sp w wx e)) (fun j _ => (intOf j).toNat)
      case atStart => exact ⟨k, e, by omega, Nat.le_refl _, rfl, hm, hide (Ins.start (unhide hss)), hr⟩
      case round =>
        clear hm hss hr
        obtain ⟨x, e, hx, hx2, rfl, hm, hi, hr⟩ := hrel
        have hsm : Small e := (unhide hs).mix (unhide hm)
        have hel : e.length = n := (unhide hm).len.trans (unhide hn).symm
        have hend : ∀ (wz : World), wz = wr.drewN 0 → True := fun _ _ => trivial
        clear hend
        by_cases hxa : a < x
        · have c1 := (unhide hr).cell (i := x) (by omega)
          have c2 := (unhide hr).cell (i := x - 1) (by omega)
          have f1 := (unhide hr).frozen x
          have f2 := (unhide hr).frozen (x - 1)
          obtain ⟨Z, hZ⟩ : ∃ Z, Z = cmpN (ky e x) (ky e (x - 1)) := ⟨_, rfl⟩
          have hC := fun W => cmp_at hsm x (x - 1) Z hZ W
          have hZ2 : Z < 0 ↔ ky e x < ky e (x - 1) := by rw [hZ]; exact cmpN_neg
          have i2 : IntKind.i64.wrap ((x : Int) - 1) = (x : Int) - 1 := IntWalk.i64_in _ (by omega)
          have hg : decide ((a : Int) < (x : Int)) = true := decide_eq_true (by omega)
          have b1 : x < n := by omega
          have b2 : x - 1 < n := by omega
          obtain ⟨e1, he1⟩ : ∃ e1, nth e x = e1 := ⟨_, rfl⟩
          obtain ⟨e2, he2⟩ : ∃ e2, nth e (x - 1) = e2 := ⟨_, rfl⟩
          rw [he1] at c1 hC
          rw [he2] at c2 hC
          replace he1 := hide he1; replace he2 := hide he2
          replace hC := hide hC; replace hZ2 := hide hZ2; replace hsm := hide hsm; replace hel := hide hel
          clear hZ
          go_upto_region 4 with (fail)
          go_quiet ((go_at_call 16; refine Calls.quiet_of_same (unhide hC _)))
          have r2 := hide ((unhide hr).drewN nq)
          have c1' : (wr.drewN nq).cell? ⟨g, x, none⟩ = some (.float .f64 e1) := c1
          have c2' : (wr.drewN nq).cell? ⟨g, x - 1, none⟩ = some (.float .f64 e2) := c2
          have f1' : (wr.drewN nq).frozen? ⟨g, x, none⟩ = false := f1
          have f2' : (wr.drewN nq).frozen? ⟨g, x - 1, none⟩ = false := f2
          clear c1 c2 f1 f2 hr
          generalize wr.drewN nq = w1 at *
          by_cases hz : Z < 0
          · have hz2 := (unhide hZ2).1 hz
            have hd : decide (Z < 0) = true := decide_eq_true hz
            replace hz2 := hide hz2
            have hne : ¬ x = x - 1 := by omega
            have hne' : ¬ x - 1 = x := by omega
            go_wp2_with (fail)
            go_region
            all_goals
              have hr3 := hide (((unhide r2).drew).swap (i := x) (j := x - 1) (by have := unhide hel; omega) (by have := unhide hel; omega))
              rw [unhide he1, unhide he2] at hr3
              have hm3 := hide ((unhide hm).trans (Mix.swp (a := a) (b := b) (i := x) (j := x - 1) (by have := unhide hel; omega) (by have := unhide hel; omega) (by omega) (by omega) (by omega) (by omega)))
              have hi3 := hide ((unhide hi).step (by omega) hx2 (by have := unhide hel; omega) (unhide hz2))
              go_wp2
              go_roundw
              case rel => exact ⟨x - 1, _, by omega, by omega, by go_num, hm3, hi3, hr3⟩
              case measure => simp [intOf]; omega
          · have hd : decide (Z < 0) = false := decide_eq_false hz
            have hs3 := hide ((unhide hi).done hx2 hx (.inr (Nat.not_lt.1 fun h => hz ((unhide hZ2).2 h))))
            go_wp2
            go_roundw
            case rel => exact ⟨k + 1, e, by omega, by omega, by go_num, hm, hs3, r2⟩
            case measure => simp [intOf]; omega
        · obtain rfl : x = a := by omega
          have hg : decide ((x : Int) < (x : Int)) = false := decide_eq_false (by omega)
          go_upto_region 4 with (fail)
          go_quiet (fail)
          have hs3 := hide ((unhide hi).done hx2 (Nat.le_refl _) (.inl rfl))
          have r2 := hide ((unhide hr).drewN nq)
          clear hr
          generalize wr.drewN nq = w1 at *
          go_wp2
          go_roundw
          case rel => exact ⟨k + 1, e, by omega, by omega, by go_num, hm, hs3, r2⟩
          case measure => simp [intOf]; omega
    · go_wp2
      go_end0
      exact ⟨rfl, e, unhide hm, (unhide hss).sub (Nat.le_refl _) (by omega), unhide hr⟩
end Go.Proofs.Ytdnahdogohdmjaa
