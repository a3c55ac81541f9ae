import Derived.Test.YtiobhglhfjbcbaaW2
namespace Go.Proofs.Ytiobhglhfjbcbaa
open Go.RowKit

theorem below_drewN {w w' : World} {B : Nat} (h : Below B w w') (n : Nat) : Below B w (w'.drewN n) := ⟨h.os, h.tape, h.output, h.size, h.block⟩
theorem u8_ne {x y : UInt8} (h : ¬ x = y) : (n8 x == n8 y) = false := by rw [n8_eql]; simp [h]
theorem u8_eq {x y : UInt8} (h : x = y) : (n8 x == n8 y) = true := by rw [n8_eql]; simp [h]

set_option maxHeartbeats 2000000 in
theorem alike_any (lo : Nat) (v : Value) (l : List UInt8) (f a : Nat) (w : World) (h : Bs lo w.heap.size w v l) (hf : f < a) (ha : a ≤ l.length) (hL : l.length ≤ 65536) :
    Calls Try.prog 23 #[v, .int .i64 f, .int .i64 a] w fun e w' => e = .returned (.int .i64 (alkF l f a 18 : Nat)) ∧ Below w.heap.size w w' := by
  obtain ⟨A, c, rfl, h1, h2, h3⟩ := h.open
  clear h
  obtain ⟨F, hF⟩ : ∃ F : Int, F = (f : Int) := ⟨_, rfl⟩
  obtain ⟨G, hG⟩ : ∃ G : Int, G = (a : Int) := ⟨_, rfl⟩
  obtain ⟨N, hN⟩ : ∃ N : Int, N = (alkF l f a 18 : Nat) := ⟨_, rfl⟩
  rw [← hF, ← hG, ← hN]
  have j1 : 0 ≤ F := by omega
  have j2 : F < G := by omega
  have j3 : G ≤ (l.length : Int) := by omega
  replace h3 := hide h3; replace hF := hide hF; replace hG := hide hG; replace hN := hide hN
  go_enter Try.func23, Try.ntmps23
  go_wp2
  go_loopw [7] (fun i wr => ∃ (K : Int), 0 ≤ K ∧ K ≤ 18 ∧ G + K ≤ l.length ∧ i = .int .i64 K ∧ Hid (alkF l f a 18 = K.toNat + alkF l (f + K.toNat) (a + K.toNat) (18 - K.toNat)) ∧ Hid (Below w.heap.size w wr)) (fun i _ => 18 - (intOf i).toNat)
  case atStart => exact ⟨0, by omega, by omega, by omega, rfl, hide (by simp), hide (by (repeat (first | with_reducible exact Below.refl _ _ | with_reducible assumption | with_reducible refine Below.drew ?_ | with_reducible refine bl_alloc ?_ _ | with_reducible refine bl_call ?_ (by assumption) | (focus (with_reducible refine Below.setCell ?_ ?_ _; rotate_left; focus (first | omega | (simp <;> omega)))) | fail)))⟩
  case round =>
    obtain ⟨K, k0, k1, k2, rfl, hk, hb⟩ := hrel
    have hF' := unhide hF
    have hG' := unhide hG
    have i1 : IntKind.i64.wrap (F + K) = F + K := IntWalk.i64_in _ (by omega)
    have i2 : IntKind.i64.wrap (G + K) = G + K := IntWalk.i64_in _ (by omega)
    have i3 : IntKind.i64.wrap (K + 1) = K + 1 := IntWalk.i64_in _ (by omega)
    have i4 : 0 ≤ F + K := by omega
    have i5 : 0 ≤ G + K := by omega
    have t1 : (F + K).toNat = f + K.toNat := by omega
    have t2 : (G + K).toNat = a + K.toNat := by omega
    have t3 : (K + 1).toNat = K.toNat + 1 := by omega
    have hb0 := unhide hb
    by_cases h18 : K < 18
    · have d1 : decide (K < 18) = true := by simpa using h18
      by_cases hlt : G + K < l.length
      · have d2 : decide (G + K < (l.length : Int)) = true := by simpa using hlt
        have i6 : F + K < (l.length : Int) := by omega
        obtain ⟨b, off, rfl, g1, g2, q1⟩ := unhide h3 (f + K.toNat) (by omega)
        obtain ⟨b', off', e, _, _, q2⟩ := unhide h3 (a + K.toNat) (by omega)
        injection e with e
        injection e with e1 e2
        subst e1 e2
        have c1 := ((unhide hb).cell (p := ⟨b, off + (f + K.toNat), none⟩) g2).trans q1
        have c2 := ((unhide hb).cell (p := ⟨b, off + (a + K.toNat), none⟩) g2).trans q2
        by_cases hx : l.getD (f + K.toNat) 0 = l.getD (a + K.toNat) 0
        · have hn := alkF_go (unhide hk) (by omega) (by omega) hx
          have hx' := u8_eq hx
          generalize l.getD (f + K.toNat) 0 = x at *
          generalize l.getD (a + K.toNat) 0 = y at *
          rw [← t1] at c1
          rw [← t2] at c2
          have y1 : b < wr.heap.size := World.block_lt_of_cell? wr _ c1
          clear q1 q2 hx hF' hG' t1 t2 h18 hk
          replace t3 := hide t3; replace hb0 := hide hb0; replace hn := hide hn
          go_wp2_with fail
          go_quiet (fail)
          go_wp2_with fail
          clear i1 i2 i3
          go_roundw
          case rel => exact ⟨K + 1, by omega, by simp only [decide_eq_true_eq] at d1; omega, by omega, rfl, hide (by rw [unhide t3]; exact unhide hn), hide (below_drewN (unhide hb0) _)⟩
          case measure => simp [intOf]; simp only [decide_eq_true_eq] at d1; omega
        · have hn := alkF_stop (unhide hk) (fun h => hx h.2.2)
          have hx' := u8_ne hx
          generalize l.getD (f + K.toNat) 0 = x at *
          generalize l.getD (a + K.toNat) 0 = y at *
          rw [← t1] at c1
          rw [← t2] at c2
          have y1 : b < wr.heap.size := World.block_lt_of_cell? wr _ c1
          clear q1 q2 hx hF' hG' t1 t2 h18 hk
          replace t3 := hide t3; replace hb0 := hide hb0; replace hn := hide hn
          go_wp2_with fail
          go_quiet (fail)
          go_wp2_with fail
          go_ret
          exact ⟨ret_i rfl (by have := unhide hn; have := unhide hN; omega), below_drewN (unhide hb0) _⟩
      · have d2 : decide (G + K < (l.length : Int)) = false := by simpa using hlt
        have hn := alkF_stop (unhide hk) (fun h => hlt (by omega))
        clear hF' hG' t1 t2 h18 hk hlt
        replace t3 := hide t3; replace hb0 := hide hb0; replace hn := hide hn
        go_wp2_with fail
        go_quiet (fail)
        go_wp2_with fail
        go_ret
        exact ⟨ret_i rfl (by have := unhide hn; have := unhide hN; omega), below_drewN (unhide hb0) _⟩
    · have d1 : decide (K < 18) = false := by simpa using h18
      have hn := alkF_stop (unhide hk) (fun h => h18 (by omega))
      clear hF' hG' t1 t2 h18 hk
      replace t3 := hide t3; replace hb0 := hide hb0; replace hn := hide hn
      go_wp2_with fail
      go_quiet (fail)
      go_wp2_with fail
      go_ret
      exact ⟨ret_i rfl (by have := unhide hn; have := unhide hN; omega), below_drewN (unhide hb0) _⟩
end Go.Proofs.Ytiobhglhfjbcbaa
