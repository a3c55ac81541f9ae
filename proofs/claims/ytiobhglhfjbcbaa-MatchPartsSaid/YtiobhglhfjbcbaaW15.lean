import Derived.Test.YtiobhglhfjbcbaaW10
namespace Go.Proofs.Ytiobhglhfjbcbaa
open Go.RowKit

/-- How many are alike, if that many behind may be looked at. -/
def nearN (l : List UInt8) (a d : Nat) : Nat := if d ≤ a ∧ d ≤ 256 then alkF l (a - d) a 18 else 0
/-- What holds at the first loop's head. -/
def NearAt (l : List UInt8) (a d k : Nat) : Prop := if d ≤ a ∧ d ≤ 256 then alkF l (a - d) a 18 = k + alkF l (a - d + k) (a + k) (18 - k) else k = 0
theorem NearAt.zero (l : List UInt8) (a d : Nat) : NearAt l a d 0 := by unfold NearAt; split <;> simp
theorem NearAt.go {l : List UInt8} {a d k : Nat} (h : NearAt l a d k) (h0 : d ≤ a) (h1 : d ≤ 256) (h2 : k < 18) (h3 : a + k < l.length) (h4 : l.getD (a + k) 0 = l.getD (a - d + k) 0) : NearAt l a d (k + 1) := by
  unfold NearAt at *
  rw [if_pos ⟨h0, h1⟩] at *
  exact alkF_go h h2 h3 h4.symm
theorem NearAt.stop {l : List UInt8} {a d k : Nat} (h : NearAt l a d k) (h0 : ¬ (d ≤ a ∧ d ≤ 256 ∧ k < 18 ∧ a + k < l.length ∧ l.getD (a + k) 0 = l.getD (a - d + k) 0)) : nearN l a d = k := by
  unfold NearAt at h
  unfold nearN
  split at h
  · rename_i hc
    rw [if_pos hc]
    exact alkF_stop h fun q => h0 ⟨hc.1, hc.2, q.1, q.2.1, q.2.2.symm⟩
  · rename_i hc
    rw [if_neg hc, h]
theorem one_block {lo hi : Nat} {w : World} {A : Option Addr} {l : List UInt8} {a : Nat} (h : ∀ i, i < l.length → ∃ b off, A = some ⟨b, off, none⟩ ∧ lo ≤ b ∧ b < hi ∧ w.cell? ⟨b, off + i, none⟩ = some (.int .u8 (n8 (l.getD i 0)))) (ha : a < l.length) :
    ∃ b off, A = some ⟨b, off, none⟩ ∧ lo ≤ b ∧ b < hi ∧ ∀ i, i < l.length → w.cell? ⟨b, off + i, none⟩ = some (.int .u8 (n8 (l.getD i 0))) := by
  obtain ⟨b, off, rfl, g1, g2, _⟩ := h a ha
  refine ⟨b, off, rfl, g1, g2, fun i hi => ?_⟩
  obtain ⟨b', off', e, _, _, hc⟩ := h i hi
  injection e with e
  injection e with e1 e2
  subst e1 e2
  exact hc
theorem nearN_best {l : List UInt8} {a d : Nat} (hd : 1 ≤ d) : nearN l a d ≤ (bestF l a (min a 256)).1 ∧ (3 ≤ nearN l a d → nearN l a d = (bestF l a (min a 256)).1 → (bestF l a (min a 256)).2 ≤ d) := by
  unfold nearN
  split
  · exact bestF_most l a (min a 256) d hd (by omega)
  · have := bestF_two l a (min a 256)
    exact ⟨by omega, fun h => by omega⟩
theorem best_facts {l : List UInt8} {a : Nat} (ha : a ≤ l.length) (h0 : (bestF l a (min a 256)).2 ≠ 0) : 3 ≤ (bestF l a (min a 256)).1 ∧ (bestF l a (min a 256)).1 ≤ 18 ∧ 1 ≤ (bestF l a (min a 256)).2 ∧ (bestF l a (min a 256)).2 ≤ a ∧ a + (bestF l a (min a 256)).1 ≤ l.length ∧
    ∀ i, i < (bestF l a (min a 256)).1 → l.getD (a + i) 0 = l.getD (a + i - (bestF l a (min a 256)).2) 0 := by
  obtain ⟨_, h18, hle, _, h5⟩ := bestF_two l a (min a 256)
  obtain ⟨h3, h6⟩ := h5 (by omega)
  have hend := alkF_end l (a - (bestF l a (min a 256)).2) a 18 ha
  refine ⟨h3, h18, by omega, by omega, by omega, fun i hi => ?_⟩
  have := alkF_same l (a - (bestF l a (min a 256)).2) a 18 i (by omega)
  rw [show a + i - (bestF l a (min a 256)).2 = a - (bestF l a (min a 256)).2 + i by omega]
  exact this.symm

set_option maxRecDepth 100000 in
set_option maxHeartbeats 8000000 in
theorem long_none (lo : Nat) (v : Value) (l : List UInt8) (a d : Nat) (w : World) (h : Bs lo w.heap.size w v l) (hl : l.length ≤ 200) (ha : a < l.length) (hd1 : 1 ≤ d) (hd2 : d ≤ 300) (h0 : (bestF l a (min a 256)).2 = 0) :
    Calls Try.prog 8 #[v, .int .i64 a, .int .i64 d] w fun e w' => e = .returned (.bool true) ∧ Below w.heap.size w w' := by
  have hnn : nearN l a d < 3 := by
    have h1 := (nearN_best (l := l) (a := a) hd1).1
    have h2 := (bestF_two l a (min a 256)).2.2.2.1 h0
    omega
  have hf := fun W (hb : Below w.heap.size w W) => Find_any lo v l a noT 4 W (h.grow hb) (by rw [findR_at ha (by omega), if_pos h0])
  change ∀ W, Below w.heap.size w W → Calls Try.prog 11 #[v, .int .i64 a] W fun e w' => e = .returned (.tuple #[.agg #[.int .u8 0, .int .i64 0, .int .i64 0], .int .i64 4]) ∧ Below W.heap.size W w' at hf
  obtain ⟨A, c, rfl, x1, x2, h3⟩ := h.open
  obtain ⟨b, off, rfl, g1, g2, h3⟩ := one_block h3 ha
  clear h h0
  obtain ⟨G, hG⟩ : ∃ G : Int, G = (a : Int) := ⟨_, rfl⟩
  obtain ⟨D, hD⟩ : ∃ D : Int, D = (d : Int) := ⟨_, rfl⟩
  rw [← hG] at hf
  rw [← hG, ← hD]
  have j1 : 0 ≤ G := by omega
  have j2 : G < (l.length : Int) := by omega
  have j3 : 1 ≤ D := by omega
  have j4 : D ≤ 300 := by omega
  clear ha hd1 hd2
  replace hf := hide hf; replace h3 := hide h3; replace hG := hide hG; replace hD := hide hD; replace hnn := hide hnn
  go_enter Try.func8, Try.ntmps8
  go_wp2_with (first
    | (go_at_call 10; refine (live_any _).mono ?_; rintro e w1 ⟨rfl, hb1⟩)
    | (go_at_call 11; refine (unhide hf _ (by (repeat (first | with_reducible exact Below.refl _ _ | with_reducible assumption | with_reducible refine Below.drew ?_ | with_reducible refine bl_alloc ?_ _ | with_reducible refine bl_call ?_ (by assumption) | (focus (with_reducible refine Below.setCell ?_ ?_ _; rotate_left; focus (first | omega | (simp <;> omega)))) | fail)))).mono ?_; rintro e w2 ⟨rfl, hb2⟩)
    | fail)
  obtain ⟨g8, hg8⟩ : ∃ g8, g8 = w2.heap.size := ⟨_, rfl⟩
  rw [← hg8]
  replace hg8 := hide hg8

  go_loopw [10] (fun i wr => ∃ (K : Int), 0 ≤ K ∧ K ≤ 18 ∧ G + K ≤ l.length ∧ i = .int .i64 K ∧ Hid (NearAt l a d K.toNat) ∧ Hid (Below w.heap.size w wr) ∧ Hid (Blk wr g8 25 #[.int .u8 0, .int .i64 0, .int .i64 0])) (fun i _ => 18 - (intOf i).toNat)
  case atStart => exact ⟨0, by omega, by omega, by omega, rfl, hide (NearAt.zero _ _ _), hide (by (repeat (first | with_reducible exact Below.refl _ _ | with_reducible assumption | with_reducible refine Below.drew ?_ | with_reducible refine bl_alloc ?_ _ | with_reducible refine bl_call ?_ (by assumption) | (focus (with_reducible refine Below.setCell ?_ ?_ _; rotate_left; focus (first | omega | (simp <;> omega)))) | fail))), hide (Blk.new (unhide hg8))⟩
  case round =>
    obtain ⟨K, k0, k1, k2, rfl, hk, hb, hB⟩ := hrel
    have hG' := unhide hG
    have hD' := unhide hD
    have i1 : IntKind.i64.wrap (G + K) = G + K := IntWalk.i64_in _ (by omega)
    have i2 : IntKind.i64.wrap (G + K - D) = G + K - D := IntWalk.i64_in _ (by omega)
    have i3 : IntKind.i64.wrap (K + 1) = K + 1 := IntWalk.i64_in _ (by omega)
    have i5 : 0 ≤ G + K := by omega
    have t2 : (G + K).toNat = a + K.toNat := by omega
    have t3 : (K + 1).toNat = K.toNat + 1 := by omega
    have hb0 := unhide hb
    have y8 : g8 < wr.heap.size := (unhide hB).lt
    by_cases c1 : D ≤ G
    · have a1 : decide (D ≤ G) = true := by simpa using c1
      by_cases c2 : D ≤ 256
      · have a2 : decide (D ≤ 256) = true := by simpa using c2
        by_cases h18 : K < 18
        · have a3 : decide (K < 18) = true := by simpa using h18
          by_cases hlt : G + K < l.length
          · have a4 : decide (G + K < (l.length : Int)) = true := by simpa using hlt
            have t1 : (G + K - D).toNat = a - d + K.toNat := by omega
            have i6 : 0 ≤ G + K - D := by omega
            have i7 : G + K - D < (l.length : Int) := by omega
            have i8 : D ≤ G + K := by omega
            have q1 := unhide h3 (a - d + K.toNat) (by omega)
            have q2 := unhide h3 (a + K.toNat) (by omega)
            have z1 := ((unhide hb).cell (p := ⟨b, off + (a - d + K.toNat), none⟩) g2).trans q1
            have z2 := ((unhide hb).cell (p := ⟨b, off + (a + K.toNat), none⟩) g2).trans q2
            by_cases hx : l.getD (a + K.toNat) 0 = l.getD (a - d + K.toNat) 0
            · have hn := (unhide hk).go (by omega) (by omega) (by omega) (by omega) hx
              have hx' := u8_eq hx
              generalize l.getD (a - d + K.toNat) 0 = x at *
              generalize l.getD (a + K.toNat) 0 = y at *
              rw [← t1] at z1
              rw [← t2] at z2
              have y1 : b < wr.heap.size := World.block_lt_of_cell? wr _ z1
              clear q1 q2 hx hG' hD' t1 t2 hk
              replace t3 := hide t3; replace hb0 := hide hb0; replace hn := hide hn
              go_wp2_with fail
              go_quiet (fail)
              go_wp2_with fail
              clear i1 i2 i3
              go_roundw
              case rel => exact ⟨K + 1, by omega, by omega, by omega, rfl, hide (by rw [unhide t3]; exact unhide hn), hide (below_drewN (unhide hb0) _), hide ((unhide hB).drewN _)⟩
              case measure => simp [intOf]; omega
            · have hn := (unhide hk).stop (fun q => hx q.2.2.2.2)
              have hx' := u8_ne hx
              generalize l.getD (a - d + K.toNat) 0 = x at *
              generalize l.getD (a + K.toNat) 0 = y at *
              rw [← t1] at z1
              rw [← t2] at z2
              have y1 : b < wr.heap.size := World.block_lt_of_cell? wr _ z1
              clear q1 q2 hx t1
              have hK : K < 3 := by have := unhide hnn; omega
              clear hG' hD' t2 hk i1 i2 i3
              replace t3 := hide t3; replace hb0 := hide hb0; replace hn := hide hn
              go_wp2_with fail
              go_quiet (fail)
              go_wp2_with fail
              go_ret
              exact ⟨ret_b rfl (by first | rfl | (simp; omega)), below_drewN (unhide hb0) _⟩
          · have a4 : decide (G + K < (l.length : Int)) = false := by simpa using hlt
            have hn := (unhide hk).stop (fun q => hlt (by omega))
            have hK : K < 3 := by have := unhide hnn; omega
            clear hG' hD' t2 hk i1 i2 i3
            replace t3 := hide t3; replace hb0 := hide hb0; replace hn := hide hn
            go_wp2_with fail
            go_quiet (fail)
            go_wp2_with fail
            go_ret
            exact ⟨ret_b rfl (by first | rfl | (simp; omega)), below_drewN (unhide hb0) _⟩
        · have a3 : decide (K < 18) = false := by simpa using h18
          have hn := (unhide hk).stop (fun q => h18 (by omega))
          have hK : K < 3 := by have := unhide hnn; omega
          clear hG' hD' t2 hk i1 i2 i3
          replace t3 := hide t3; replace hb0 := hide hb0; replace hn := hide hn
          go_wp2_with fail
          go_quiet (fail)
          go_wp2_with fail
          go_ret
          exact ⟨ret_b rfl (by first | rfl | (simp; omega)), below_drewN (unhide hb0) _⟩
      · exfalso; omega
    · have a1 : decide (D ≤ G) = false := by simpa using c1
      have hn := (unhide hk).stop (fun q => c1 (by omega))
      have hK : K < 3 := by have := unhide hnn; omega
      clear hG' hD' t2 hk i1 i2 i3
      replace t3 := hide t3; replace hb0 := hide hb0; replace hn := hide hn
      go_wp2_with fail
      go_quiet (fail)
      go_wp2_with fail
      go_ret
      exact ⟨ret_b rfl (by first | rfl | (simp; omega)), below_drewN (unhide hb0) _⟩
end Go.Proofs.Ytiobhglhfjbcbaa
