import Derived.Test.YtiobhglhfjbcbaaW15
namespace Go.Proofs.Ytiobhglhfjbcbaa
open Go.RowKit

set_option maxRecDepth 100000 in
set_option maxHeartbeats 16000000 in
theorem long_some (lo : Nat) (v : Value) (l : List UInt8) (a d : Nat) (w : World) (h : Bs lo w.heap.size w v l) (hl : l.length ≤ 200) (ha : a < l.length) (hd1 : 1 ≤ d) (hd2 : d ≤ 300) (h0 : (bestF l a (min a 256)).2 ≠ 0) :
    Calls Try.prog 8 #[v, .int .i64 a, .int .i64 d] w fun e w' => e = .returned (.bool true) ∧ Below w.heap.size w w' := by
  have hnn := nearN_best (l := l) (a := a) hd1
  have hbf := best_facts (Nat.le_of_lt ha) h0
  have hf := fun W (hb : Below w.heap.size w W) => Find_any lo v l a (nextT l a) 0 W (h.grow hb) (by rw [findR_at ha (by omega), if_neg h0])
  rw [show nextT l a = ⟨0, (bestF l a (min a 256)).1, (bestF l a (min a 256)).2⟩ by unfold nextT; rw [if_neg h0]] at hf
  generalize (bestF l a (min a 256)).1 = m at *
  generalize (bestF l a (min a 256)).2 = t at *
  obtain ⟨M, hM⟩ : ∃ M : Int, M = (m : Int) := ⟨_, rfl⟩
  obtain ⟨T, hT⟩ : ∃ T : Int, T = (t : Int) := ⟨_, rfl⟩
  obtain ⟨A, c, rfl, x1, x2, h3⟩ := h.open
  obtain ⟨b, off, rfl, g1, g2, h3⟩ := one_block h3 ha
  clear h h0
  obtain ⟨G, hG⟩ : ∃ G : Int, G = (a : Int) := ⟨_, rfl⟩
  obtain ⟨D, hD⟩ : ∃ D : Int, D = (d : Int) := ⟨_, rfl⟩
  change ∀ W, Below w.heap.size w W → Calls Try.prog 11 #[.slice (some ⟨b, off, none⟩) l.length c, .int .i64 a] W fun e w' => e = .returned (.tuple #[.agg #[.int .u8 0, .int .i64 m, .int .i64 t], .int .i64 0]) ∧ Below W.heap.size W w' at hf
  rw [← hG, ← hM, ← hT] at hf
  rw [← hG, ← hD]
  obtain ⟨b1, b2, b3, b4, b5, hsame⟩ := hbf
  have j1 : 0 ≤ G := by omega
  have j2 : G < (l.length : Int) := by omega
  have j3 : 1 ≤ D := by omega
  have j4 : D ≤ 300 := by omega
  have j5 : 3 ≤ M := by omega
  have j6 : M ≤ 18 := by omega
  have j7 : 1 ≤ T := by omega
  have j8 : T ≤ G := by omega
  have j9 : M ≤ (l.length : Int) - G := by omega
  have ja : IntKind.i64.wrap ((l.length : Int) - G) = (l.length : Int) - G := IntWalk.i64_in _ (by omega)
  have jb : decide ((l.length : Int) - G < M) = false := by simp; omega
  rw [show t = T.toNat by omega, show m = M.toNat by omega] at hsame hnn
  clear ha hd1 hd2 b1 b2 b3 b4 b5 hM hT
  replace hf := hide hf; replace h3 := hide h3; replace hG := hide hG; replace hD := hide hD; replace hnn := hide hnn; replace hsame := hide hsame
  go_enter Try.func8, Try.ntmps8
  go_wp2_with (first
    | (go_at_call 10; refine (live_any _).mono ?_; rintro e w1 ⟨rfl, hb1⟩)
    | (go_at_call 11; refine (unhide hf _ (by (repeat (first | with_reducible exact Below.refl _ _ | with_reducible assumption | with_reducible refine Below.drew ?_ | with_reducible refine bl_alloc ?_ _ | with_reducible refine bl_call ?_ (by assumption) | (focus (with_reducible refine Below.setCell ?_ ?_ _; rotate_left; focus (first | omega | (simp <;> omega)))) | fail)))).mono ?_; rintro e w2 ⟨rfl, hb2⟩)
    | fail)
  obtain ⟨g8, hg8⟩ : ∃ g8, g8 = w2.heap.size := ⟨_, rfl⟩
  rw [← hg8]
  replace hg8 := hide hg8

  go_loopw [10] (fun i wr => ∃ (K : Int), 0 ≤ K ∧ K ≤ 18 ∧ G + K ≤ l.length ∧ i = .int .i64 K ∧ Hid (NearAt l a d K.toNat) ∧ Hid (Below w.heap.size w wr) ∧ Hid (Blk wr g8 25 #[.int .u8 0, .int .i64 M, .int .i64 T])) (fun i _ => 18 - (intOf i).toNat)
  case atStart => exact ⟨0, by omega, by omega, by omega, rfl, hide (NearAt.zero _ _ _), hide (by (repeat (first | with_reducible exact Below.refl _ _ | with_reducible assumption | with_reducible refine Below.drew ?_ | with_reducible refine bl_alloc ?_ _ | with_reducible refine bl_call ?_ (by assumption) | (focus (with_reducible refine Below.setCell ?_ ?_ _; rotate_left; focus (first | omega | (simp <;> omega)))) | fail))), hide (Blk.new (unhide hg8))⟩
  case round =>
    obtain ⟨K, k0, k1, k2, rfl, hk, hb, hB⟩ := hrel
    have hG' := unhide hG
    have hD' := unhide hD
    have i1 : IntKind.i64.wrap (G + K) = G + K := IntWalk.i64_in _ (by omega)
    have i2 : IntKind.i64.wrap (G + K - D) = G + K - D := IntWalk.i64_in _ (by omega)
    have i3 : IntKind.i64.wrap (K + 1) = K + 1 := IntWalk.i64_in _ (by omega)
    have i5 : 0 ≤ G + K := by omega
    have t2 : (G + K).toNat = a + K.toNat := by omega
    have t3 : (K + 1).toNat = K.toNat + 1 := by omega
    have hb0 := unhide hb
    have y8 : g8 < wr.heap.size := (unhide hB).lt
    by_cases c1 : D ≤ G
    · have a1 : decide (D ≤ G) = true := by simpa using c1
      by_cases c2 : D ≤ 256
      · have a2 : decide (D ≤ 256) = true := by simpa using c2
        by_cases h18 : K < 18
        · have a3 : decide (K < 18) = true := by simpa using h18
          by_cases hlt : G + K < l.length
          · have a4 : decide (G + K < (l.length : Int)) = true := by simpa using hlt
            have t1 : (G + K - D).toNat = a - d + K.toNat := by omega
            have i6 : 0 ≤ G + K - D := by omega
            have i7 : G + K - D < (l.length : Int) := by omega
            have i8 : D ≤ G + K := by omega
            have q1 := unhide h3 (a - d + K.toNat) (by omega)
            have q2 := unhide h3 (a + K.toNat) (by omega)
            have z1 := ((unhide hb).cell (p := ⟨b, off + (a - d + K.toNat), none⟩) g2).trans q1
            have z2 := ((unhide hb).cell (p := ⟨b, off + (a + K.toNat), none⟩) g2).trans q2
            by_cases hx : l.getD (a + K.toNat) 0 = l.getD (a - d + K.toNat) 0
            · have hn := (unhide hk).go (by omega) (by omega) (by omega) (by omega) hx
              have hx' := u8_eq hx
              generalize l.getD (a - d + K.toNat) 0 = x at *
              generalize l.getD (a + K.toNat) 0 = y at *
              rw [← t1] at z1
              rw [← t2] at z2
              have y1 : b < wr.heap.size := World.block_lt_of_cell? wr _ z1
              clear q1 q2 hx hG' hD' t1 t2 hk
              replace t3 := hide t3; replace hb0 := hide hb0; replace hn := hide hn
              go_wp2_with fail
              go_quiet (fail)
              go_wp2_with fail
              clear i1 i2 i3
              go_roundw
              case rel => exact ⟨K + 1, by omega, by omega, by omega, rfl, hide (by rw [unhide t3]; exact unhide hn), hide (below_drewN (unhide hb0) _), hide ((unhide hB).drewN _)⟩
              case measure => simp [intOf]; omega
            · have hn := (unhide hk).stop (fun q => hx q.2.2.2.2)
              have hx' := u8_ne hx
              generalize l.getD (a - d + K.toNat) 0 = x at *
              generalize l.getD (a + K.toNat) 0 = y at *
              rw [← t1] at z1
              rw [← t2] at z2
              have y1 : b < wr.heap.size := World.block_lt_of_cell? wr _ z1
              clear q1 q2 hx t1
              have hfin : K ≤ M ∧ (K < M ∨ T ≤ D) := by have := unhide hnn; omega
              obtain ⟨f1, f2⟩ := hfin
              clear hG' hD' t2 hk i1 i2 i3
              replace t3 := hide t3; replace hb0 := hide hb0; replace hn := hide hn; replace f2 := hide f2
              have u0 := (unhide hB).cell 0
              have u1 := (unhide hB).cell 1
              have u2 := (unhide hB).cell 2
              simp at u0 u1 u2
              go_wp2_with fail
              go_quiet (fail)
              go_wp2_with fail
              go_loopw [118] (fun i wx => ∃ (J : Int), 0 ≤ J ∧ J ≤ M ∧ i = .int .i64 J ∧ Hid (Below w.heap.size w wx) ∧ Hid (Blk wx g8 25 #[.int .u8 0, .int .i64 M, .int .i64 T])) (fun i _ => 18 - (intOf i).toNat)
              case atStart => exact ⟨0, by omega, by omega, rfl, hide (below_drewN (unhide hb0) _), hide ((unhide hB).drewN _)⟩
              case round =>
                clear u0 u1 u2
                try clear z1 z2
                obtain ⟨J, e0, e1, rfl, hbx, hBx⟩ := hrel
                have u0 := (unhide hBx).cell 0
                have u1 := (unhide hBx).cell 1
                have u2 := (unhide hBx).cell 2
                simp at u0 u1 u2
                have y9 : g8 < wr.heap.size := (unhide hBx).lt
                by_cases hj : J < M
                · have hG' := unhide hG
                  have q1 := unhide h3 (a + J.toNat - T.toNat) (by omega)
                  have q2 := unhide h3 (a + J.toNat) (by omega)
                  have hs := unhide hsame J.toNat (by omega)
                  have z1 := ((unhide hbx).cell (p := ⟨b, off + (a + J.toNat - T.toNat), none⟩) g2).trans q1
                  have z2 := ((unhide hbx).cell (p := ⟨b, off + (a + J.toNat), none⟩) g2).trans q2
                  rw [← hs] at z1
                  generalize l.getD (a + J.toNat) 0 = x at *
                  have t1 : a + J.toNat - T.toNat = (G + J - T).toNat := by omega
                  have t2 : a + J.toNat = (G + J).toNat := by omega
                  rw [t1] at z1
                  rw [t2] at z2
                  have y1 : b < wr.heap.size := World.block_lt_of_cell? wr _ z1
                  have i1 : IntKind.i64.wrap (G + J) = G + J := IntWalk.i64_in _ (by omega)
                  have i2 : IntKind.i64.wrap (G + J - T) = G + J - T := IntWalk.i64_in _ (by omega)
                  have i5 : 0 ≤ G + J := by omega
                  have i6 : 0 ≤ G + J - T := by omega
                  have i7 : G + J - T < (l.length : Int) := by omega
                  have i8 : T ≤ G + J := by omega
                  have i9 : G + J < (l.length : Int) := by omega
                  have hxx : (n8 x == n8 x) = true := u8_eq rfl
                  clear q1 q2 hG' t1 t2 hs
                  go_wp2_with fail
                  go_quiet (fail)
                  go_wp2_with fail
                  clear i1 i2
                  go_roundw
                  case rel => exact ⟨J + 1, by omega, by omega, by first | rfl | go_num, hide (below_drewN (unhide hbx) _), hide ((unhide hBx).drewN _)⟩
                  case measure => simp [intOf]; omega
                · have f2' := unhide f2
                  go_wp2_with fail
                  all_goals go_ret
                  all_goals first
                    | exact ⟨ret_b rfl (by first | rfl | (simp; omega)), unhide hbx⟩
                    | (exfalso; omega)
          · have a4 : decide (G + K < (l.length : Int)) = false := by simpa using hlt
            have hn := (unhide hk).stop (fun q => hlt (by omega))
            have hfin : K ≤ M ∧ (K < M ∨ T ≤ D) := by have := unhide hnn; omega
            obtain ⟨f1, f2⟩ := hfin
            clear hG' hD' t2 hk i1 i2 i3
            replace t3 := hide t3; replace hb0 := hide hb0; replace hn := hide hn; replace f2 := hide f2
            have u0 := (unhide hB).cell 0
            have u1 := (unhide hB).cell 1
            have u2 := (unhide hB).cell 2
            simp at u0 u1 u2
            go_wp2_with fail
            go_quiet (fail)
            go_wp2_with fail
            go_loopw [118] (fun i wx => ∃ (J : Int), 0 ≤ J ∧ J ≤ M ∧ i = .int .i64 J ∧ Hid (Below w.heap.size w wx) ∧ Hid (Blk wx g8 25 #[.int .u8 0, .int .i64 M, .int .i64 T])) (fun i _ => 18 - (intOf i).toNat)
            case atStart => exact ⟨0, by omega, by omega, rfl, hide (below_drewN (unhide hb0) _), hide ((unhide hB).drewN _)⟩
            case round =>
              clear u0 u1 u2
              try clear z1 z2
              obtain ⟨J, e0, e1, rfl, hbx, hBx⟩ := hrel
              have u0 := (unhide hBx).cell 0
              have u1 := (unhide hBx).cell 1
              have u2 := (unhide hBx).cell 2
              simp at u0 u1 u2
              have y9 : g8 < wr.heap.size := (unhide hBx).lt
              by_cases hj : J < M
              · have hG' := unhide hG
                have q1 := unhide h3 (a + J.toNat - T.toNat) (by omega)
                have q2 := unhide h3 (a + J.toNat) (by omega)
                have hs := unhide hsame J.toNat (by omega)
                have z1 := ((unhide hbx).cell (p := ⟨b, off + (a + J.toNat - T.toNat), none⟩) g2).trans q1
                have z2 := ((unhide hbx).cell (p := ⟨b, off + (a + J.toNat), none⟩) g2).trans q2
                rw [← hs] at z1
                generalize l.getD (a + J.toNat) 0 = x at *
                have t1 : a + J.toNat - T.toNat = (G + J - T).toNat := by omega
                have t2 : a + J.toNat = (G + J).toNat := by omega
                rw [t1] at z1
                rw [t2] at z2
                have y1 : b < wr.heap.size := World.block_lt_of_cell? wr _ z1
                have i1 : IntKind.i64.wrap (G + J) = G + J := IntWalk.i64_in _ (by omega)
                have i2 : IntKind.i64.wrap (G + J - T) = G + J - T := IntWalk.i64_in _ (by omega)
                have i5 : 0 ≤ G + J := by omega
                have i6 : 0 ≤ G + J - T := by omega
                have i7 : G + J - T < (l.length : Int) := by omega
                have i8 : T ≤ G + J := by omega
                have i9 : G + J < (l.length : Int) := by omega
                have hxx : (n8 x == n8 x) = true := u8_eq rfl
                clear q1 q2 hG' t1 t2 hs
                go_wp2_with fail
                go_quiet (fail)
                go_wp2_with fail
                clear i1 i2
                go_roundw
                case rel => exact ⟨J + 1, by omega, by omega, by first | rfl | go_num, hide (below_drewN (unhide hbx) _), hide ((unhide hBx).drewN _)⟩
                case measure => simp [intOf]; omega
              · have f2' := unhide f2
                go_wp2_with fail
                all_goals go_ret
                all_goals first
                  | exact ⟨ret_b rfl (by first | rfl | (simp; omega)), unhide hbx⟩
                  | (exfalso; omega)
        · have a3 : decide (K < 18) = false := by simpa using h18
          have hn := (unhide hk).stop (fun q => h18 (by omega))
          have hfin : K ≤ M ∧ (K < M ∨ T ≤ D) := by have := unhide hnn; omega
          obtain ⟨f1, f2⟩ := hfin
          clear hG' hD' t2 hk i1 i2 i3
          replace t3 := hide t3; replace hb0 := hide hb0; replace hn := hide hn; replace f2 := hide f2
          have u0 := (unhide hB).cell 0
          have u1 := (unhide hB).cell 1
          have u2 := (unhide hB).cell 2
          simp at u0 u1 u2
          go_wp2_with fail
          go_quiet (fail)
          go_wp2_with fail
          go_loopw [118] (fun i wx => ∃ (J : Int), 0 ≤ J ∧ J ≤ M ∧ i = .int .i64 J ∧ Hid (Below w.heap.size w wx) ∧ Hid (Blk wx g8 25 #[.int .u8 0, .int .i64 M, .int .i64 T])) (fun i _ => 18 - (intOf i).toNat)
          case atStart => exact ⟨0, by omega, by omega, rfl, hide (below_drewN (unhide hb0) _), hide ((unhide hB).drewN _)⟩
          case round =>
            clear u0 u1 u2
            try clear z1 z2
            obtain ⟨J, e0, e1, rfl, hbx, hBx⟩ := hrel
            have u0 := (unhide hBx).cell 0
            have u1 := (unhide hBx).cell 1
            have u2 := (unhide hBx).cell 2
            simp at u0 u1 u2
            have y9 : g8 < wr.heap.size := (unhide hBx).lt
            by_cases hj : J < M
            · have hG' := unhide hG
              have q1 := unhide h3 (a + J.toNat - T.toNat) (by omega)
              have q2 := unhide h3 (a + J.toNat) (by omega)
              have hs := unhide hsame J.toNat (by omega)
              have z1 := ((unhide hbx).cell (p := ⟨b, off + (a + J.toNat - T.toNat), none⟩) g2).trans q1
              have z2 := ((unhide hbx).cell (p := ⟨b, off + (a + J.toNat), none⟩) g2).trans q2
              rw [← hs] at z1
              generalize l.getD (a + J.toNat) 0 = x at *
              have t1 : a + J.toNat - T.toNat = (G + J - T).toNat := by omega
              have t2 : a + J.toNat = (G + J).toNat := by omega
              rw [t1] at z1
              rw [t2] at z2
              have y1 : b < wr.heap.size := World.block_lt_of_cell? wr _ z1
              have i1 : IntKind.i64.wrap (G + J) = G + J := IntWalk.i64_in _ (by omega)
              have i2 : IntKind.i64.wrap (G + J - T) = G + J - T := IntWalk.i64_in _ (by omega)
              have i5 : 0 ≤ G + J := by omega
              have i6 : 0 ≤ G + J - T := by omega
              have i7 : G + J - T < (l.length : Int) := by omega
              have i8 : T ≤ G + J := by omega
              have i9 : G + J < (l.length : Int) := by omega
              have hxx : (n8 x == n8 x) = true := u8_eq rfl
              clear q1 q2 hG' t1 t2 hs
              go_wp2_with fail
              go_quiet (fail)
              go_wp2_with fail
              clear i1 i2
              go_roundw
              case rel => exact ⟨J + 1, by omega, by omega, by first | rfl | go_num, hide (below_drewN (unhide hbx) _), hide ((unhide hBx).drewN _)⟩
              case measure => simp [intOf]; omega
            · have f2' := unhide f2
              go_wp2_with fail
              all_goals go_ret
              all_goals first
                | exact ⟨ret_b rfl (by first | rfl | (simp; omega)), unhide hbx⟩
                | (exfalso; omega)
      · exfalso; omega
    · have a1 : decide (D ≤ G) = false := by simpa using c1
      have hn := (unhide hk).stop (fun q => c1 (by omega))
      have hfin : K ≤ M ∧ (K < M ∨ T ≤ D) := by have := unhide hnn; omega
      obtain ⟨f1, f2⟩ := hfin
      clear hG' hD' t2 hk i1 i2 i3
      replace t3 := hide t3; replace hb0 := hide hb0; replace hn := hide hn; replace f2 := hide f2
      have u0 := (unhide hB).cell 0
      have u1 := (unhide hB).cell 1
      have u2 := (unhide hB).cell 2
      simp at u0 u1 u2
      go_wp2_with fail
      go_quiet (fail)
      go_wp2_with fail
      go_loopw [118] (fun i wx => ∃ (J : Int), 0 ≤ J ∧ J ≤ M ∧ i = .int .i64 J ∧ Hid (Below w.heap.size w wx) ∧ Hid (Blk wx g8 25 #[.int .u8 0, .int .i64 M, .int .i64 T])) (fun i _ => 18 - (intOf i).toNat)
      case atStart => exact ⟨0, by omega, by omega, rfl, hide (below_drewN (unhide hb0) _), hide ((unhide hB).drewN _)⟩
      case round =>
        clear u0 u1 u2
        try clear z1 z2
        obtain ⟨J, e0, e1, rfl, hbx, hBx⟩ := hrel
        have u0 := (unhide hBx).cell 0
        have u1 := (unhide hBx).cell 1
        have u2 := (unhide hBx).cell 2
        simp at u0 u1 u2
        have y9 : g8 < wr.heap.size := (unhide hBx).lt
        by_cases hj : J < M
        · have hG' := unhide hG
          have q1 := unhide h3 (a + J.toNat - T.toNat) (by omega)
          have q2 := unhide h3 (a + J.toNat) (by omega)
          have hs := unhide hsame J.toNat (by omega)
          have z1 := ((unhide hbx).cell (p := ⟨b, off + (a + J.toNat - T.toNat), none⟩) g2).trans q1
          have z2 := ((unhide hbx).cell (p := ⟨b, off + (a + J.toNat), none⟩) g2).trans q2
          rw [← hs] at z1
          generalize l.getD (a + J.toNat) 0 = x at *
          have t1 : a + J.toNat - T.toNat = (G + J - T).toNat := by omega
          have t2 : a + J.toNat = (G + J).toNat := by omega
          rw [t1] at z1
          rw [t2] at z2
          have y1 : b < wr.heap.size := World.block_lt_of_cell? wr _ z1
          have i1 : IntKind.i64.wrap (G + J) = G + J := IntWalk.i64_in _ (by omega)
          have i2 : IntKind.i64.wrap (G + J - T) = G + J - T := IntWalk.i64_in _ (by omega)
          have i5 : 0 ≤ G + J := by omega
          have i6 : 0 ≤ G + J - T := by omega
          have i7 : G + J - T < (l.length : Int) := by omega
          have i8 : T ≤ G + J := by omega
          have i9 : G + J < (l.length : Int) := by omega
          have hxx : (n8 x == n8 x) = true := u8_eq rfl
          clear q1 q2 hG' t1 t2 hs
          go_wp2_with fail
          go_quiet (fail)
          go_wp2_with fail
          clear i1 i2
          go_roundw
          case rel => exact ⟨J + 1, by omega, by omega, by first | rfl | go_num, hide (below_drewN (unhide hbx) _), hide ((unhide hBx).drewN _)⟩
          case measure => simp [intOf]; omega
        · have f2' := unhide f2
          go_wp2_with fail
          all_goals go_ret
          all_goals first
            | exact ⟨ret_b rfl (by first | rfl | (simp; omega)), unhide hbx⟩
            | (exfalso; omega)
end Go.Proofs.Ytiobhglhfjbcbaa
