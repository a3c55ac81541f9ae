import Derived.Test.YtkgfmiicfegnlaaV4
namespace Go.Proofs.Ytkgfmiicfegnlaa
open Go.RowKit
set_option maxRecDepth 100000

attribute [local go_sem] bz_size bz_toList run_store_float
set_option maxHeartbeats 1000000 in
theorem merge_left (g : Nat) (sp : List Value) (d : Array Fl) (c a b : Nat) (w : World) (h : Row g sp w w d) (hs : Small d) (hl : d.size < 1000000) (hab : a + 1 < b) (hb : b ≤ d.size) (h2 : Srt d (a + 1) b) :
    Calls Try.prog 86 #[.slice (some ⟨g, 0, none⟩) d.size c, .int .i64 a, .int .i64 (a + 1 : Nat), .int .i64 b, fV] w fun e w' => e = .returned (.tuple #[]) ∧ ∃ d', Mix a b d d' ∧ Srt d' a b ∧ Row g sp w w' d' := by
  obtain ⟨n, hn⟩ : ∃ n, n = d.size := ⟨_, rfl⟩
  rw [← hn] at hl hb ⊢
  obtain ⟨m, hm⟩ : ∃ m, m = a + 1 := ⟨_, rfl⟩
  rw [← hm] at h2 ⊢
  have i1 : IntKind.i64.wrap ((m : Int) - (a : Int)) = 1 := by rw [IntWalk.i64_in _ (by omega)]; omega
  have l1 : m ≤ b := by omega
  have l2 : a < n := by omega
  have l3 : a < m := by omega
  replace h := hide h; replace hn := hide hn; replace hs := hide hs; replace h2 := hide h2; replace hm := hide hm
  go_enter Try.func86, Try.ntmps86
  go_wp2_with (fail)
  go_loopw [10, 11] (fun i j wr => ∃ (x y : Nat), m ≤ x ∧ x ≤ y ∧ y ≤ b ∧ i = .int .i64 x ∧ j = .int .i64 y ∧ Hid (BF d a m b x y) ∧ Hid (Row g sp w wr d)) (fun i j _ => (intOf j).toNat - (intOf i).toNat)
  case atStart => exact ⟨m, b, Nat.le_refl _, l1, Nat.le_refl _, rfl, rfl, hide (BF.start d a m b), h⟩
  case round =>
    clear i1
    obtain ⟨x, y, hx, hxy, hy, rfl, rfl, hB, hr⟩ := hrel
    by_cases hlt : x < y
    · skip
      obtain ⟨q, hq⟩ : ∃ q : Nat, q = (x + y) / 2 := ⟨_, rfl⟩
      have hQ : ((x : Int) + (y : Int)) / 2 = (q : Int) := by omega
      have q1 : x ≤ q := by omega
      have q2 : q < y := by omega
      have q3 : q < n := by omega
      clear hq
      have hsm := unhide hs
      obtain ⟨Z, hZ⟩ : ∃ Z, Z = cmpN (ky d (q)) (ky d (a)) := ⟨_, rfl⟩
      have hC := fun W => cmp_at hsm (q) (a) Z hZ W
      have hZ2 : Z < 0 ↔ ky d (q) < ky d (a) := by rw [hZ]; exact cmpN_neg
      replace hZ2 := hide hZ2
      clear hZ hsm
      obtain ⟨X, hX⟩ : ∃ X, nt d (q) = X := ⟨_, rfl⟩
      obtain ⟨Y, hY⟩ : ∃ X, nt d (a) = X := ⟨_, rfl⟩
      have cx := (unhide hr).front (i := q) (by have := unhide hn; omega)
      have cy := (unhide hr).front (i := a) (by have := unhide hn; omega)
      rw [hX] at cx hC
      rw [hY] at cy hC
      obtain ⟨x0, x1, x2, x3, x4, x5⟩ := six cx
      obtain ⟨y0, y1, y2, y3, y4, y5⟩ := six cy
      have gl := (unhide hr).lt
      have u0 := fun p : Lat wr => lat_cell p gl x0
      have v0 := fun p : Lat wr => lat_cell p gl y0
      have u1 := fun p : Lat wr => lat_cell p gl x1
      have v1 := fun p : Lat wr => lat_cell p gl y1
      have u2 := fun p : Lat wr => lat_cell p gl x2
      have v2 := fun p : Lat wr => lat_cell p gl y2
      have u3 := fun p : Lat wr => lat_cell p gl x3
      have v3 := fun p : Lat wr => lat_cell p gl y3
      have u4 := fun p : Lat wr => lat_cell p gl x4
      have v4 := fun p : Lat wr => lat_cell p gl y4
      have u5 := fun p : Lat wr => lat_cell p gl x5
      have v5 := fun p : Lat wr => lat_cell p gl y5
      clear cx cy x0 x1 x2 x3 x4 x5 y0 y1 y2 y3 y4 y5
      replace hX := hide hX; replace hY := hide hY; replace hC := hide hC
      go_upto_region 5 with (fail)
      refine wp_region_lat (by kernel_rfl) (by kernel_rfl) ?_
      repeat (go_big_quiet_step ((rename_i zz; go_at_call 53; exact Calls.lat_of (p := zz) (unhide hC zz.W))))
      refine wpQuiet_nil ?_
      rintro _ ⟨⟨w1, hb1⟩, rfl⟩
      have r2 := hide ((unhide hr).lat hb1)
      clear hr hb1 gl u0 u1 u2 u3 u4 u5 v0 v1 v2 v3 v4 v5
      clear hC hX hY
      by_cases hz : Z < 0
      · have hz2 := (unhide hZ2).1 hz
        have hd : decide (Z < 0) = true := decide_eq_true hz
        replace hz2 := hide hz2
        go_wp2
        go_roundw
        case rel => exact ⟨q + 1, y, by omega, by omega, hy, by go_num, rfl, hide ((unhide hB).up (unhide h2) (by omega) (unhide hz2)), r2⟩
        case measure => simp [intOf]; omega
      · have hz2 := Nat.not_lt.1 fun h => hz ((unhide hZ2).2 h)
        have hd : decide (Z < 0) = false := decide_eq_false hz
        replace hz2 := hide hz2
        go_wp2
        go_roundw
        case rel => exact ⟨x, q, hx, by omega, by omega, rfl, by go_num, hide ((unhide hB).down (unhide h2) (by omega) (unhide hz2)), r2⟩
        case measure => simp [intOf]; omega
    · obtain rfl : x = y := by omega
      have i2 : IntKind.i64.wrap ((x : Int) - 1) = (x : Int) - 1 := IntWalk.i64_in _ (by omega)
      go_wp2_with (fail)
      go_loopw [13] (fun i wx => ∃ (k : Nat) (e : Array Fl), a ≤ k ∧ k ≤ x - 1 ∧ i = .int .i64 k ∧ Hid (By (pfI a k) d e) ∧ Hid (Row g sp w wx e)) (fun i _ => x - (intOf i).toNat)
      case atStart => exact ⟨a, d, Nat.le_refl _, by omega, rfl, hide (pf_start d a), hr⟩
      case round =>
        obtain ⟨k, e, hk, hk2, rfl, he, hre⟩ := hrel
        have hel : e.size = n := (unhide he).len.trans (unhide hn).symm
        by_cases hlt2 : k < x - 1
        · skip
          obtain ⟨X, hX⟩ : ∃ X, nt e (k) = X := ⟨_, rfl⟩
          obtain ⟨Y, hY⟩ : ∃ X, nt e (k + 1) = X := ⟨_, rfl⟩
          replace hX := hide hX; replace hY := hide hY
          have cx := (unhide hre).front (i := k) (by omega)
          have cy := (unhide hre).front (i := k + 1) (by omega)
          rw [unhide hX] at cx
          rw [unhide hY] at cy
          obtain ⟨x0, x1, x2, x3, x4, x5⟩ := six cx
          obtain ⟨y0, y1, y2, y3, y4, y5⟩ := six cy
          have fz := fun i => (unhide hre).frozen i
          clear cx cy
          have i3 : IntKind.i64.wrap ((k : Int) + 1) = (k : Int) + 1 := IntWalk.i64_in _ (by omega)
          have lt3 : (k : Int) < (x : Int) - 1 := by omega
          have b1 : k < n := by omega
          have b2 : k + 1 < n := by omega
          replace hel := hide hel
          clear hlt2
          go_wp2_with (fail)
          go_region
          all_goals
            have hr3 := hide (((unhide hre).swap (i := k) (j := k + 1) (by have := unhide hel; omega) (by have := unhide hel; omega) (unhide hX) (unhide hY)).drew)
            have he3 := hide (pf_step (unhide he) hk (by have := unhide hn; omega))
            go_wp2
            go_roundw
            case rel => exact ⟨k + 1, _, by omega, by omega, by go_num, he3, hr3⟩
            case measure => simp [intOf]; omega
        · obtain rfl : k = x - 1 := by omega
          have lt3 : ¬ ((x - 1 : Nat) : Int) < (x : Int) - 1 := by omega
          have hfin := pf_done (a := a) (b := b) (i := x) (by omega) (by have := unhide hn; omega) (by have := unhide h2; rwa [unhide hm] at this) (by have := unhide hm; omega) hy (by have := unhide hB; rwa [unhide hm] at this) (unhide he)
          replace hfin := hide hfin
          go_wp2
          all_goals refine bodyPost_ret (results_none rfl _ _ _) rfl ?_
          all_goals exact ⟨rfl, e, (unhide hfin).1, (unhide hfin).2, unhide hre⟩

set_option maxHeartbeats 1000000 in
theorem merge_right (g : Nat) (sp : List Value) (d : Array Fl) (c a m : Nat) (w : World) (h : Row g sp w w d) (hs : Small d) (hl : d.size < 1000000) (hab : a + 1 < m) (hb : m < d.size) (h2 : Srt d a m) :
    Calls Try.prog 86 #[.slice (some ⟨g, 0, none⟩) d.size c, .int .i64 a, .int .i64 m, .int .i64 (m + 1 : Nat), fV] w fun e w' => e = .returned (.tuple #[]) ∧ ∃ d', Mix a (m + 1) d d' ∧ Srt d' a (m + 1) ∧ Row g sp w w' d' := by
  obtain ⟨n, hn⟩ : ∃ n, n = d.size := ⟨_, rfl⟩
  rw [← hn] at hl hb ⊢
  obtain ⟨b, hm⟩ : ∃ b, b = m + 1 := ⟨_, rfl⟩
  rw [← hm]
  have i1 : IntKind.i64.wrap ((b : Int) - (m : Int)) = 1 := by rw [IntWalk.i64_in _ (by omega)]; omega
  have i2 : IntKind.i64.wrap ((m : Int) - (a : Int)) = (m : Int) - (a : Int) := IntWalk.i64_in _ (by omega)
  have i3 : (((m : Int) - (a : Int)) == 1) = false := by rw [beq_eq_false_iff_ne]; omega
  have l1 : a ≤ m := by omega
  replace h := hide h; replace hn := hide hn; replace hs := hide hs; replace h2 := hide h2; replace hm := hide hm
  go_enter Try.func86, Try.ntmps86
  go_wp2_with (fail)
  go_loopw [14, 15] (fun i j wr => ∃ (x y : Nat), a ≤ x ∧ x ≤ y ∧ y ≤ m ∧ i = .int .i64 x ∧ j = .int .i64 y ∧ Hid (BL d m a m x y) ∧ Hid (Row g sp w wr d)) (fun i j _ => (intOf j).toNat - (intOf i).toNat)
  case atStart => exact ⟨a, m, Nat.le_refl _, l1, Nat.le_refl _, rfl, rfl, hide (BL.start d m a m), h⟩
  case round =>
    clear i1 i2 i3
    obtain ⟨x, y, hx, hxy, hy, rfl, rfl, hB, hr⟩ := hrel
    by_cases hlt : x < y
    · skip
      obtain ⟨q, hq⟩ : ∃ q : Nat, q = (x + y) / 2 := ⟨_, rfl⟩
      have hQ : ((x : Int) + (y : Int)) / 2 = (q : Int) := by omega
      have q1 : x ≤ q := by omega
      have q2 : q < y := by omega
      have q3 : q < n := by omega
      clear hq
      have hsm := unhide hs
      obtain ⟨Z, hZ⟩ : ∃ Z, Z = cmpN (ky d (m)) (ky d (q)) := ⟨_, rfl⟩
      have hC := fun W => cmp_at hsm (m) (q) Z hZ W
      have hZ2 : Z < 0 ↔ ky d (m) < ky d (q) := by rw [hZ]; exact cmpN_neg
      replace hZ2 := hide hZ2
      clear hZ hsm
      obtain ⟨X, hX⟩ : ∃ X, nt d (m) = X := ⟨_, rfl⟩
      obtain ⟨Y, hY⟩ : ∃ X, nt d (q) = X := ⟨_, rfl⟩
      have cx := (unhide hr).front (i := m) (by have := unhide hn; omega)
      have cy := (unhide hr).front (i := q) (by have := unhide hn; omega)
      rw [hX] at cx hC
      rw [hY] at cy hC
      obtain ⟨x0, x1, x2, x3, x4, x5⟩ := six cx
      obtain ⟨y0, y1, y2, y3, y4, y5⟩ := six cy
      have gl := (unhide hr).lt
      have u0 := fun p : Lat wr => lat_cell p gl x0
      have v0 := fun p : Lat wr => lat_cell p gl y0
      have u1 := fun p : Lat wr => lat_cell p gl x1
      have v1 := fun p : Lat wr => lat_cell p gl y1
      have u2 := fun p : Lat wr => lat_cell p gl x2
      have v2 := fun p : Lat wr => lat_cell p gl y2
      have u3 := fun p : Lat wr => lat_cell p gl x3
      have v3 := fun p : Lat wr => lat_cell p gl y3
      have u4 := fun p : Lat wr => lat_cell p gl x4
      have v4 := fun p : Lat wr => lat_cell p gl y4
      have u5 := fun p : Lat wr => lat_cell p gl x5
      have v5 := fun p : Lat wr => lat_cell p gl y5
      clear cx cy x0 x1 x2 x3 x4 x5 y0 y1 y2 y3 y4 y5
      replace hX := hide hX; replace hY := hide hY; replace hC := hide hC
      go_upto_region 17 with (fail)
      refine wp_region_lat (by kernel_rfl) (by kernel_rfl) ?_
      repeat (go_big_quiet_step ((rename_i zz; go_at_call 53; exact Calls.lat_of (p := zz) (unhide hC zz.W))))
      refine wpQuiet_nil ?_
      rintro _ ⟨⟨w1, hb1⟩, rfl⟩
      have r2 := hide ((unhide hr).lat hb1)
      clear hr hb1 gl u0 u1 u2 u3 u4 u5 v0 v1 v2 v3 v4 v5
      clear hC hX hY
      by_cases hz : Z < 0
      · have hz2 := (unhide hZ2).1 hz
        have hd : decide (Z < 0) = true := decide_eq_true hz
        have hd2 : (!decide (Z < 0)) = false := by simp [hz]
        generalize (!decide (Z < 0)) = B at *
        subst hd2
        replace hz2 := hide hz2
        go_wp2
        go_roundw
        case rel => exact ⟨x, q, hx, by omega, by omega, rfl, by go_num, hide ((unhide hB).down (unhide h2) (by omega) (unhide hz2)), r2⟩
        case measure => simp [intOf]; omega
      · have hz2 := Nat.not_lt.1 fun h => hz ((unhide hZ2).2 h)
        have hd : decide (Z < 0) = false := decide_eq_false hz
        have hd2 : (!decide (Z < 0)) = true := by simp [hz]
        generalize (!decide (Z < 0)) = B at *
        subst hd2
        replace hz2 := hide hz2
        go_wp2
        go_roundw
        case rel => exact ⟨q + 1, y, by omega, by omega, hy, by go_num, rfl, hide ((unhide hB).up (unhide h2) (by omega) (unhide hz2)), r2⟩
        case measure => simp [intOf]; omega
    · obtain rfl : x = y := by omega
      go_wp2_with (fail)
      go_loopw [17] (fun i wx => ∃ (k : Nat) (e : Array Fl), x ≤ k ∧ k ≤ m ∧ i = .int .i64 k ∧ Hid (By (plI k m) d e) ∧ Hid (Row g sp w wx e)) (fun i _ => (intOf i).toNat)
      case atStart => exact ⟨m, d, hy, Nat.le_refl _, rfl, hide (pl_start d m), hr⟩
      case round =>
        obtain ⟨k, e, hk, hk2, rfl, he, hre⟩ := hrel
        have hel : e.size = n := (unhide he).len.trans (unhide hn).symm
        by_cases hlt2 : x < k
        · skip
          obtain ⟨X, hX⟩ : ∃ X, nt e (k) = X := ⟨_, rfl⟩
          obtain ⟨Y, hY⟩ : ∃ X, nt e (k - 1) = X := ⟨_, rfl⟩
          replace hX := hide hX; replace hY := hide hY
          have cx := (unhide hre).front (i := k) (by omega)
          have cy := (unhide hre).front (i := k - 1) (by omega)
          rw [unhide hX] at cx
          rw [unhide hY] at cy
          obtain ⟨x0, x1, x2, x3, x4, x5⟩ := six cx
          obtain ⟨y0, y1, y2, y3, y4, y5⟩ := six cy
          have fz := fun i => (unhide hre).frozen i
          clear cx cy
          have i3 : IntKind.i64.wrap ((k : Int) - 1) = (k : Int) - 1 := IntWalk.i64_in _ (by omega)
          have b1 : k < n := by omega
          have b2 : k - 1 < n := by omega
          replace hel := hide hel
          go_wp2_with (fail)
          go_region
          all_goals
            have hr3 := hide (((unhide hre).swap (i := k) (j := k - 1) (by have := unhide hel; omega) (by have := unhide hel; omega) (unhide hX) (unhide hY)).drew)
            have he3 := hide (pl_step (unhide he) hk2 (by omega) (by have := unhide hn; omega))
            go_wp2
            go_roundw
            case rel => exact ⟨k - 1, _, by omega, by omega, by go_num, he3, hr3⟩
            case measure => simp [intOf]; omega
        · obtain rfl : k = x := by omega
          have hfin := pl_done (a := a) (m := m) (i := k) l1 (by have := unhide hn; omega) (unhide h2) hx hk2 (unhide hB) (unhide he)
          rw [← unhide hm] at hfin
          replace hfin := hide hfin
          go_wp2
          all_goals refine bodyPost_ret (results_none rfl _ _ _) rfl ?_
          all_goals exact ⟨rfl, e, (unhide hfin).1, (unhide hfin).2, unhide hre⟩
end Go.Proofs.Ytkgfmiicfegnlaa
