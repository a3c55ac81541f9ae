import Derived.Test.YtkgfmiicfegnlaaV5
namespace Go.Proofs.Ytkgfmiicfegnlaa
open Go.RowKit
set_option maxRecDepth 100000

/-- What merging of so short a stretch does. -/
def Merges (g : Nat) (sp : List Value) (c n N : Nat) : Prop := ∀ (d : Array Fl) (a m b : Nat) (w : World), b - a ≤ N → d.size = n → Row g sp w w d → Small d → a < m → m < b → b ≤ n → Srt d a m → Srt d m b →
    Calls Try.prog 86 #[.slice (some ⟨g, 0, none⟩) n c, .int .i64 a, .int .i64 m, .int .i64 b, fV] w fun e w' => e = .returned (.tuple #[]) ∧ ∃ d', Mix a b d d' ∧ Srt d' a b ∧ Row g sp w w' d'

theorem srt_lo1 {d e : Array Fl} {a m s t : Nat} (he : By (roI s m t) d e) (h : Srt d a m) (q : s ≤ m) : Srt e a s := fun i j g1 g2 g3 => by
  unfold ky
  rw [he.at_, he.at_]
  change ky d _ ≤ ky d _
  rw [show roI s m t i = i by (unfold roI; (repeat' split) <;> omega), show roI s m t j = j by (unfold roI; (repeat' split) <;> omega)]
  exact h i j g1 g2 (by omega)
theorem srt_lo2 {d e : Array Fl} {m b s t mid : Nat} (he : By (roI s m t) d e) (h : Srt d m b) (q1 : s + t = mid + m) (q2 : s ≤ mid) (q3 : t ≤ b) : Srt e s mid := fun i j g1 g2 g3 => by
  unfold ky
  rw [he.at_, he.at_]
  change ky d _ ≤ ky d _
  rw [show roI s m t i = i - s + m by (unfold roI; (repeat' split) <;> omega), show roI s m t j = j - s + m by (unfold roI; (repeat' split) <;> omega)]
  exact h _ _ (by omega) (by omega) (by omega)
theorem srt_hi1 {d e : Array Fl} {a m s t mid : Nat} (he : By (roI s m t) d e) (h : Srt d a m) (q1 : s + t = mid + m) (q2 : a ≤ s) (q4 : m ≤ t) : Srt e mid t := fun i j g1 g2 g3 => by
  unfold ky
  rw [he.at_, he.at_]
  change ky d _ ≤ ky d _
  rw [show roI s m t i = i - (t - m) by (unfold roI; (repeat' split) <;> omega), show roI s m t j = j - (t - m) by (unfold roI; (repeat' split) <;> omega)]
  exact h _ _ (by omega) (by omega) (by omega)
theorem srt_hi2 {d e : Array Fl} {m b s t : Nat} (he : By (roI s m t) d e) (h : Srt d m b) (q : m ≤ t) (q2 : s ≤ m) : Srt e t b := fun i j g1 g2 g3 => by
  unfold ky
  rw [he.at_, he.at_]
  change ky d _ ≤ ky d _
  rw [show roI s m t i = i by (unfold roI; (repeat' split) <;> omega), show roI s m t j = j by (unfold roI; (repeat' split) <;> omega)]
  exact h _ _ (by omega) (by omega) (by omega)

attribute [local go_sem] bz_size bz_toList run_store_float
set_option maxHeartbeats 8000000 in
theorem merge_gen (g : Nat) (sp : List Value) (c n N : Nat) (hI : Merges g sp c n N) (d : Array Fl) (a m b : Nat) (w : World) (hN : b - a ≤ N + 1) (hn : d.size = n) (h : Row g sp w w d) (hs : Small d) (hl : n < 1000000) (ham : a + 1 < m) (hmb : m + 1 < b) (hb : b ≤ n) (h1 : Srt d a m) (h2 : Srt d m b) :
    Calls Try.prog 86 #[.slice (some ⟨g, 0, none⟩) n c, .int .i64 a, .int .i64 m, .int .i64 b, fV] w fun e w' => e = .returned (.tuple #[]) ∧ ∃ d', Mix a b d d' ∧ Srt d' a b ∧ Row g sp w w' d' := by
  have i1 : IntKind.i64.wrap ((m : Int) - (a : Int)) = (m : Int) - (a : Int) := IntWalk.i64_in _ (by omega)
  have i2 : IntKind.i64.wrap ((b : Int) - (m : Int)) = (b : Int) - (m : Int) := IntWalk.i64_in _ (by omega)
  have i3 : (((m : Int) - (a : Int)) == 1) = false := by rw [beq_eq_false_iff_ne]; omega
  have i4 : (((b : Int) - (m : Int)) == 1) = false := by rw [beq_eq_false_iff_ne]; omega
  obtain ⟨mid, hmid⟩ : ∃ mid, mid = (a + b) / 2 := ⟨_, rfl⟩
  have i5 : ((a : Int) + (b : Int)) / 2 = (mid : Int) := by omega
  obtain ⟨nn, hnn⟩ : ∃ nn, nn = mid + m := ⟨_, rfl⟩
  have i6 : (mid : Int) + (m : Int) = (nn : Int) := by omega
  obtain ⟨P, hP⟩ : ∃ P, P = nn - 1 := ⟨_, rfl⟩
  have i7 : IntKind.i64.wrap ((nn : Int) - 1) = (P : Int) := by rw [IntWalk.i64_in _ (by omega)]; omega
  have l1 : mid < b := by omega
  have l2 : a < mid := by omega
  have hR := fun (s t : Nat) (W : World) (h : Row g sp W W d) (q1 : s < m) (q2 : m < t) (q3 : t ≤ n) => rotate_any g sp d c s m t fV W h (by omega) q1 q2 (by omega)
  rw [hn] at hR
  obtain ⟨s0, r0, hE⟩ : ∃ s0 r0, Ends a m b mid s0 r0 := by
    by_cases hm : mid < m
    · exact ⟨_, _, .inl ⟨hm, rfl, rfl⟩⟩
    · exact ⟨_, _, .inr ⟨by omega, rfl, rfl⟩⟩
  have k1 : a ≤ s0 ∧ s0 ≤ r0 ∧ r0 ≤ m ∧ r0 ≤ mid ∧ nn ≤ s0 + b := by unfold Ends at hE; omega
  obtain ⟨k1, k2, k3, k4, k5⟩ := k1
  have hE' := hE
  replace h := hide h; replace hn := hide hn; replace hs := hide hs; replace h1 := hide h1; replace h2 := hide h2; replace hI := hide hI; replace hR := hide hR; replace hmid := hide hmid; replace hnn := hide hnn; replace hP := hide hP; replace hN := hide hN; replace hE := hide hE
  unfold Ends at hE'
  rcases hE' with ⟨j1, j2, j3⟩ | ⟨j1, j2, j3⟩
  · have i8 : IntKind.i64.wrap ((nn : Int) - (b : Int)) = (s0 : Int) := by rw [IntWalk.i64_in _ (by have := unhide hnn; omega)]; have := unhide hnn; omega
    have j4 : mid < m := j1
    clear j1
    replace j2 := hide j2; replace j3 := hide j3
    go_enter Try.func86, Try.ntmps86
    go_upto_region 33 with (fail)
    go_loopw [20, 21] (fun i j wr => ∃ (x y : Nat), s0 ≤ x ∧ x ≤ y ∧ y ≤ r0 ∧ i = .int .i64 x ∧ j = .int .i64 y ∧ Hid (SM d nn s0 r0 x y) ∧ Hid (Row g sp w wr d)) (fun i j _ => (intOf j).toNat - (intOf i).toNat)
    case atStart => exact ⟨s0, r0, Nat.le_refl _, k2, Nat.le_refl _, by first | rfl | rw [unhide j2], by first | rfl | rw [unhide j3], hide (SM.start d nn s0 r0), h⟩
    case round =>
      clear i1 i2 i3 i4 i5 i7 j4
      obtain ⟨x, y, hx, hxy, hy, rfl, rfl, hB, hr⟩ := hrel
      by_cases hlt : x < y
      · skip
        obtain ⟨q, hq⟩ : ∃ q : Nat, q = (x + y) / 2 := ⟨_, rfl⟩
        have hQ : ((x : Int) + (y : Int)) / 2 = (q : Int) := by omega
        have q1 : x ≤ q := by omega
        have q2 : q < y := by omega
        have q3 : q < n := by omega
        clear hq
        have hsm := unhide hs
        have p1 : q ≤ P := by have := unhide hP; have := unhide hnn; omega
        have p2 : IntKind.i64.wrap ((P : Int) - (q : Int)) = ((P - q : Nat) : Int) := by rw [IntWalk.i64_in _ (by have := unhide hP; have := unhide hnn; omega)]; omega
        have p3 : P - q < n := by have := unhide hP; have := unhide hnn; omega
        obtain ⟨Z, hZ⟩ : ∃ Z, Z = cmpN (ky d (P - q)) (ky d (q)) := ⟨_, rfl⟩
        have hC := fun W => cmp_at hsm (P - q) (q) Z hZ W
        have hZ2 : Z < 0 ↔ ky d (P - q) < ky d (q) := by rw [hZ]; exact cmpN_neg
        replace hZ2 := hide hZ2
        clear hZ hsm
        obtain ⟨X, hX⟩ : ∃ X, nt d (P - q) = X := ⟨_, rfl⟩
        obtain ⟨Y, hY⟩ : ∃ X, nt d (q) = X := ⟨_, rfl⟩
        have cx := (unhide hr).front (i := P - q) (by have := unhide hn; omega)
        have cy := (unhide hr).front (i := q) (by have := unhide hn; omega)
        rw [hX] at cx hC
        rw [hY] at cy hC
        obtain ⟨x0, x1, x2, x3, x4, x5⟩ := six cx
        obtain ⟨y0, y1, y2, y3, y4, y5⟩ := six cy
        have gl := (unhide hr).lt
        have u0 := fun p : Lat wr => lat_cell p gl x0
        have v0 := fun p : Lat wr => lat_cell p gl y0
        have u1 := fun p : Lat wr => lat_cell p gl x1
        have v1 := fun p : Lat wr => lat_cell p gl y1
        have u2 := fun p : Lat wr => lat_cell p gl x2
        have v2 := fun p : Lat wr => lat_cell p gl y2
        have u3 := fun p : Lat wr => lat_cell p gl x3
        have v3 := fun p : Lat wr => lat_cell p gl y3
        have u4 := fun p : Lat wr => lat_cell p gl x4
        have v4 := fun p : Lat wr => lat_cell p gl y4
        have u5 := fun p : Lat wr => lat_cell p gl x5
        have v5 := fun p : Lat wr => lat_cell p gl y5
        clear cx cy x0 x1 x2 x3 x4 x5 y0 y1 y2 y3 y4 y5
        replace hX := hide hX; replace hY := hide hY; replace hC := hide hC
        go_upto_region 35 with (fail)
        refine wp_region_lat (by kernel_rfl) (by kernel_rfl) ?_
        repeat (go_big_quiet_step ((rename_i zz; go_at_call 53; exact Calls.lat_of (p := zz) (unhide hC zz.W))))
        refine wpQuiet_nil ?_
        rintro _ ⟨⟨w1, hb1⟩, rfl⟩
        have r2 := hide ((unhide hr).lat hb1)
        clear hr hb1 gl u0 u1 u2 u3 u4 u5 v0 v1 v2 v3 v4 v5
        clear hC hX hY
        by_cases hz : Z < 0
        · have hz2 := (unhide hZ2).1 hz
          have hd : decide (Z < 0) = true := decide_eq_true hz
          have hd2 : (!decide (Z < 0)) = false := by simp [hz]
          generalize (!decide (Z < 0)) = B at *
          subst hd2
          replace hz2 := hide hz2
          go_wp2
          go_roundw
          case rel => exact ⟨x, q, hx, by omega, by omega, rfl, by go_num, hide ((unhide hB).down (by have := unhide hz2; rw [unhide hP] at this; exact this)), r2⟩
          case measure => simp [intOf]; omega
        · have hz2 := Nat.not_lt.1 fun h => hz ((unhide hZ2).2 h)
          have hd : decide (Z < 0) = false := decide_eq_false hz
          have hd2 : (!decide (Z < 0)) = true := by simp [hz]
          generalize (!decide (Z < 0)) = B at *
          subst hd2
          replace hz2 := hide hz2
          go_wp2
          go_roundw
          case rel => exact ⟨q + 1, y, by omega, by omega, hy, by go_num, rfl, hide ((unhide hB).up (by have := unhide hz2; rw [unhide hP] at this; exact this)), r2⟩
          case measure => simp [intOf]; omega
      · obtain rfl : x = y := by omega
        clear hlt hxy
        have hB2 := unhide hB
        replace hB2 := hide hB2
        clear hB
        obtain ⟨t, ht⟩ : ∃ t, t = nn - x := ⟨_, rfl⟩
        have t1 : IntKind.i64.wrap ((nn : Int) - (x : Int)) = (t : Int) := by rw [IntWalk.i64_in _ (by have := unhide hnn; omega)]; omega
        have t2 : t ≤ b := by omega
        have t3 : x + t = nn := by have := unhide hnn; omega
        have ht' : t = mid + m - x := by rw [ht, unhide hnn]
        replace ht' := hide ht'
        clear ht
        have z1 : x ≤ m := by omega
        have z2 : x ≤ mid := by omega
        have z3 : a ≤ x := by omega
        have z4 : mid ≤ t := by have := unhide hnn; omega
        have z5 : m ≤ t := by have := unhide hnn; omega
        by_cases fA : x < m
        · by_cases fB : m < t
          · by_cases fC : a < x
            · by_cases fD : t < b
              · have fA2 : mid < t := by have := unhide hnn; omega
                have fB2 : x < mid := by have := unhide hnn; omega
                have tk : True := trivial
                go_wp2_with (first
                  | (go_at_call 89; refine (unhide hR x t _ (unhide hr).self fA fB (by omega)).mono ?_; rintro ez w2 ⟨rfl, e, he, hr2⟩; replace he := hide he; replace hr2 := hide hr2; have hsE := hide (Small.by (unhide hs) (unhide he)); have hlE := hide ((unhide he).len.trans (unhide hn)))
                  | (have _tk := tk; clear tk _tk; go_at_call 86; refine ((unhide hI) e a x mid _ (by have := unhide hN; omega) (unhide hlE) (unhide hr2).self (unhide hsE) fC fB2 (by omega) (srt_lo1 (unhide he) (unhide h1) (by have := unhide hnn; omega)) (srt_lo2 (mid := mid) (unhide he) (unhide h2) (by have := unhide hnn; omega) (by have := unhide hnn; omega) (by have := unhide hnn; omega))).mono ?_; rintro ez w3 ⟨rfl, f, m1, s1, hr3⟩; replace m1 := hide m1; replace s1 := hide s1; replace hr3 := hide hr3; have hsF := hide ((unhide hsE).mix (unhide m1)); have hlF := hide ((unhide m1).len.trans (unhide hlE)))
                  | (go_at_call 86; refine ((unhide hI) f mid t b _ (by have := unhide hN; omega) (unhide hlF) (unhide hr3).self (unhide hsF) fA2 fD (by omega) ((srt_hi1 (mid := mid) (unhide he) (unhide h1) (by have := unhide hnn; omega) (by have := unhide hnn; omega) (by have := unhide hnn; omega)).out (unhide m1) (.inr (Nat.le_refl _))) ((srt_hi2 (unhide he) (unhide h2) (by have := unhide hnn; omega) (by have := unhide hnn; omega)).out (unhide m1) (.inr (by omega)))).mono ?_; rintro ez w4 ⟨rfl, k, m2, s2, hr4⟩; replace m2 := hide m2; replace s2 := hide s2; replace hr4 := hide hr4)
                  | fail)
                all_goals
                  have fin := merge_all (by have := unhide hn; omega) (unhide hE) (by omega) (by omega) (unhide hmid) (unhide h1) (unhide h2) (by omega) (by omega) (by have := unhide hB2; rwa [unhide hnn] at this) (by have := unhide he; rwa [unhide ht'] at this) (unhide m1) (unhide s1) (unhide m2) (unhide s2)
                  go_end0
                  exact ⟨rfl, _, fin.1, fin.2, ((((unhide hr).trans (unhide hr2)).trans (unhide hr3)).trans (unhide hr4))⟩
              · have fA2 : mid < t := by have := unhide hnn; omega
                have fB2 : x < mid := by have := unhide hnn; omega
                have tk : True := trivial
                go_wp2_with (first
                  | (go_at_call 89; refine (unhide hR x t _ (unhide hr).self fA fB (by omega)).mono ?_; rintro ez w2 ⟨rfl, e, he, hr2⟩; replace he := hide he; replace hr2 := hide hr2; have hsE := hide (Small.by (unhide hs) (unhide he)); have hlE := hide ((unhide he).len.trans (unhide hn)))
                  | (have _tk := tk; clear tk _tk; go_at_call 86; refine ((unhide hI) e a x mid _ (by have := unhide hN; omega) (unhide hlE) (unhide hr2).self (unhide hsE) fC fB2 (by omega) (srt_lo1 (unhide he) (unhide h1) (by have := unhide hnn; omega)) (srt_lo2 (mid := mid) (unhide he) (unhide h2) (by have := unhide hnn; omega) (by have := unhide hnn; omega) (by have := unhide hnn; omega))).mono ?_; rintro ez w3 ⟨rfl, f, m1, s1, hr3⟩; replace m1 := hide m1; replace s1 := hide s1; replace hr3 := hide hr3; have hsF := hide ((unhide hsE).mix (unhide m1)); have hlF := hide ((unhide m1).len.trans (unhide hlE)))
                  | fail)
                all_goals
                  have fin := merge_all (by have := unhide hn; omega) (unhide hE) (by omega) (by omega) (unhide hmid) (unhide h1) (unhide h2) (by omega) (by omega) (by have := unhide hB2; rwa [unhide hnn] at this) (by have := unhide he; rwa [unhide ht'] at this) (unhide m1) (unhide s1) (Mix.refl _ _ _) ((ends_hi (unhide hE) (by omega) (by omega) (unhide hmid) (unhide h1) (unhide h2) (by omega) (by omega) (by have := unhide he; rwa [unhide ht'] at this) (by have := unhide ht'; omega)).out (unhide m1) (.inr (Nat.le_refl _)))
                  go_end0
                  exact ⟨rfl, _, fin.1, fin.2, (((unhide hr).trans (unhide hr2)).trans (unhide hr3))⟩
            · by_cases fD : t < b
              · have fA2 : mid < t := by have := unhide hnn; omega
                have fB2 : x < mid := by have := unhide hnn; omega
                have tk : True := trivial
                go_wp2_with (first
                  | (go_at_call 89; refine (unhide hR x t _ (unhide hr).self fA fB (by omega)).mono ?_; rintro ez w2 ⟨rfl, e, he, hr2⟩; replace he := hide he; replace hr2 := hide hr2; have hsE := hide (Small.by (unhide hs) (unhide he)); have hlE := hide ((unhide he).len.trans (unhide hn)))
                  | (go_at_call 86; refine ((unhide hI) e mid t b _ (by have := unhide hN; omega) (unhide hlE) (unhide hr2).self (unhide hsE) fA2 fD (by omega) (srt_hi1 (mid := mid) (unhide he) (unhide h1) (by have := unhide hnn; omega) (by have := unhide hnn; omega) (by have := unhide hnn; omega)) (srt_hi2 (unhide he) (unhide h2) (by have := unhide hnn; omega) (by have := unhide hnn; omega))).mono ?_; rintro ez w4 ⟨rfl, k, m2, s2, hr4⟩; replace m2 := hide m2; replace s2 := hide s2; replace hr4 := hide hr4)
                  | fail)
                all_goals
                  have fin := merge_all (by have := unhide hn; omega) (unhide hE) (by omega) (by omega) (unhide hmid) (unhide h1) (unhide h2) (by omega) (by omega) (by have := unhide hB2; rwa [unhide hnn] at this) (by have := unhide he; rwa [unhide ht'] at this) (Mix.refl _ _ _) (ends_lo (unhide hE) (by omega) (by omega) (unhide hmid) (unhide h1) (unhide h2) (by omega) (by omega) (by have := unhide he; rwa [unhide ht'] at this) (by omega)) (unhide m2) (unhide s2)
                  go_end0
                  exact ⟨rfl, _, fin.1, fin.2, (((unhide hr).trans (unhide hr2)).trans (unhide hr4))⟩
              · have fA2 : mid < t := by have := unhide hnn; omega
                have fB2 : x < mid := by have := unhide hnn; omega
                have tk : True := trivial
                go_wp2_with (first
                  | (go_at_call 89; refine (unhide hR x t _ (unhide hr).self fA fB (by omega)).mono ?_; rintro ez w2 ⟨rfl, e, he, hr2⟩; replace he := hide he; replace hr2 := hide hr2; have hsE := hide (Small.by (unhide hs) (unhide he)); have hlE := hide ((unhide he).len.trans (unhide hn)))
                  | fail)
                all_goals
                  have fin := merge_all (by have := unhide hn; omega) (unhide hE) (by omega) (by omega) (unhide hmid) (unhide h1) (unhide h2) (by omega) (by omega) (by have := unhide hB2; rwa [unhide hnn] at this) (by have := unhide he; rwa [unhide ht'] at this) (Mix.refl _ _ _) (ends_lo (unhide hE) (by omega) (by omega) (unhide hmid) (unhide h1) (unhide h2) (by omega) (by omega) (by have := unhide he; rwa [unhide ht'] at this) (by omega)) (Mix.refl _ _ _) ((ends_hi (unhide hE) (by omega) (by omega) (unhide hmid) (unhide h1) (unhide h2) (by omega) (by omega) (by have := unhide he; rwa [unhide ht'] at this) (by have := unhide ht'; omega)))
                  go_end0
                  exact ⟨rfl, _, fin.1, fin.2, ((unhide hr).trans (unhide hr2))⟩
          · by_cases fC : a < x
            · by_cases fD : t < b
              · have fA2 : mid < t := by have := unhide hnn; omega
                have fB2 : ¬ x < mid := by have := unhide hnn; omega
                have he : Hid (By (roI x m t) d d) := hide (by have := half_self (unhide hE) (by omega) (by omega) (unhide hmid) (by omega) (by have := unhide ht'; omega) rfl (d := d) (e := d) (s := x); rwa [← unhide ht'] at this)
                have tk : True := trivial
                go_wp2_with (first
                  | (go_at_call 86; refine ((unhide hI) d mid t b _ (by have := unhide hN; omega) (unhide hn) (unhide hr).self (unhide hs) fA2 fD (by omega) (srt_hi1 (mid := mid) (unhide he) (unhide h1) (by have := unhide hnn; omega) (by have := unhide hnn; omega) (by have := unhide hnn; omega)) (srt_hi2 (unhide he) (unhide h2) (by have := unhide hnn; omega) (by have := unhide hnn; omega))).mono ?_; rintro ez w4 ⟨rfl, k, m2, s2, hr4⟩; replace m2 := hide m2; replace s2 := hide s2; replace hr4 := hide hr4)
                  | fail)
                all_goals
                  have fin := merge_all (by have := unhide hn; omega) (unhide hE) (by omega) (by omega) (unhide hmid) (unhide h1) (unhide h2) (by omega) (by omega) (by have := unhide hB2; rwa [unhide hnn] at this) (by have := unhide he; rwa [unhide ht'] at this) (Mix.refl _ _ _) (ends_lo (unhide hE) (by omega) (by omega) (unhide hmid) (unhide h1) (unhide h2) (by omega) (by omega) (by have := unhide he; rwa [unhide ht'] at this) (by omega)) (unhide m2) (unhide s2)
                  go_end0
                  exact ⟨rfl, _, fin.1, fin.2, ((unhide hr).trans (unhide hr4))⟩
              · have fA2 : mid < t := by have := unhide hnn; omega
                have fB2 : ¬ x < mid := by have := unhide hnn; omega
                have he : Hid (By (roI x m t) d d) := hide (by have := half_self (unhide hE) (by omega) (by omega) (unhide hmid) (by omega) (by have := unhide ht'; omega) rfl (d := d) (e := d) (s := x); rwa [← unhide ht'] at this)
                have tk : True := trivial
                go_wp2
                all_goals
                  have fin := merge_all (by have := unhide hn; omega) (unhide hE) (by omega) (by omega) (unhide hmid) (unhide h1) (unhide h2) (by omega) (by omega) (by have := unhide hB2; rwa [unhide hnn] at this) (by have := unhide he; rwa [unhide ht'] at this) (Mix.refl _ _ _) (ends_lo (unhide hE) (by omega) (by omega) (unhide hmid) (unhide h1) (unhide h2) (by omega) (by omega) (by have := unhide he; rwa [unhide ht'] at this) (by omega)) (Mix.refl _ _ _) ((ends_hi (unhide hE) (by omega) (by omega) (unhide hmid) (unhide h1) (unhide h2) (by omega) (by omega) (by have := unhide he; rwa [unhide ht'] at this) (by have := unhide ht'; omega)))
                  go_end0
                  exact ⟨rfl, _, fin.1, fin.2, (unhide hr)⟩
            · by_cases fD : t < b
              · have fA2 : mid < t := by have := unhide hnn; omega
                have fB2 : ¬ x < mid := by have := unhide hnn; omega
                have he : Hid (By (roI x m t) d d) := hide (by have := half_self (unhide hE) (by omega) (by omega) (unhide hmid) (by omega) (by have := unhide ht'; omega) rfl (d := d) (e := d) (s := x); rwa [← unhide ht'] at this)
                have tk : True := trivial
                go_wp2_with (first
                  | (go_at_call 86; refine ((unhide hI) d mid t b _ (by have := unhide hN; omega) (unhide hn) (unhide hr).self (unhide hs) fA2 fD (by omega) (srt_hi1 (mid := mid) (unhide he) (unhide h1) (by have := unhide hnn; omega) (by have := unhide hnn; omega) (by have := unhide hnn; omega)) (srt_hi2 (unhide he) (unhide h2) (by have := unhide hnn; omega) (by have := unhide hnn; omega))).mono ?_; rintro ez w4 ⟨rfl, k, m2, s2, hr4⟩; replace m2 := hide m2; replace s2 := hide s2; replace hr4 := hide hr4)
                  | fail)
                all_goals
                  have fin := merge_all (by have := unhide hn; omega) (unhide hE) (by omega) (by omega) (unhide hmid) (unhide h1) (unhide h2) (by omega) (by omega) (by have := unhide hB2; rwa [unhide hnn] at this) (by have := unhide he; rwa [unhide ht'] at this) (Mix.refl _ _ _) (ends_lo (unhide hE) (by omega) (by omega) (unhide hmid) (unhide h1) (unhide h2) (by omega) (by omega) (by have := unhide he; rwa [unhide ht'] at this) (by omega)) (unhide m2) (unhide s2)
                  go_end0
                  exact ⟨rfl, _, fin.1, fin.2, ((unhide hr).trans (unhide hr4))⟩
              · have fA2 : mid < t := by have := unhide hnn; omega
                have fB2 : ¬ x < mid := by have := unhide hnn; omega
                have he : Hid (By (roI x m t) d d) := hide (by have := half_self (unhide hE) (by omega) (by omega) (unhide hmid) (by omega) (by have := unhide ht'; omega) rfl (d := d) (e := d) (s := x); rwa [← unhide ht'] at this)
                have tk : True := trivial
                go_wp2
                all_goals
                  have fin := merge_all (by have := unhide hn; omega) (unhide hE) (by omega) (by omega) (unhide hmid) (unhide h1) (unhide h2) (by omega) (by omega) (by have := unhide hB2; rwa [unhide hnn] at this) (by have := unhide he; rwa [unhide ht'] at this) (Mix.refl _ _ _) (ends_lo (unhide hE) (by omega) (by omega) (unhide hmid) (unhide h1) (unhide h2) (by omega) (by omega) (by have := unhide he; rwa [unhide ht'] at this) (by omega)) (Mix.refl _ _ _) ((ends_hi (unhide hE) (by omega) (by omega) (unhide hmid) (unhide h1) (unhide h2) (by omega) (by omega) (by have := unhide he; rwa [unhide ht'] at this) (by have := unhide ht'; omega)))
                  go_end0
                  exact ⟨rfl, _, fin.1, fin.2, (unhide hr)⟩
        · by_cases fB : m < t
          · by_cases fC : a < x
            · by_cases fD : t < b
              · have fA2 : ¬ mid < t := by have := unhide hnn; omega
                have fB2 : x < mid := by have := unhide hnn; omega
                have he : Hid (By (roI x m t) d d) := hide (by have := half_self (unhide hE) (by omega) (by omega) (unhide hmid) (by omega) (by have := unhide ht'; omega) rfl (d := d) (e := d) (s := x); rwa [← unhide ht'] at this)
                have tk : True := trivial
                go_wp2_with (first
                  | (have _tk := tk; clear tk _tk; go_at_call 86; refine ((unhide hI) d a x mid _ (by have := unhide hN; omega) (unhide hn) (unhide hr).self (unhide hs) fC fB2 (by omega) (srt_lo1 (unhide he) (unhide h1) (by have := unhide hnn; omega)) (srt_lo2 (mid := mid) (unhide he) (unhide h2) (by have := unhide hnn; omega) (by have := unhide hnn; omega) (by have := unhide hnn; omega))).mono ?_; rintro ez w3 ⟨rfl, f, m1, s1, hr3⟩; replace m1 := hide m1; replace s1 := hide s1; replace hr3 := hide hr3; have hsF := hide ((unhide hs).mix (unhide m1)); have hlF := hide ((unhide m1).len.trans (unhide hn)))
                  | fail)
                all_goals
                  have fin := merge_all (by have := unhide hn; omega) (unhide hE) (by omega) (by omega) (unhide hmid) (unhide h1) (unhide h2) (by omega) (by omega) (by have := unhide hB2; rwa [unhide hnn] at this) (by have := unhide he; rwa [unhide ht'] at this) (unhide m1) (unhide s1) (Mix.refl _ _ _) ((ends_hi (unhide hE) (by omega) (by omega) (unhide hmid) (unhide h1) (unhide h2) (by omega) (by omega) (by have := unhide he; rwa [unhide ht'] at this) (by have := unhide ht'; omega)).out (unhide m1) (.inr (Nat.le_refl _)))
                  go_end0
                  exact ⟨rfl, _, fin.1, fin.2, ((unhide hr).trans (unhide hr3))⟩
              · have fA2 : ¬ mid < t := by have := unhide hnn; omega
                have fB2 : x < mid := by have := unhide hnn; omega
                have he : Hid (By (roI x m t) d d) := hide (by have := half_self (unhide hE) (by omega) (by omega) (unhide hmid) (by omega) (by have := unhide ht'; omega) rfl (d := d) (e := d) (s := x); rwa [← unhide ht'] at this)
                have tk : True := trivial
                go_wp2_with (first
                  | (have _tk := tk; clear tk _tk; go_at_call 86; refine ((unhide hI) d a x mid _ (by have := unhide hN; omega) (unhide hn) (unhide hr).self (unhide hs) fC fB2 (by omega) (srt_lo1 (unhide he) (unhide h1) (by have := unhide hnn; omega)) (srt_lo2 (mid := mid) (unhide he) (unhide h2) (by have := unhide hnn; omega) (by have := unhide hnn; omega) (by have := unhide hnn; omega))).mono ?_; rintro ez w3 ⟨rfl, f, m1, s1, hr3⟩; replace m1 := hide m1; replace s1 := hide s1; replace hr3 := hide hr3; have hsF := hide ((unhide hs).mix (unhide m1)); have hlF := hide ((unhide m1).len.trans (unhide hn)))
                  | fail)
                all_goals
                  have fin := merge_all (by have := unhide hn; omega) (unhide hE) (by omega) (by omega) (unhide hmid) (unhide h1) (unhide h2) (by omega) (by omega) (by have := unhide hB2; rwa [unhide hnn] at this) (by have := unhide he; rwa [unhide ht'] at this) (unhide m1) (unhide s1) (Mix.refl _ _ _) ((ends_hi (unhide hE) (by omega) (by omega) (unhide hmid) (unhide h1) (unhide h2) (by omega) (by omega) (by have := unhide he; rwa [unhide ht'] at this) (by have := unhide ht'; omega)).out (unhide m1) (.inr (Nat.le_refl _)))
                  go_end0
                  exact ⟨rfl, _, fin.1, fin.2, ((unhide hr).trans (unhide hr3))⟩
            · by_cases fD : t < b
              · have fA2 : ¬ mid < t := by have := unhide hnn; omega
                have fB2 : x < mid := by have := unhide hnn; omega
                have he : Hid (By (roI x m t) d d) := hide (by have := half_self (unhide hE) (by omega) (by omega) (unhide hmid) (by omega) (by have := unhide ht'; omega) rfl (d := d) (e := d) (s := x); rwa [← unhide ht'] at this)
                have tk : True := trivial
                go_wp2
                all_goals
                  have fin := merge_all (by have := unhide hn; omega) (unhide hE) (by omega) (by omega) (unhide hmid) (unhide h1) (unhide h2) (by omega) (by omega) (by have := unhide hB2; rwa [unhide hnn] at this) (by have := unhide he; rwa [unhide ht'] at this) (Mix.refl _ _ _) (ends_lo (unhide hE) (by omega) (by omega) (unhide hmid) (unhide h1) (unhide h2) (by omega) (by omega) (by have := unhide he; rwa [unhide ht'] at this) (by omega)) (Mix.refl _ _ _) ((ends_hi (unhide hE) (by omega) (by omega) (unhide hmid) (unhide h1) (unhide h2) (by omega) (by omega) (by have := unhide he; rwa [unhide ht'] at this) (by have := unhide ht'; omega)))
                  go_end0
                  exact ⟨rfl, _, fin.1, fin.2, (unhide hr)⟩
              · have fA2 : ¬ mid < t := by have := unhide hnn; omega
                have fB2 : x < mid := by have := unhide hnn; omega
                have he : Hid (By (roI x m t) d d) := hide (by have := half_self (unhide hE) (by omega) (by omega) (unhide hmid) (by omega) (by have := unhide ht'; omega) rfl (d := d) (e := d) (s := x); rwa [← unhide ht'] at this)
                have tk : True := trivial
                go_wp2
                all_goals
                  have fin := merge_all (by have := unhide hn; omega) (unhide hE) (by omega) (by omega) (unhide hmid) (unhide h1) (unhide h2) (by omega) (by omega) (by have := unhide hB2; rwa [unhide hnn] at this) (by have := unhide he; rwa [unhide ht'] at this) (Mix.refl _ _ _) (ends_lo (unhide hE) (by omega) (by omega) (unhide hmid) (unhide h1) (unhide h2) (by omega) (by omega) (by have := unhide he; rwa [unhide ht'] at this) (by omega)) (Mix.refl _ _ _) ((ends_hi (unhide hE) (by omega) (by omega) (unhide hmid) (unhide h1) (unhide h2) (by omega) (by omega) (by have := unhide he; rwa [unhide ht'] at this) (by have := unhide ht'; omega)))
                  go_end0
                  exact ⟨rfl, _, fin.1, fin.2, (unhide hr)⟩
          · by_cases fC : a < x
            · by_cases fD : t < b
              · have fA2 : ¬ mid < t := by have := unhide hnn; omega
                have fB2 : ¬ x < mid := by have := unhide hnn; omega
                have he : Hid (By (roI x m t) d d) := hide (by have := half_self (unhide hE) (by omega) (by omega) (unhide hmid) (by omega) (by have := unhide ht'; omega) rfl (d := d) (e := d) (s := x); rwa [← unhide ht'] at this)
                have tk : True := trivial
                go_wp2
                all_goals
                  have fin := merge_all (by have := unhide hn; omega) (unhide hE) (by omega) (by omega) (unhide hmid) (unhide h1) (unhide h2) (by omega) (by omega) (by have := unhide hB2; rwa [unhide hnn] at this) (by have := unhide he; rwa [unhide ht'] at this) (Mix.refl _ _ _) (ends_lo (unhide hE) (by omega) (by omega) (unhide hmid) (unhide h1) (unhide h2) (by omega) (by omega) (by have := unhide he; rwa [unhide ht'] at this) (by omega)) (Mix.refl _ _ _) ((ends_hi (unhide hE) (by omega) (by omega) (unhide hmid) (unhide h1) (unhide h2) (by omega) (by omega) (by have := unhide he; rwa [unhide ht'] at this) (by have := unhide ht'; omega)))
                  go_end0
                  exact ⟨rfl, _, fin.1, fin.2, (unhide hr)⟩
              · have fA2 : ¬ mid < t := by have := unhide hnn; omega
                have fB2 : ¬ x < mid := by have := unhide hnn; omega
                have he : Hid (By (roI x m t) d d) := hide (by have := half_self (unhide hE) (by omega) (by omega) (unhide hmid) (by omega) (by have := unhide ht'; omega) rfl (d := d) (e := d) (s := x); rwa [← unhide ht'] at this)
                have tk : True := trivial
                go_wp2
                all_goals
                  have fin := merge_all (by have := unhide hn; omega) (unhide hE) (by omega) (by omega) (unhide hmid) (unhide h1) (unhide h2) (by omega) (by omega) (by have := unhide hB2; rwa [unhide hnn] at this) (by have := unhide he; rwa [unhide ht'] at this) (Mix.refl _ _ _) (ends_lo (unhide hE) (by omega) (by omega) (unhide hmid) (unhide h1) (unhide h2) (by omega) (by omega) (by have := unhide he; rwa [unhide ht'] at this) (by omega)) (Mix.refl _ _ _) ((ends_hi (unhide hE) (by omega) (by omega) (unhide hmid) (unhide h1) (unhide h2) (by omega) (by omega) (by have := unhide he; rwa [unhide ht'] at this) (by have := unhide ht'; omega)))
                  go_end0
                  exact ⟨rfl, _, fin.1, fin.2, (unhide hr)⟩
            · by_cases fD : t < b
              · have fA2 : ¬ mid < t := by have := unhide hnn; omega
                have fB2 : ¬ x < mid := by have := unhide hnn; omega
                have he : Hid (By (roI x m t) d d) := hide (by have := half_self (unhide hE) (by omega) (by omega) (unhide hmid) (by omega) (by have := unhide ht'; omega) rfl (d := d) (e := d) (s := x); rwa [← unhide ht'] at this)
                have tk : True := trivial
                go_wp2
                all_goals
                  have fin := merge_all (by have := unhide hn; omega) (unhide hE) (by omega) (by omega) (unhide hmid) (unhide h1) (unhide h2) (by omega) (by omega) (by have := unhide hB2; rwa [unhide hnn] at this) (by have := unhide he; rwa [unhide ht'] at this) (Mix.refl _ _ _) (ends_lo (unhide hE) (by omega) (by omega) (unhide hmid) (unhide h1) (unhide h2) (by omega) (by omega) (by have := unhide he; rwa [unhide ht'] at this) (by omega)) (Mix.refl _ _ _) ((ends_hi (unhide hE) (by omega) (by omega) (unhide hmid) (unhide h1) (unhide h2) (by omega) (by omega) (by have := unhide he; rwa [unhide ht'] at this) (by have := unhide ht'; omega)))
                  go_end0
                  exact ⟨rfl, _, fin.1, fin.2, (unhide hr)⟩
              · have fA2 : ¬ mid < t := by have := unhide hnn; omega
                have fB2 : ¬ x < mid := by have := unhide hnn; omega
                have he : Hid (By (roI x m t) d d) := hide (by have := half_self (unhide hE) (by omega) (by omega) (unhide hmid) (by omega) (by have := unhide ht'; omega) rfl (d := d) (e := d) (s := x); rwa [← unhide ht'] at this)
                have tk : True := trivial
                go_wp2
                all_goals
                  have fin := merge_all (by have := unhide hn; omega) (unhide hE) (by omega) (by omega) (unhide hmid) (unhide h1) (unhide h2) (by omega) (by omega) (by have := unhide hB2; rwa [unhide hnn] at this) (by have := unhide he; rwa [unhide ht'] at this) (Mix.refl _ _ _) (ends_lo (unhide hE) (by omega) (by omega) (unhide hmid) (unhide h1) (unhide h2) (by omega) (by omega) (by have := unhide he; rwa [unhide ht'] at this) (by omega)) (Mix.refl _ _ _) ((ends_hi (unhide hE) (by omega) (by omega) (unhide hmid) (unhide h1) (unhide h2) (by omega) (by omega) (by have := unhide he; rwa [unhide ht'] at this) (by have := unhide ht'; omega)))
                  go_end0
                  exact ⟨rfl, _, fin.1, fin.2, (unhide hr)⟩

  · have j4 : ¬ mid < m := by omega
    clear j1
    replace j2 := hide j2; replace j3 := hide j3
    go_enter Try.func86, Try.ntmps86
    go_upto_region 33 with (fail)
    go_loopw [20, 21] (fun i j wr => ∃ (x y : Nat), s0 ≤ x ∧ x ≤ y ∧ y ≤ r0 ∧ i = .int .i64 x ∧ j = .int .i64 y ∧ Hid (SM d nn s0 r0 x y) ∧ Hid (Row g sp w wr d)) (fun i j _ => (intOf j).toNat - (intOf i).toNat)
    case atStart => exact ⟨s0, r0, Nat.le_refl _, k2, Nat.le_refl _, by first | rfl | rw [unhide j2], by first | rfl | rw [unhide j3], hide (SM.start d nn s0 r0), h⟩
    case round =>
      clear i1 i2 i3 i4 i5 i7 j4
      obtain ⟨x, y, hx, hxy, hy, rfl, rfl, hB, hr⟩ := hrel
      by_cases hlt : x < y
      · skip
        obtain ⟨q, hq⟩ : ∃ q : Nat, q = (x + y) / 2 := ⟨_, rfl⟩
        have hQ : ((x : Int) + (y : Int)) / 2 = (q : Int) := by omega
        have q1 : x ≤ q := by omega
        have q2 : q < y := by omega
        have q3 : q < n := by omega
        clear hq
        have hsm := unhide hs
        have p1 : q ≤ P := by have := unhide hP; have := unhide hnn; omega
        have p2 : IntKind.i64.wrap ((P : Int) - (q : Int)) = ((P - q : Nat) : Int) := by rw [IntWalk.i64_in _ (by have := unhide hP; have := unhide hnn; omega)]; omega
        have p3 : P - q < n := by have := unhide hP; have := unhide hnn; omega
        obtain ⟨Z, hZ⟩ : ∃ Z, Z = cmpN (ky d (P - q)) (ky d (q)) := ⟨_, rfl⟩
        have hC := fun W => cmp_at hsm (P - q) (q) Z hZ W
        have hZ2 : Z < 0 ↔ ky d (P - q) < ky d (q) := by rw [hZ]; exact cmpN_neg
        replace hZ2 := hide hZ2
        clear hZ hsm
        obtain ⟨X, hX⟩ : ∃ X, nt d (P - q) = X := ⟨_, rfl⟩
        obtain ⟨Y, hY⟩ : ∃ X, nt d (q) = X := ⟨_, rfl⟩
        have cx := (unhide hr).front (i := P - q) (by have := unhide hn; omega)
        have cy := (unhide hr).front (i := q) (by have := unhide hn; omega)
        rw [hX] at cx hC
        rw [hY] at cy hC
        obtain ⟨x0, x1, x2, x3, x4, x5⟩ := six cx
        obtain ⟨y0, y1, y2, y3, y4, y5⟩ := six cy
        have gl := (unhide hr).lt
        have u0 := fun p : Lat wr => lat_cell p gl x0
        have v0 := fun p : Lat wr => lat_cell p gl y0
        have u1 := fun p : Lat wr => lat_cell p gl x1
        have v1 := fun p : Lat wr => lat_cell p gl y1
        have u2 := fun p : Lat wr => lat_cell p gl x2
        have v2 := fun p : Lat wr => lat_cell p gl y2
        have u3 := fun p : Lat wr => lat_cell p gl x3
        have v3 := fun p : Lat wr => lat_cell p gl y3
        have u4 := fun p : Lat wr => lat_cell p gl x4
        have v4 := fun p : Lat wr => lat_cell p gl y4
        have u5 := fun p : Lat wr => lat_cell p gl x5
        have v5 := fun p : Lat wr => lat_cell p gl y5
        clear cx cy x0 x1 x2 x3 x4 x5 y0 y1 y2 y3 y4 y5
        replace hX := hide hX; replace hY := hide hY; replace hC := hide hC
        go_upto_region 35 with (fail)
        refine wp_region_lat (by kernel_rfl) (by kernel_rfl) ?_
        repeat (go_big_quiet_step ((rename_i zz; go_at_call 53; exact Calls.lat_of (p := zz) (unhide hC zz.W))))
        refine wpQuiet_nil ?_
        rintro _ ⟨⟨w1, hb1⟩, rfl⟩
        have r2 := hide ((unhide hr).lat hb1)
        clear hr hb1 gl u0 u1 u2 u3 u4 u5 v0 v1 v2 v3 v4 v5
        clear hC hX hY
        by_cases hz : Z < 0
        · have hz2 := (unhide hZ2).1 hz
          have hd : decide (Z < 0) = true := decide_eq_true hz
          have hd2 : (!decide (Z < 0)) = false := by simp [hz]
          generalize (!decide (Z < 0)) = B at *
          subst hd2
          replace hz2 := hide hz2
          go_wp2
          go_roundw
          case rel => exact ⟨x, q, hx, by omega, by omega, rfl, by go_num, hide ((unhide hB).down (by have := unhide hz2; rw [unhide hP] at this; exact this)), r2⟩
          case measure => simp [intOf]; omega
        · have hz2 := Nat.not_lt.1 fun h => hz ((unhide hZ2).2 h)
          have hd : decide (Z < 0) = false := decide_eq_false hz
          have hd2 : (!decide (Z < 0)) = true := by simp [hz]
          generalize (!decide (Z < 0)) = B at *
          subst hd2
          replace hz2 := hide hz2
          go_wp2
          go_roundw
          case rel => exact ⟨q + 1, y, by omega, by omega, hy, by go_num, rfl, hide ((unhide hB).up (by have := unhide hz2; rw [unhide hP] at this; exact this)), r2⟩
          case measure => simp [intOf]; omega
      · obtain rfl : x = y := by omega
        clear hlt hxy
        have hB2 := unhide hB
        replace hB2 := hide hB2
        clear hB
        obtain ⟨t, ht⟩ : ∃ t, t = nn - x := ⟨_, rfl⟩
        have t1 : IntKind.i64.wrap ((nn : Int) - (x : Int)) = (t : Int) := by rw [IntWalk.i64_in _ (by have := unhide hnn; omega)]; omega
        have t2 : t ≤ b := by omega
        have t3 : x + t = nn := by have := unhide hnn; omega
        have ht' : t = mid + m - x := by rw [ht, unhide hnn]
        replace ht' := hide ht'
        clear ht
        have z1 : x ≤ m := by omega
        have z2 : x ≤ mid := by omega
        have z3 : a ≤ x := by omega
        have z4 : mid ≤ t := by have := unhide hnn; omega
        have z5 : m ≤ t := by have := unhide hnn; omega
        by_cases fA : x < m
        · by_cases fB : m < t
          · by_cases fC : a < x
            · by_cases fD : t < b
              · have fA2 : mid < t := by have := unhide hnn; omega
                have fB2 : x < mid := by have := unhide hnn; omega
                have tk : True := trivial
                go_wp2_with (first
                  | (go_at_call 89; refine (unhide hR x t _ (unhide hr).self fA fB (by omega)).mono ?_; rintro ez w2 ⟨rfl, e, he, hr2⟩; replace he := hide he; replace hr2 := hide hr2; have hsE := hide (Small.by (unhide hs) (unhide he)); have hlE := hide ((unhide he).len.trans (unhide hn)))
                  | (have _tk := tk; clear tk _tk; go_at_call 86; refine ((unhide hI) e a x mid _ (by have := unhide hN; omega) (unhide hlE) (unhide hr2).self (unhide hsE) fC fB2 (by omega) (srt_lo1 (unhide he) (unhide h1) (by have := unhide hnn; omega)) (srt_lo2 (mid := mid) (unhide he) (unhide h2) (by have := unhide hnn; omega) (by have := unhide hnn; omega) (by have := unhide hnn; omega))).mono ?_; rintro ez w3 ⟨rfl, f, m1, s1, hr3⟩; replace m1 := hide m1; replace s1 := hide s1; replace hr3 := hide hr3; have hsF := hide ((unhide hsE).mix (unhide m1)); have hlF := hide ((unhide m1).len.trans (unhide hlE)))
                  | (go_at_call 86; refine ((unhide hI) f mid t b _ (by have := unhide hN; omega) (unhide hlF) (unhide hr3).self (unhide hsF) fA2 fD (by omega) ((srt_hi1 (mid := mid) (unhide he) (unhide h1) (by have := unhide hnn; omega) (by have := unhide hnn; omega) (by have := unhide hnn; omega)).out (unhide m1) (.inr (Nat.le_refl _))) ((srt_hi2 (unhide he) (unhide h2) (by have := unhide hnn; omega) (by have := unhide hnn; omega)).out (unhide m1) (.inr (by omega)))).mono ?_; rintro ez w4 ⟨rfl, k, m2, s2, hr4⟩; replace m2 := hide m2; replace s2 := hide s2; replace hr4 := hide hr4)
                  | fail)
                all_goals
                  have fin := merge_all (by have := unhide hn; omega) (unhide hE) (by omega) (by omega) (unhide hmid) (unhide h1) (unhide h2) (by omega) (by omega) (by have := unhide hB2; rwa [unhide hnn] at this) (by have := unhide he; rwa [unhide ht'] at this) (unhide m1) (unhide s1) (unhide m2) (unhide s2)
                  go_end0
                  exact ⟨rfl, _, fin.1, fin.2, ((((unhide hr).trans (unhide hr2)).trans (unhide hr3)).trans (unhide hr4))⟩
              · have fA2 : mid < t := by have := unhide hnn; omega
                have fB2 : x < mid := by have := unhide hnn; omega
                have tk : True := trivial
                go_wp2_with (first
                  | (go_at_call 89; refine (unhide hR x t _ (unhide hr).self fA fB (by omega)).mono ?_; rintro ez w2 ⟨rfl, e, he, hr2⟩; replace he := hide he; replace hr2 := hide hr2; have hsE := hide (Small.by (unhide hs) (unhide he)); have hlE := hide ((unhide he).len.trans (unhide hn)))
                  | (have _tk := tk; clear tk _tk; go_at_call 86; refine ((unhide hI) e a x mid _ (by have := unhide hN; omega) (unhide hlE) (unhide hr2).self (unhide hsE) fC fB2 (by omega) (srt_lo1 (unhide he) (unhide h1) (by have := unhide hnn; omega)) (srt_lo2 (mid := mid) (unhide he) (unhide h2) (by have := unhide hnn; omega) (by have := unhide hnn; omega) (by have := unhide hnn; omega))).mono ?_; rintro ez w3 ⟨rfl, f, m1, s1, hr3⟩; replace m1 := hide m1; replace s1 := hide s1; replace hr3 := hide hr3; have hsF := hide ((unhide hsE).mix (unhide m1)); have hlF := hide ((unhide m1).len.trans (unhide hlE)))
                  | fail)
                all_goals
                  have fin := merge_all (by have := unhide hn; omega) (unhide hE) (by omega) (by omega) (unhide hmid) (unhide h1) (unhide h2) (by omega) (by omega) (by have := unhide hB2; rwa [unhide hnn] at this) (by have := unhide he; rwa [unhide ht'] at this) (unhide m1) (unhide s1) (Mix.refl _ _ _) ((ends_hi (unhide hE) (by omega) (by omega) (unhide hmid) (unhide h1) (unhide h2) (by omega) (by omega) (by have := unhide he; rwa [unhide ht'] at this) (by have := unhide ht'; omega)).out (unhide m1) (.inr (Nat.le_refl _)))
                  go_end0
                  exact ⟨rfl, _, fin.1, fin.2, (((unhide hr).trans (unhide hr2)).trans (unhide hr3))⟩
            · by_cases fD : t < b
              · have fA2 : mid < t := by have := unhide hnn; omega
                have fB2 : x < mid := by have := unhide hnn; omega
                have tk : True := trivial
                go_wp2_with (first
                  | (go_at_call 89; refine (unhide hR x t _ (unhide hr).self fA fB (by omega)).mono ?_; rintro ez w2 ⟨rfl, e, he, hr2⟩; replace he := hide he; replace hr2 := hide hr2; have hsE := hide (Small.by (unhide hs) (unhide he)); have hlE := hide ((unhide he).len.trans (unhide hn)))
                  | (go_at_call 86; refine ((unhide hI) e mid t b _ (by have := unhide hN; omega) (unhide hlE) (unhide hr2).self (unhide hsE) fA2 fD (by omega) (srt_hi1 (mid := mid) (unhide he) (unhide h1) (by have := unhide hnn; omega) (by have := unhide hnn; omega) (by have := unhide hnn; omega)) (srt_hi2 (unhide he) (unhide h2) (by have := unhide hnn; omega) (by have := unhide hnn; omega))).mono ?_; rintro ez w4 ⟨rfl, k, m2, s2, hr4⟩; replace m2 := hide m2; replace s2 := hide s2; replace hr4 := hide hr4)
                  | fail)
                all_goals
                  have fin := merge_all (by have := unhide hn; omega) (unhide hE) (by omega) (by omega) (unhide hmid) (unhide h1) (unhide h2) (by omega) (by omega) (by have := unhide hB2; rwa [unhide hnn] at this) (by have := unhide he; rwa [unhide ht'] at this) (Mix.refl _ _ _) (ends_lo (unhide hE) (by omega) (by omega) (unhide hmid) (unhide h1) (unhide h2) (by omega) (by omega) (by have := unhide he; rwa [unhide ht'] at this) (by omega)) (unhide m2) (unhide s2)
                  go_end0
                  exact ⟨rfl, _, fin.1, fin.2, (((unhide hr).trans (unhide hr2)).trans (unhide hr4))⟩
              · have fA2 : mid < t := by have := unhide hnn; omega
                have fB2 : x < mid := by have := unhide hnn; omega
                have tk : True := trivial
                go_wp2_with (first
                  | (go_at_call 89; refine (unhide hR x t _ (unhide hr).self fA fB (by omega)).mono ?_; rintro ez w2 ⟨rfl, e, he, hr2⟩; replace he := hide he; replace hr2 := hide hr2; have hsE := hide (Small.by (unhide hs) (unhide he)); have hlE := hide ((unhide he).len.trans (unhide hn)))
                  | fail)
                all_goals
                  have fin := merge_all (by have := unhide hn; omega) (unhide hE) (by omega) (by omega) (unhide hmid) (unhide h1) (unhide h2) (by omega) (by omega) (by have := unhide hB2; rwa [unhide hnn] at this) (by have := unhide he; rwa [unhide ht'] at this) (Mix.refl _ _ _) (ends_lo (unhide hE) (by omega) (by omega) (unhide hmid) (unhide h1) (unhide h2) (by omega) (by omega) (by have := unhide he; rwa [unhide ht'] at this) (by omega)) (Mix.refl _ _ _) ((ends_hi (unhide hE) (by omega) (by omega) (unhide hmid) (unhide h1) (unhide h2) (by omega) (by omega) (by have := unhide he; rwa [unhide ht'] at this) (by have := unhide ht'; omega)))
                  go_end0
                  exact ⟨rfl, _, fin.1, fin.2, ((unhide hr).trans (unhide hr2))⟩
          · by_cases fC : a < x
            · by_cases fD : t < b
              · have fA2 : mid < t := by have := unhide hnn; omega
                have fB2 : ¬ x < mid := by have := unhide hnn; omega
                have he : Hid (By (roI x m t) d d) := hide (by have := half_self (unhide hE) (by omega) (by omega) (unhide hmid) (by omega) (by have := unhide ht'; omega) rfl (d := d) (e := d) (s := x); rwa [← unhide ht'] at this)
                have tk : True := trivial
                go_wp2_with (first
                  | (go_at_call 86; refine ((unhide hI) d mid t b _ (by have := unhide hN; omega) (unhide hn) (unhide hr).self (unhide hs) fA2 fD (by omega) (srt_hi1 (mid := mid) (unhide he) (unhide h1) (by have := unhide hnn; omega) (by have := unhide hnn; omega) (by have := unhide hnn; omega)) (srt_hi2 (unhide he) (unhide h2) (by have := unhide hnn; omega) (by have := unhide hnn; omega))).mono ?_; rintro ez w4 ⟨rfl, k, m2, s2, hr4⟩; replace m2 := hide m2; replace s2 := hide s2; replace hr4 := hide hr4)
                  | fail)
                all_goals
                  have fin := merge_all (by have := unhide hn; omega) (unhide hE) (by omega) (by omega) (unhide hmid) (unhide h1) (unhide h2) (by omega) (by omega) (by have := unhide hB2; rwa [unhide hnn] at this) (by have := unhide he; rwa [unhide ht'] at this) (Mix.refl _ _ _) (ends_lo (unhide hE) (by omega) (by omega) (unhide hmid) (unhide h1) (unhide h2) (by omega) (by omega) (by have := unhide he; rwa [unhide ht'] at this) (by omega)) (unhide m2) (unhide s2)
                  go_end0
                  exact ⟨rfl, _, fin.1, fin.2, ((unhide hr).trans (unhide hr4))⟩
              · have fA2 : mid < t := by have := unhide hnn; omega
                have fB2 : ¬ x < mid := by have := unhide hnn; omega
                have he : Hid (By (roI x m t) d d) := hide (by have := half_self (unhide hE) (by omega) (by omega) (unhide hmid) (by omega) (by have := unhide ht'; omega) rfl (d := d) (e := d) (s := x); rwa [← unhide ht'] at this)
                have tk : True := trivial
                go_wp2
                all_goals
                  have fin := merge_all (by have := unhide hn; omega) (unhide hE) (by omega) (by omega) (unhide hmid) (unhide h1) (unhide h2) (by omega) (by omega) (by have := unhide hB2; rwa [unhide hnn] at this) (by have := unhide he; rwa [unhide ht'] at this) (Mix.refl _ _ _) (ends_lo (unhide hE) (by omega) (by omega) (unhide hmid) (unhide h1) (unhide h2) (by omega) (by omega) (by have := unhide he; rwa [unhide ht'] at this) (by omega)) (Mix.refl _ _ _) ((ends_hi (unhide hE) (by omega) (by omega) (unhide hmid) (unhide h1) (unhide h2) (by omega) (by omega) (by have := unhide he; rwa [unhide ht'] at this) (by have := unhide ht'; omega)))
                  go_end0
                  exact ⟨rfl, _, fin.1, fin.2, (unhide hr)⟩
            · by_cases fD : t < b
              · have fA2 : mid < t := by have := unhide hnn; omega
                have fB2 : ¬ x < mid := by have := unhide hnn; omega
                have he : Hid (By (roI x m t) d d) := hide (by have := half_self (unhide hE) (by omega) (by omega) (unhide hmid) (by omega) (by have := unhide ht'; omega) rfl (d := d) (e := d) (s := x); rwa [← unhide ht'] at this)
                have tk : True := trivial
                go_wp2_with (first
                  | (go_at_call 86; refine ((unhide hI) d mid t b _ (by have := unhide hN; omega) (unhide hn) (unhide hr).self (unhide hs) fA2 fD (by omega) (srt_hi1 (mid := mid) (unhide he) (unhide h1) (by have := unhide hnn; omega) (by have := unhide hnn; omega) (by have := unhide hnn; omega)) (srt_hi2 (unhide he) (unhide h2) (by have := unhide hnn; omega) (by have := unhide hnn; omega))).mono ?_; rintro ez w4 ⟨rfl, k, m2, s2, hr4⟩; replace m2 := hide m2; replace s2 := hide s2; replace hr4 := hide hr4)
                  | fail)
                all_goals
                  have fin := merge_all (by have := unhide hn; omega) (unhide hE) (by omega) (by omega) (unhide hmid) (unhide h1) (unhide h2) (by omega) (by omega) (by have := unhide hB2; rwa [unhide hnn] at this) (by have := unhide he; rwa [unhide ht'] at this) (Mix.refl _ _ _) (ends_lo (unhide hE) (by omega) (by omega) (unhide hmid) (unhide h1) (unhide h2) (by omega) (by omega) (by have := unhide he; rwa [unhide ht'] at this) (by omega)) (unhide m2) (unhide s2)
                  go_end0
                  exact ⟨rfl, _, fin.1, fin.2, ((unhide hr).trans (unhide hr4))⟩
              · have fA2 : mid < t := by have := unhide hnn; omega
                have fB2 : ¬ x < mid := by have := unhide hnn; omega
                have he : Hid (By (roI x m t) d d) := hide (by have := half_self (unhide hE) (by omega) (by omega) (unhide hmid) (by omega) (by have := unhide ht'; omega) rfl (d := d) (e := d) (s := x); rwa [← unhide ht'] at this)
                have tk : True := trivial
                go_wp2
                all_goals
                  have fin := merge_all (by have := unhide hn; omega) (unhide hE) (by omega) (by omega) (unhide hmid) (unhide h1) (unhide h2) (by omega) (by omega) (by have := unhide hB2; rwa [unhide hnn] at this) (by have := unhide he; rwa [unhide ht'] at this) (Mix.refl _ _ _) (ends_lo (unhide hE) (by omega) (by omega) (unhide hmid) (unhide h1) (unhide h2) (by omega) (by omega) (by have := unhide he; rwa [unhide ht'] at this) (by omega)) (Mix.refl _ _ _) ((ends_hi (unhide hE) (by omega) (by omega) (unhide hmid) (unhide h1) (unhide h2) (by omega) (by omega) (by have := unhide he; rwa [unhide ht'] at this) (by have := unhide ht'; omega)))
                  go_end0
                  exact ⟨rfl, _, fin.1, fin.2, (unhide hr)⟩
        · by_cases fB : m < t
          · by_cases fC : a < x
            · by_cases fD : t < b
              · have fA2 : ¬ mid < t := by have := unhide hnn; omega
                have fB2 : x < mid := by have := unhide hnn; omega
                have he : Hid (By (roI x m t) d d) := hide (by have := half_self (unhide hE) (by omega) (by omega) (unhide hmid) (by omega) (by have := unhide ht'; omega) rfl (d := d) (e := d) (s := x); rwa [← unhide ht'] at this)
                have tk : True := trivial
                go_wp2_with (first
                  | (have _tk := tk; clear tk _tk; go_at_call 86; refine ((unhide hI) d a x mid _ (by have := unhide hN; omega) (unhide hn) (unhide hr).self (unhide hs) fC fB2 (by omega) (srt_lo1 (unhide he) (unhide h1) (by have := unhide hnn; omega)) (srt_lo2 (mid := mid) (unhide he) (unhide h2) (by have := unhide hnn; omega) (by have := unhide hnn; omega) (by have := unhide hnn; omega))).mono ?_; rintro ez w3 ⟨rfl, f, m1, s1, hr3⟩; replace m1 := hide m1; replace s1 := hide s1; replace hr3 := hide hr3; have hsF := hide ((unhide hs).mix (unhide m1)); have hlF := hide ((unhide m1).len.trans (unhide hn)))
                  | fail)
                all_goals
                  have fin := merge_all (by have := unhide hn; omega) (unhide hE) (by omega) (by omega) (unhide hmid) (unhide h1) (unhide h2) (by omega) (by omega) (by have := unhide hB2; rwa [unhide hnn] at this) (by have := unhide he; rwa [unhide ht'] at this) (unhide m1) (unhide s1) (Mix.refl _ _ _) ((ends_hi (unhide hE) (by omega) (by omega) (unhide hmid) (unhide h1) (unhide h2) (by omega) (by omega) (by have := unhide he; rwa [unhide ht'] at this) (by have := unhide ht'; omega)).out (unhide m1) (.inr (Nat.le_refl _)))
                  go_end0
                  exact ⟨rfl, _, fin.1, fin.2, ((unhide hr).trans (unhide hr3))⟩
              · have fA2 : ¬ mid < t := by have := unhide hnn; omega
                have fB2 : x < mid := by have := unhide hnn; omega
                have he : Hid (By (roI x m t) d d) := hide (by have := half_self (unhide hE) (by omega) (by omega) (unhide hmid) (by omega) (by have := unhide ht'; omega) rfl (d := d) (e := d) (s := x); rwa [← unhide ht'] at this)
                have tk : True := trivial
                go_wp2_with (first
                  | (have _tk := tk; clear tk _tk; go_at_call 86; refine ((unhide hI) d a x mid _ (by have := unhide hN; omega) (unhide hn) (unhide hr).self (unhide hs) fC fB2 (by omega) (srt_lo1 (unhide he) (unhide h1) (by have := unhide hnn; omega)) (srt_lo2 (mid := mid) (unhide he) (unhide h2) (by have := unhide hnn; omega) (by have := unhide hnn; omega) (by have := unhide hnn; omega))).mono ?_; rintro ez w3 ⟨rfl, f, m1, s1, hr3⟩; replace m1 := hide m1; replace s1 := hide s1; replace hr3 := hide hr3; have hsF := hide ((unhide hs).mix (unhide m1)); have hlF := hide ((unhide m1).len.trans (unhide hn)))
                  | fail)
                all_goals
                  have fin := merge_all (by have := unhide hn; omega) (unhide hE) (by omega) (by omega) (unhide hmid) (unhide h1) (unhide h2) (by omega) (by omega) (by have := unhide hB2; rwa [unhide hnn] at this) (by have := unhide he; rwa [unhide ht'] at this) (unhide m1) (unhide s1) (Mix.refl _ _ _) ((ends_hi (unhide hE) (by omega) (by omega) (unhide hmid) (unhide h1) (unhide h2) (by omega) (by omega) (by have := unhide he; rwa [unhide ht'] at this) (by have := unhide ht'; omega)).out (unhide m1) (.inr (Nat.le_refl _)))
                  go_end0
                  exact ⟨rfl, _, fin.1, fin.2, ((unhide hr).trans (unhide hr3))⟩
            · by_cases fD : t < b
              · have fA2 : ¬ mid < t := by have := unhide hnn; omega
                have fB2 : x < mid := by have := unhide hnn; omega
                have he : Hid (By (roI x m t) d d) := hide (by have := half_self (unhide hE) (by omega) (by omega) (unhide hmid) (by omega) (by have := unhide ht'; omega) rfl (d := d) (e := d) (s := x); rwa [← unhide ht'] at this)
                have tk : True := trivial
                go_wp2
                all_goals
                  have fin := merge_all (by have := unhide hn; omega) (unhide hE) (by omega) (by omega) (unhide hmid) (unhide h1) (unhide h2) (by omega) (by omega) (by have := unhide hB2; rwa [unhide hnn] at this) (by have := unhide he; rwa [unhide ht'] at this) (Mix.refl _ _ _) (ends_lo (unhide hE) (by omega) (by omega) (unhide hmid) (unhide h1) (unhide h2) (by omega) (by omega) (by have := unhide he; rwa [unhide ht'] at this) (by omega)) (Mix.refl _ _ _) ((ends_hi (unhide hE) (by omega) (by omega) (unhide hmid) (unhide h1) (unhide h2) (by omega) (by omega) (by have := unhide he; rwa [unhide ht'] at this) (by have := unhide ht'; omega)))
                  go_end0
                  exact ⟨rfl, _, fin.1, fin.2, (unhide hr)⟩
              · have fA2 : ¬ mid < t := by have := unhide hnn; omega
                have fB2 : x < mid := by have := unhide hnn; omega
                have he : Hid (By (roI x m t) d d) := hide (by have := half_self (unhide hE) (by omega) (by omega) (unhide hmid) (by omega) (by have := unhide ht'; omega) rfl (d := d) (e := d) (s := x); rwa [← unhide ht'] at this)
                have tk : True := trivial
                go_wp2
                all_goals
                  have fin := merge_all (by have := unhide hn; omega) (unhide hE) (by omega) (by omega) (unhide hmid) (unhide h1) (unhide h2) (by omega) (by omega) (by have := unhide hB2; rwa [unhide hnn] at this) (by have := unhide he; rwa [unhide ht'] at this) (Mix.refl _ _ _) (ends_lo (unhide hE) (by omega) (by omega) (unhide hmid) (unhide h1) (unhide h2) (by omega) (by omega) (by have := unhide he; rwa [unhide ht'] at this) (by omega)) (Mix.refl _ _ _) ((ends_hi (unhide hE) (by omega) (by omega) (unhide hmid) (unhide h1) (unhide h2) (by omega) (by omega) (by have := unhide he; rwa [unhide ht'] at this) (by have := unhide ht'; omega)))
                  go_end0
                  exact ⟨rfl, _, fin.1, fin.2, (unhide hr)⟩
          · by_cases fC : a < x
            · by_cases fD : t < b
              · have fA2 : ¬ mid < t := by have := unhide hnn; omega
                have fB2 : ¬ x < mid := by have := unhide hnn; omega
                have he : Hid (By (roI x m t) d d) := hide (by have := half_self (unhide hE) (by omega) (by omega) (unhide hmid) (by omega) (by have := unhide ht'; omega) rfl (d := d) (e := d) (s := x); rwa [← unhide ht'] at this)
                have tk : True := trivial
                go_wp2
                all_goals
                  have fin := merge_all (by have := unhide hn; omega) (unhide hE) (by omega) (by omega) (unhide hmid) (unhide h1) (unhide h2) (by omega) (by omega) (by have := unhide hB2; rwa [unhide hnn] at this) (by have := unhide he; rwa [unhide ht'] at this) (Mix.refl _ _ _) (ends_lo (unhide hE) (by omega) (by omega) (unhide hmid) (unhide h1) (unhide h2) (by omega) (by omega) (by have := unhide he; rwa [unhide ht'] at this) (by omega)) (Mix.refl _ _ _) ((ends_hi (unhide hE) (by omega) (by omega) (unhide hmid) (unhide h1) (unhide h2) (by omega) (by omega) (by have := unhide he; rwa [unhide ht'] at this) (by have := unhide ht'; omega)))
                  go_end0
                  exact ⟨rfl, _, fin.1, fin.2, (unhide hr)⟩
              · have fA2 : ¬ mid < t := by have := unhide hnn; omega
                have fB2 : ¬ x < mid := by have := unhide hnn; omega
                have he : Hid (By (roI x m t) d d) := hide (by have := half_self (unhide hE) (by omega) (by omega) (unhide hmid) (by omega) (by have := unhide ht'; omega) rfl (d := d) (e := d) (s := x); rwa [← unhide ht'] at this)
                have tk : True := trivial
                go_wp2
                all_goals
                  have fin := merge_all (by have := unhide hn; omega) (unhide hE) (by omega) (by omega) (unhide hmid) (unhide h1) (unhide h2) (by omega) (by omega) (by have := unhide hB2; rwa [unhide hnn] at this) (by have := unhide he; rwa [unhide ht'] at this) (Mix.refl _ _ _) (ends_lo (unhide hE) (by omega) (by omega) (unhide hmid) (unhide h1) (unhide h2) (by omega) (by omega) (by have := unhide he; rwa [unhide ht'] at this) (by omega)) (Mix.refl _ _ _) ((ends_hi (unhide hE) (by omega) (by omega) (unhide hmid) (unhide h1) (unhide h2) (by omega) (by omega) (by have := unhide he; rwa [unhide ht'] at this) (by have := unhide ht'; omega)))
                  go_end0
                  exact ⟨rfl, _, fin.1, fin.2, (unhide hr)⟩
            · by_cases fD : t < b
              · have fA2 : ¬ mid < t := by have := unhide hnn; omega
                have fB2 : ¬ x < mid := by have := unhide hnn; omega
                have he : Hid (By (roI x m t) d d) := hide (by have := half_self (unhide hE) (by omega) (by omega) (unhide hmid) (by omega) (by have := unhide ht'; omega) rfl (d := d) (e := d) (s := x); rwa [← unhide ht'] at this)
                have tk : True := trivial
                go_wp2
                all_goals
                  have fin := merge_all (by have := unhide hn; omega) (unhide hE) (by omega) (by omega) (unhide hmid) (unhide h1) (unhide h2) (by omega) (by omega) (by have := unhide hB2; rwa [unhide hnn] at this) (by have := unhide he; rwa [unhide ht'] at this) (Mix.refl _ _ _) (ends_lo (unhide hE) (by omega) (by omega) (unhide hmid) (unhide h1) (unhide h2) (by omega) (by omega) (by have := unhide he; rwa [unhide ht'] at this) (by omega)) (Mix.refl _ _ _) ((ends_hi (unhide hE) (by omega) (by omega) (unhide hmid) (unhide h1) (unhide h2) (by omega) (by omega) (by have := unhide he; rwa [unhide ht'] at this) (by have := unhide ht'; omega)))
                  go_end0
                  exact ⟨rfl, _, fin.1, fin.2, (unhide hr)⟩
              · have fA2 : ¬ mid < t := by have := unhide hnn; omega
                have fB2 : ¬ x < mid := by have := unhide hnn; omega
                have he : Hid (By (roI x m t) d d) := hide (by have := half_self (unhide hE) (by omega) (by omega) (unhide hmid) (by omega) (by have := unhide ht'; omega) rfl (d := d) (e := d) (s := x); rwa [← unhide ht'] at this)
                have tk : True := trivial
                go_wp2
                all_goals
                  have fin := merge_all (by have := unhide hn; omega) (unhide hE) (by omega) (by omega) (unhide hmid) (unhide h1) (unhide h2) (by omega) (by omega) (by have := unhide hB2; rwa [unhide hnn] at this) (by have := unhide he; rwa [unhide ht'] at this) (Mix.refl _ _ _) (ends_lo (unhide hE) (by omega) (by omega) (unhide hmid) (unhide h1) (unhide h2) (by omega) (by omega) (by have := unhide he; rwa [unhide ht'] at this) (by omega)) (Mix.refl _ _ _) ((ends_hi (unhide hE) (by omega) (by omega) (unhide hmid) (unhide h1) (unhide h2) (by omega) (by omega) (by have := unhide he; rwa [unhide ht'] at this) (by have := unhide ht'; omega)))
                  go_end0
                  exact ⟨rfl, _, fin.1, fin.2, (unhide hr)⟩

end Go.Proofs.Ytkgfmiicfegnlaa
