import Derived.Test.YtkgfmiicfegnlaaV3
namespace Go.Proofs.Ytkgfmiicfegnlaa
open Go.RowKit
set_option maxRecDepth 100000

/-- Each rank is a word. -/
def Small (d : Array Fl) : Prop := ∀ i, (nt d i).rk < 18446744073709551616
theorem Small.mix {a b : Nat} {d e : Array Fl} (h : Small d) (m : Mix a b d e) : Small e := fun i => by
  by_cases hi : a ≤ i ∧ i < b
  · obtain ⟨k, _, _, e⟩ := m.ins i hi.1 hi.2
    rw [e]; exact h k
  · rw [m.out i (by omega)]; exact h i
theorem Small.by {p : Nat → Nat} {d e : Array Fl} (h : Small d) (m : By p d e) : Small e := fun i => by rw [m.at_]; exact h _
/-- The comparison handed over. -/
abbrev fV : Value := .func (.func 53) #[] #[]
theorem cmpN_neg {x y : Nat} : cmpN x y < 0 ↔ x < y := by unfold cmpN; split; (· omega); split <;> omega
theorem cmpN_key (a b : Fl) : cmpN (keyF b.rk) (keyF a.rk) = cmpN (rkey a) (rkey b) := by
  have h1 := key_bound a.rk
  have h2 := key_bound b.rk
  unfold cmpN rkey
  (repeat' split) <;> omega
theorem best_any (a b : Fl) (ha : a.rk < 18446744073709551616) (hb : b.rk < 18446744073709551616) (w : World) :
    Calls Try.prog 53 #[(.agg #[.string (bz a.nm), .float .f64 a.rk, .int .u32 a.sm, .int .i64 a.bk, .int .i64 a.fr, .int .i64 a.ln]), (.agg #[.string (bz b.nm), .float .f64 b.rk, .int .u32 b.sm, .int .i64 b.bk, .int .i64 b.fr, .int .i64 b.ln])] w fun e w' => e = .returned (.int .i64 (cmpN (rkey a) (rkey b))) ∧ Below w.heap.size w w' := by
  have h := fun W => Cmp_any b.rk a.rk hb ha W
  rw [cmpN_key] at h
  clear ha hb
  generalize cmpN (rkey a) (rkey b) = z at *
  replace h := hide h
  go_enter Try.func53, Try.ntmps53
  go_wp2_with (go_at_call 30; refine (unhide h _).mono ?_; rintro e w1 ⟨rfl, rfl⟩)
  go_ret
  exact ⟨rfl, bl_alloc (bl_alloc (Below.refl _ _) _) _⟩
theorem cmp_at {e : Array Fl} (hs : Small e) (p q : Nat) (Z : Int) (hz : Z = cmpN (ky e p) (ky e q)) (w : World) : Calls Try.prog 53 #[(.agg #[.string (bz (nt e p).nm), .float .f64 (nt e p).rk, .int .u32 (nt e p).sm, .int .i64 (nt e p).bk, .int .i64 (nt e p).fr, .int .i64 (nt e p).ln]), (.agg #[.string (bz (nt e q).nm), .float .f64 (nt e q).rk, .int .u32 (nt e q).sm, .int .i64 (nt e q).bk, .int .i64 (nt e q).fr, .int .i64 (nt e q).ln])] w fun r w' => r = .returned (.int .i64 Z) ∧ Below w.heap.size w w' := by
  rw [hz]; exact best_any _ _ (hs p) (hs q) w

attribute [local go_sem] bz_size bz_toList run_store_float
set_option maxHeartbeats 2000000 in
theorem insertion_any (g : Nat) (sp : List Value) (d : Array Fl) (c a b : Nat) (w : World) (h : Row g sp w w d) (hs : Small d) (hl : d.size < 1000000) (hab : a ≤ b) (hb : b ≤ d.size) :
    Calls Try.prog 85 #[.slice (some ⟨g, 0, none⟩) d.size c, .int .i64 a, .int .i64 b, fV] w fun e w' => e = .returned (.tuple #[]) ∧ ∃ d', Mix a b d d' ∧ Srt d' a b ∧ Row g sp w w' d' := by
  obtain ⟨n, hn⟩ : ∃ n, n = d.size := ⟨_, rfl⟩
  rw [← hn] at hl hb ⊢
  have i1 : IntKind.i64.wrap ((a : Int) + 1) = (a : Int) + 1 := IntWalk.i64_in _ (by omega)
  replace h := hide h; replace hn := hide hn; replace hs := hide hs
  go_enter Try.func85, Try.ntmps85
  go_wp2_with (fail)
  go_loopw [8] (fun i wr => ∃ (k : Nat) (e : Array Fl), a + 1 ≤ k ∧ (k ≤ b ∨ k = a + 1) ∧ i = .int .i64 k ∧ Hid (Mix a b d e) ∧ Hid (Srt e a k) ∧ Hid (Row g sp w wr e)) (fun i _ => b - (intOf i).toNat)
  case atStart => exact ⟨a + 1, d, by omega, .inr rfl, by go_num, hide (Mix.refl a b d), hide (Srt.short d (by omega)), h⟩
  case round =>
    clear i1
    obtain ⟨k, e, hk, hk2, rfl, hm, hss, hr⟩ := hrel
    by_cases hlt : k < b
    · go_wp2_with (fail)
      go_loopw [9] (fun j wx => ∃ (x : Nat) (e : Array Fl), a ≤ x ∧ x ≤ k ∧ j = .int .i64 x ∧ Hid (Mix a b d e) ∧ Hid (Ins a k x e) ∧ Hid (Row g sp w wx e)) (fun j _ => (intOf j).toNat)
      case atStart => exact ⟨k, e, by omega, Nat.le_refl _, rfl, hm, hide (Ins.start (unhide hss)), hr⟩
      case round =>
        clear hm hss hr
        obtain ⟨x, e, hx, hx2, rfl, hm, hi, hr⟩ := hrel
        have hsm : Small e := (unhide hs).mix (unhide hm)
        have hel : e.size = n := (unhide hm).len.trans (unhide hn).symm
        by_cases hxa : a < x
        · obtain ⟨Z, hZ⟩ : ∃ Z, Z = cmpN (ky e x) (ky e (x - 1)) := ⟨_, rfl⟩
          have hC := fun W => cmp_at hsm x (x - 1) Z hZ W
          have hZ2 : Z < 0 ↔ ky e x < ky e (x - 1) := by rw [hZ]; exact cmpN_neg
          have i2 : IntKind.i64.wrap ((x : Int) - 1) = (x : Int) - 1 := IntWalk.i64_in _ (by omega)
          have hg : decide ((a : Int) < (x : Int)) = true := decide_eq_true (by omega)
          have b1 : x < n := by omega
          have b2 : x - 1 < n := by omega
          replace hZ2 := hide hZ2; replace hsm := hide hsm
          clear hZ
          obtain ⟨X, hX⟩ : ∃ X, nt e (x) = X := ⟨_, rfl⟩
          obtain ⟨Y, hY⟩ : ∃ X, nt e (x - 1) = X := ⟨_, rfl⟩
          have cx := (unhide hr).front (i := x) (by omega)
          have cy := (unhide hr).front (i := x - 1) (by omega)
          rw [hX] at cx hC
          rw [hY] at cy hC
          obtain ⟨x0, x1, x2, x3, x4, x5⟩ := six cx
          obtain ⟨y0, y1, y2, y3, y4, y5⟩ := six cy
          have gl := (unhide hr).lt
          have u0 := fun p : Lat wr => lat_cell p gl x0
          have v0 := fun p : Lat wr => lat_cell p gl y0
          have u1 := fun p : Lat wr => lat_cell p gl x1
          have v1 := fun p : Lat wr => lat_cell p gl y1
          have u2 := fun p : Lat wr => lat_cell p gl x2
          have v2 := fun p : Lat wr => lat_cell p gl y2
          have u3 := fun p : Lat wr => lat_cell p gl x3
          have v3 := fun p : Lat wr => lat_cell p gl y3
          have u4 := fun p : Lat wr => lat_cell p gl x4
          have v4 := fun p : Lat wr => lat_cell p gl y4
          have u5 := fun p : Lat wr => lat_cell p gl x5
          have v5 := fun p : Lat wr => lat_cell p gl y5
          clear cx cy x0 x1 x2 x3 x4 x5 y0 y1 y2 y3 y4 y5
          replace hX := hide hX; replace hY := hide hY; replace hC := hide hC
          go_upto_region 4 with (fail)
          refine wp_region_lat (by kernel_rfl) (by kernel_rfl) ?_
          repeat (go_big_quiet_step ((rename_i zz; go_at_call 53; exact Calls.lat_of (p := zz) (unhide hC zz.W))))
          refine wpQuiet_nil ?_
          rintro _ ⟨⟨w1, hb1⟩, rfl⟩
          have r2 := hide ((unhide hr).lat hb1)
          clear hr hb1 gl u0 u1 u2 u3 u4 u5 v0 v1 v2 v3 v4 v5
          by_cases hz : Z < 0
          · have hz2 := (unhide hZ2).1 hz
            have hd : decide (Z < 0) = true := decide_eq_true hz
            replace hz2 := hide hz2
            have cx := (unhide r2).front (i := x) (by omega)
            have cy := (unhide r2).front (i := x - 1) (by omega)
            rw [unhide hX] at cx
            rw [unhide hY] at cy
            obtain ⟨x0, x1, x2, x3, x4, x5⟩ := six cx
            obtain ⟨y0, y1, y2, y3, y4, y5⟩ := six cy
            have fz := fun i => (unhide r2).frozen i
            clear cx cy
            replace hel := hide hel
            go_wp2_with (fail)
            go_region
            all_goals
              have hr3 := hide (((unhide r2).swap (i := x) (j := x - 1) (by have := unhide hel; omega) (by have := unhide hel; omega) (unhide hX) (unhide hY)).drew)
              have hm2 := Mix.swp (a := a) (b := b) (d := e) (i := x - 1) (by have := unhide hel; omega) (by omega) (by omega) (by rw [show x - 1 + 1 = x by omega]; exact unhide hz2)
              rw [show x - 1 + 1 = x by omega] at hm2
              have hm3 := hide ((unhide hm).trans hm2)
              have hi3 := hide ((unhide hi).step (by omega) hx2 (by have := unhide hel; omega) (unhide hz2))
              clear hm2
              go_wp2
              go_roundw
              case rel => exact ⟨x - 1, _, by omega, by omega, by go_num, hm3, hi3, hr3⟩
              case measure => simp [intOf]; omega
          · have hd : decide (Z < 0) = false := decide_eq_false hz
            have hs3 := hide ((unhide hi).done hx2 hx (.inr (Nat.not_lt.1 fun h => hz ((unhide hZ2).2 h))))
            go_wp2
            go_roundw
            case rel => exact ⟨k + 1, e, by omega, by omega, by go_num, hm, hs3, r2⟩
            case measure => simp [intOf]; omega
        · obtain rfl : x = a := by omega
          have hg : decide ((x : Int) < (x : Int)) = false := decide_eq_false (by omega)
          go_upto_region 4 with (fail)
          go_quiet (fail)
          have hs3 := hide ((unhide hi).done hx2 (Nat.le_refl _) (.inl rfl))
          have r2 := hide ((unhide hr).lat (bl_drewN (Below.refl _ _) nq))
          clear hr
          generalize wr.drewN nq = w1 at *
          go_wp2
          go_roundw
          case rel => exact ⟨k + 1, e, by omega, by omega, by go_num, hm, hs3, r2⟩
          case measure => simp [intOf]; omega
    · go_wp2
      go_end0
      exact ⟨rfl, e, unhide hm, (unhide hss).sub (Nat.le_refl _) (by omega), unhide hr⟩
end Go.Proofs.Ytkgfmiicfegnlaa
