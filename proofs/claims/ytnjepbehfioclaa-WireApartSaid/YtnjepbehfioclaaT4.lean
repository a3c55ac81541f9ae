import Derived.Test.YtnjepbehfioclaaT3
namespace Go.Proofs.Ytnjepbehfioclaa
open Go.RowKit
attribute [local go_sem] bz_size bz_toList run_store_float
set_option maxRecDepth 100000

/-- No error, or the first one. -/
def errB (b : Bool) : Int := if b then 0 else 1
theorem err_t : errB true = 0 := rfl
theorem err_f : errB false = 1 := rfl
set_option maxHeartbeats 1000000 in
theorem refCheckL_any (lo hi : Nat) (v : Value) (l : List Fl) (w : World) (h : Fls lo hi w v l) (hhi : hi ≤ w.heap.size) (hs : SmL l) :
    Calls Try.prog 24 #[v] w fun e W' => e = .returned (.int .i64 (errB (tabB l))) ∧ Below w.heap.size w W' := by
  obtain ⟨A, c, rfl, h1, h2, h3⟩ := h.open6
  clear h
  by_cases h256 : l.length ≤ 256
  · obtain ⟨n, hn⟩ : ∃ n, n = l.length := ⟨_, rfl⟩
    rw [← hn] at h256 h3 h1 ⊢
    replace hn := hide hn; replace h3 := hide h3; replace hs := hide hs; replace h1 := hide h1
    go_enter Try.func24, Try.ntmps24
    go_wp2
    go_loopw [10] (fun i wr => ∃ k : Nat, k ≤ n ∧ i = .int .i64 k ∧ Hid (AtAll l k) ∧ Hid (Below w.heap.size w wr)) (fun i _ => n - (intOf i).toNat)
    case atStart => exact ⟨0, Nat.zero_le _, rfl, hide (fun j hj => absurd hj (Nat.not_lt_zero _)), hide (Below.refl _ _)⟩
    case round =>
      obtain ⟨k, hk, rfl, hall, hB⟩ := hrel
      by_cases hlt : k < n
      · obtain ⟨b, off, rfl, _, hb, hc⟩ := unhide h3 k hlt
        have hb' : b < wr.heap.size := Nat.lt_of_lt_of_le (Nat.lt_of_lt_of_le hb hhi) (unhide hB).size
        have hc' := below_load (unhide hB) (Nat.lt_of_lt_of_le hb hhi) hc
        have hm : nth l k ∈ l := nth_mem (by rw [← unhide hn]; exact hlt)
        have hF := fun W => refMay_any (nth l k) (unhide hs _ hm) W
        obtain ⟨f, hf⟩ : ∃ f, f = nth l k := ⟨_, rfl⟩
        rw [← hf] at hc hc' hF
        replace hF := hide hF; replace hm := hide hm; replace hf := hide hf; obtain ⟨c0, c1, c2, c3, c4, c5⟩ := six hc'; replace hc' := hide hc'
        have g1 : ((wr.alloc (.cells #[.string (bz f.nm), .float .f64 f.rk, .int .u32 f.sm, .int .i64 f.bk, .int .i64 f.fr, .int .i64 f.ln] 26))).heap.size = wr.heap.size + 1 := by simp only [World.size_alloc]
        clear hc
        have hsz : wr.heap.size < (wr.alloc (.cells #[.string (bz f.nm), .float .f64 f.rk, .int .u32 f.sm, .int .i64 f.bk, .int .i64 f.fr, .int .i64 f.ln] 26)).heap.size := by simp only [World.size_alloc]; omega
        have hbx : Blk (wr.alloc (.cells #[.string (bz f.nm), .float .f64 f.rk, .int .u32 f.sm, .int .i64 f.bk, .int .i64 f.fr, .int .i64 f.ln] 26)) wr.heap.size 26 #[.string (bz f.nm), .float .f64 f.rk, .int .u32 f.sm, .int .i64 f.bk, .int .i64 f.fr, .int .i64 f.ln] := Blk.new rfl
        have hB0 : Hid (Below w.heap.size w (wr.alloc (.cells #[.string (bz f.nm), .float .f64 f.rk, .int .u32 f.sm, .int .i64 f.bk, .int .i64 f.fr, .int .i64 f.ln] 26))) := hide ((unhide hB).alloc (unhide hB).size _)
        go_upto_region 6 with (fail)
        clear c0 c1 c2 c3 c4 c5
        generalize wr.alloc (.cells #[.string (bz f.nm), .float .f64 f.rk, .int .u32 f.sm, .int .i64 f.bk, .int .i64 f.fr, .int .i64 f.ln] 26) = W0 at *
        obtain ⟨gb, hgb⟩ : ∃ gb, gb = wr.heap.size := ⟨_, rfl⟩
        rw [← hgb] at hsz hbx hb' ⊢
        replace hgb := hide hgb
        obtain ⟨d0, d1, d2, d3, d4, d5⟩ := bk6 hbx
        have e0 := fun p : Lat W0 => lat_cell p hsz d0
        have e1 := fun p : Lat W0 => lat_cell p hsz d1
        have e2 := fun p : Lat W0 => lat_cell p hsz d2
        have e3 := fun p : Lat W0 => lat_cell p hsz d3
        have e4 := fun p : Lat W0 => lat_cell p hsz d4
        have e5 := fun p : Lat W0 => lat_cell p hsz d5
        clear d0 d1 d2 d3 d4 d5 hbx
        cases hok : okF f with
        | false =>
          have hbad : tabB l = false := tab_bad (k := k) (by rw [← unhide hn]; exact hlt) (by unfold okAt; rw [← unhide hf, hok]; rfl)
          replace hbad := hide hbad
          rw [hok] at hF
          refine wp_region_lat (by kernel_rfl) (by kernel_rfl) ?_
          repeat (go_big_quiet_step ((rename_i y; go_at_call 26; exact Calls.lat_of (p := y) (unhide hF y.W))))
          refine wpQuiet_nil ?_
          rintro _ ⟨⟨W1, B1⟩, rfl⟩
          go_wp2
          go_ret
          exact ⟨ret_i rfl (by rw [unhide hbad]; rfl), (unhide hB0).trans (B1.mono (unhide hB0).size)⟩
        | true =>
          rw [hok] at hF
          cases k with
          | zero =>
            have hg : AtAll l 1 := at_succ (unhide hall) (by unfold okAt; rw [← unhide hf, hok]; rfl)
            replace hg := hide hg
            refine wp_region_lat (by kernel_rfl) (by kernel_rfl) ?_
            repeat (go_big_quiet_step ((rename_i y; go_at_call 26; exact Calls.lat_of (p := y) (unhide hF y.W))))
            refine wpQuiet_nil ?_
            rintro _ ⟨⟨W1, B1⟩, rfl⟩
            go_wp2
            go_roundw
            case rel => exact ⟨1, by omega, by go_num, hg, hide ((unhide hB0).trans (B1.mono (unhide hB0).size))⟩
            case measure => simp [intOf]; omega
          | succ m =>
            have hm1 : m < l.length := by rw [← unhide hn]; omega
            have hat : okF (nth l m) = true := by
              have := unhide hall m (by omega)
              unfold okAt at this
              rw [Bool.and_eq_true] at this
              exact this.1
            obtain ⟨b2, off2, hA2, _, hb2, hc2⟩ := unhide h3 m (by omega)
            injection hA2 with hA2
            injection hA2 with hA3 hA4
            subst hA3 hA4
            have HB := fun W => refLess_any (nth l m).nm f.nm (by have := (unhide hs _ (nth_mem hm1)).1; omega) (by have := (unhide hs _ (unhide hm)).1; rw [unhide hf]; omega) W
            have hcm := below_load (unhide hB0) (Nat.lt_of_lt_of_le hb2 hhi) hc2
            have hb3 : b < W0.heap.size := by omega
            have hkk : okAt l (m + 1) = ltN (nth l m).nm f.nm := by
              unfold okAt
              rw [← unhide hf, hok, Nat.add_sub_cancel, decide_eq_false (by omega), Bool.true_and, Bool.false_or]
            obtain ⟨g, hg⟩ : ∃ g, g = nth l m := ⟨_, rfl⟩
            rw [← hg] at HB hcm hkk
            obtain ⟨x0, x1, x2, x3, x4, x5⟩ := six hcm
            have y0 := fun p : Lat W0 => lat_cell p hb3 x0
            have y1 := fun p : Lat W0 => lat_cell p hb3 x1
            have y2 := fun p : Lat W0 => lat_cell p hb3 x2
            have y3 := fun p : Lat W0 => lat_cell p hb3 x3
            have y4 := fun p : Lat W0 => lat_cell p hb3 x4
            have y5 := fun p : Lat W0 => lat_cell p hb3 x5
            clear x0 x1 x2 x3 x4 x5 hc2 hcm hb2 hat hg
            have i1 : IntKind.i64.wrap (m : Int) = (m : Int) := IntWalk.i64_in _ (by omega)
            rcases lex_cases g.nm f.nm with ⟨hz, hlt2⟩ | ⟨hz, hlt2⟩ | ⟨hz, hlt2⟩
            · (rw [hz] at HB)
              simp only [show decide ((-1 : Int) < 0) = true from rfl] at HB
              rw [hlt2] at hkk
              have hg : AtAll l (m + 2) := at_succ (unhide hall) hkk
              replace hg := hide hg; replace HB := hide HB
              clear hz hlt2 hkk
              refine wp_region_lat (by kernel_rfl) (by kernel_rfl) ?_
              repeat (go_big_quiet_step (first
                | (rename_i y; go_at_call 26; exact Calls.lat_of (p := y) (unhide hF y.W))
                | (rename_i y; go_at_call 37; exact Calls.lat_of (p := y) (unhide HB y.W))))
              refine wpQuiet_nil ?_
              rintro _ ⟨⟨W1, B1⟩, rfl⟩
              go_wp2
              go_roundw
              case rel => exact ⟨m + 2, by omega, by go_num, hg, hide ((unhide hB0).trans (B1.mono (unhide hB0).size))⟩
              case measure => simp [intOf]; omega
            · (rw [hz] at HB)
              simp only [show decide ((0 : Int) < 0) = false from rfl] at HB
              rw [hlt2, lt_self] at hkk
              have hbad : tabB l = false := tab_bad (k := m + 1) (by rw [← unhide hn]; exact hlt) hkk
              replace hbad := hide hbad; replace HB := hide HB
              clear hz hlt2 hkk
              refine wp_region_lat (by kernel_rfl) (by kernel_rfl) ?_
              repeat (go_big_quiet_step (first
                | (rename_i y; go_at_call 26; exact Calls.lat_of (p := y) (unhide hF y.W))
                | (rename_i y; go_at_call 37; exact Calls.lat_of (p := y) (unhide HB y.W))))
              refine wpQuiet_nil ?_
              rintro _ ⟨⟨W1, B1⟩, rfl⟩
              go_wp2
              go_ret
              exact ⟨ret_i rfl (by rw [unhide hbad]; rfl), (unhide hB0).trans (B1.mono (unhide hB0).size)⟩
            · (rw [hz] at HB)
              simp only [show decide ((1 : Int) < 0) = false from rfl] at HB
              rw [lt_asymm hlt2] at hkk
              have hbad : tabB l = false := tab_bad (k := m + 1) (by rw [← unhide hn]; exact hlt) hkk
              replace hbad := hide hbad; replace HB := hide HB
              clear hz hlt2 hkk
              refine wp_region_lat (by kernel_rfl) (by kernel_rfl) ?_
              repeat (go_big_quiet_step (first
                | (rename_i y; go_at_call 26; exact Calls.lat_of (p := y) (unhide hF y.W))
                | (rename_i y; go_at_call 37; exact Calls.lat_of (p := y) (unhide HB y.W))))
              refine wpQuiet_nil ?_
              rintro _ ⟨⟨W1, B1⟩, rfl⟩
              go_wp2
              go_ret
              exact ⟨ret_i rfl (by rw [unhide hbad]; rfl), (unhide hB0).trans (B1.mono (unhide hB0).size)⟩
      · obtain rfl : k = n := by omega
        have hg : tabB l = true := tab_all (by rw [← unhide hn]; exact h256) (by rw [← unhide hn]; exact unhide hall)
        replace hg := hide hg
        go_wp2
        go_ret
        exact ⟨ret_i rfl (by rw [unhide hg]; rfl), unhide hB⟩
  · have hbad : tabB l = false := by unfold tabB; rw [decide_eq_false h256]; rfl
    replace hbad := hide hbad
    have d1 : (256 : Int) < (l.length : Int) := by omega
    clear h3 hs h256
    go_enter Try.func24, Try.ntmps24
    go_wp2
    go_ret
    exact ⟨ret_i rfl (by rw [unhide hbad]; rfl), Below.refl _ _⟩
end Go.Proofs.Ytnjepbehfioclaa
