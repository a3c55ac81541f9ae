import Derived.Test.YtkgfmiicfegnlaaL2
namespace Go.Proofs.Ytkgfmiicfegnlaa
open Go.RowKit
attribute [local go_sem] bz_size bz_toList run_store_float
set_option maxRecDepth 100000

/-! ### one behind the other -/
/-- Of the first 'i' those within a folder are 'k', from 'fr' on. -/
def Run (d : List UInt8) (l : List Fl) (i : Nat) (fr : Int) (k : Nat) : Prop :=
  k = (witF (l.take i) d).length ∧ ((k = 0 ∧ fr = -1 ∧ ∀ j, j < i → withinB d (nth l j).nm = false) ∨ ∃ s : Nat, fr = s ∧ 0 < k ∧ s + k ≤ i ∧ ∀ j, j < i → (withinB d (nth l j).nm = true ↔ s ≤ j ∧ j < s + k))
theorem run_start (d : List UInt8) (l : List Fl) : Run d l 0 (-1) 0 := ⟨rfl, .inl ⟨rfl, rfl, fun _ h => absurd h (Nat.not_lt_zero _)⟩⟩
theorem run_skip {d : List UInt8} {l : List Fl} {i : Nat} {fr : Int} {k : Nat} (h : Run d l i fr k) (hi : i < l.length) (hw : withinB d (nth l i).nm = false) : Run d l (i + 1) fr k := by
  refine ⟨by rw [wit_take_f hi hw]; exact h.1, ?_⟩
  rcases h.2 with ⟨h1, h2, h3⟩ | ⟨s, h1, h2, h3, h4⟩
  · refine .inl ⟨h1, h2, fun j hj => ?_⟩
    rcases Nat.lt_or_ge j i with h | h
    · exact h3 j h
    · rw [show j = i by omega]; exact hw
  · refine .inr ⟨s, h1, h2, by omega, fun j hj => ?_⟩
    rcases Nat.lt_or_ge j i with h | h
    · exact h4 j h
    · rw [show j = i by omega, hw]
      constructor
      · intro h; cases h
      · intro h; omega
theorem run_first {d : List UInt8} {l : List Fl} {i k : Nat} (hi : i < l.length) (hw : withinB d (nth l i).nm = true) (hk : k = (witF (l.take i) d).length) (h1 : k = 0) (h3 : ∀ j, j < i → withinB d (nth l j).nm = false) : Run d l (i + 1) i (k + 1) := by
  refine ⟨by rw [wit_take_t hi hw, List.length_append, ← hk]; rfl, .inr ⟨i, rfl, by omega, by omega, fun j hj => ?_⟩⟩
  rcases Nat.lt_or_ge j i with h | h
  · rw [h3 j h]
    constructor
    · intro h; cases h
    · intro h; omega
  · rw [show j = i by omega, hw]
    constructor
    · intro _; omega
    · intro _; rfl
theorem run_next {d : List UInt8} {l : List Fl} {i k s : Nat} (hu : Up l) (hi : i < l.length) (hw : withinB d (nth l i).nm = true) (hk : k = (witF (l.take i) d).length) (h2 : 0 < k) (h3 : s + k ≤ i) (h4 : ∀ j, j < i → (withinB d (nth l j).nm = true ↔ s ≤ j ∧ j < s + k)) :
    i = s + k ∧ Run d l (i + 1) s (k + 1) := by
  have e : i = s + k := by
    rcases Nat.lt_or_ge (s + k) i with h | h
    · exfalso
      have a1 := (h4 s (by omega)).2 ⟨Nat.le_refl _, by omega⟩
      have hlt : ∀ x y, x < y → y < l.length → lex (parts (nth l x).nm) (parts (nth l y).nm) ≤ 0 := fun x y h1 h2 => by
        unfold Up at hu
        rw [List.pairwise_iff_getElem] at hu
        have := hu x y (by omega) h2 h1
        rw [nth_get (by omega), nth_get h2, lex_of_lt this]
        omega
      have a2 := between (b := (nth l (s + k)).nm) a1 hw (hlt s (s + k) (by omega) (by omega)) (hlt (s + k) i h hi)
      have := (h4 (s + k) h).1 a2
      omega
    · omega
  refine ⟨e, by rw [wit_take_t hi hw, List.length_append, ← hk]; rfl, .inr ⟨s, rfl, by omega, by omega, fun j hj => ?_⟩⟩
  rcases Nat.lt_or_ge j i with h | h
  · rw [h4 j h]; omega
  · rw [show j = i by omega, hw]
    constructor
    · intro _; omega
    · intro _; rfl
theorem run_at {d : List UInt8} {l : List Fl} {i k : Nat} (hi : i < l.length) (hw : withinB d (nth l i).nm = true) (hk : k = (witF (l.take i) d).length) : k < (witF l d).length ∧ nth (witF l d) k = nth l i := by
  have e : witF l d = witF (l.take i) d ++ (nth l i :: witF (l.drop (i + 1)) d) := by
    have h0 : l = l.take (i + 1) ++ l.drop (i + 1) := (List.take_append_drop _ _).symm
    have h1 : witF l d = witF (l.take (i + 1)) d ++ witF (l.drop (i + 1)) d := by
      unfold witF; rw [← List.filter_append, ← h0]
    rw [h1, wit_take_t hi hw]; simp
  constructor
  · rw [e, List.length_append, List.length_cons]; omega
  · rw [e]
    unfold nth
    rw [List.getD_eq_getElem?_getD, List.getElem?_append_right (by omega), ← hk, Nat.sub_self]
    rfl
theorem run_end {d : List UInt8} {l : List Fl} {fr : Int} {k n : Nat} (h : Run d l n fr k) (hn : n = l.length) : k = (witF l d).length := by
  rw [h.1, hn, List.take_length]
theorem wit_all (l : List Fl) : witF l [] = l := filter_all (fun _ _ => withinB_nil _)

set_option maxHeartbeats 8000000 in
theorem TableWithin_any (v : Value) (l : List Fl) (d : List UInt8) (w : World) (h : Fls 0 w.heap.size w v l) (hr : ∀ x ∈ l, x.rk < 18446744073709551616) :
    Calls Try.prog 6 #[v, .string (bz d)] w fun e w' => e = .returned (.bool true) ∧ Below w.heap.size w w' := by
  have hL := fun W => live_any W
  have hF := fun W (h : Fls 0 W.heap.size W v l) => few_any 0 W.heap.size v l W h (Nat.le_refl _)
  have hB : Below w.heap.size w w := Below.refl _ _
  have hl := h
  obtain ⟨A, c, rfl, h1, h2, h3⟩ := h
  clear h3
  replace hL := hide hL; replace hB := hide hB; replace hl := hide hl
  cases hfew : fewB l with
  | false =>
    rw [hfew] at hF
    replace hF := hide hF
    clear hfew hr h1 h2
    generalize l.length = n at *
    have tk0 : True := trivial
    have tk1 : True := trivial
    go_enter Try.func6, Try.ntmps6
    go_wp2_with (first
      | (have _t := tk0; clear tk0 _t; go_at_call 9; refine (unhide hL _).mono ?_; rintro ez wz0 ⟨rfl, bz0⟩; have szz0 := bz0.size; replace hB := hide ((unhide hB).trans (bz0.mono (unhide hB).size)); replace hl := hide ((unhide hl).grow bz0); clear bz0)
      | (have _t := tk1; clear tk1 _t; go_at_call 10; refine (unhide hF _ (unhide hl)).mono ?_; rintro ez wz1 ⟨rfl, bz1⟩; have szz1 := bz1.size; replace hB := hide ((unhide hB).trans (bz1.mono (unhide hB).size)); replace hl := hide ((unhide hl).grow bz1); clear bz1)
      | fail)
    go_ret
    exact ⟨rfl, unhide hB⟩
  | true =>
    have hs := sm_few hr hfew
    have hl8 := (few_iff hfew).2
    rw [hfew] at hF
    replace hF := hide hF
    clear hfew hr
    by_cases hdl : 200 < d.length
    · have df : decide ((d.length : Int) > 200) = true := decide_eq_true (by omega)
      clear h1 h2 hl8 hs
      generalize l.length = n at *
      have tk0 : True := trivial
      have tk1 : True := trivial
      go_enter Try.func6, Try.ntmps6
      go_wp2_with (first
        | (have _t := tk0; clear tk0 _t; go_at_call 9; refine (unhide hL _).mono ?_; rintro ez wz0 ⟨rfl, bz0⟩; have szz0 := bz0.size; replace hB := hide ((unhide hB).trans (bz0.mono (unhide hB).size)); replace hl := hide ((unhide hl).grow bz0); clear bz0)
        | (have _t := tk1; clear tk1 _t; go_at_call 10; refine (unhide hF _ (unhide hl)).mono ?_; rintro ez wz1 ⟨rfl, bz1⟩; have szz1 := bz1.size; replace hB := hide ((unhide hB).trans (bz1.mono (unhide hB).size)); replace hl := hide ((unhide hl).grow bz1); clear bz1)
        | fail)
      go_ret
      exact ⟨rfl, unhide hB⟩
    · have df : decide ((d.length : Int) > 200) = false := decide_eq_false (by omega)
      have hwi := fun W (h : Fls 0 W.heap.size W (.slice A l.length c) l) => within24_any 0 W.heap.size _ l d W h (Nat.le_refl _) hs (by omega)
      have hwa := fun W (h : Fls 0 W.heap.size W (.slice A l.length c) l) => within24_any 0 W.heap.size _ l [] W h (Nat.le_refl _) hs (by simp)
      have eb : (Value.string (bz [])) = .string ⟨#[]⟩ := rfl
      rw [eb] at hwa
      clear eb
      by_cases hbad : tabB l = false ∨ folderB d = false
      · rw [witR_no hbad] at hwi
        obtain ⟨⟨al, ae⟩, hal⟩ : ∃ q, q = witR l [] := ⟨_, rfl⟩
        rw [← hal] at hwa
        clear hbad hal hs h1 h2 hl8
        generalize l.length = n at *
        replace hwi := hide hwi; replace hwa := hide hwa
        have tk0 : True := trivial
        have tk1 : True := trivial
        have tk2 : True := trivial
        have tk3 : True := trivial
        go_enter Try.func6, Try.ntmps6
        go_wp2_with (first
          | (have _t := tk0; clear tk0 _t; go_at_call 9; refine (unhide hL _).mono ?_; rintro ez wz0 ⟨rfl, bz0⟩; have szz0 := bz0.size; replace hB := hide ((unhide hB).trans (bz0.mono (unhide hB).size)); replace hl := hide ((unhide hl).grow bz0); clear bz0)
          | (have _t := tk1; clear tk1 _t; go_at_call 10; refine (unhide hF _ (unhide hl)).mono ?_; rintro ez wz1 ⟨rfl, bz1⟩; have szz1 := bz1.size; replace hB := hide ((unhide hB).trans (bz1.mono (unhide hB).size)); replace hl := hide ((unhide hl).grow bz1); clear bz1)
          | (have _t := tk2; clear tk2 _t; go_at_call 24; refine (unhide hwi _ (unhide hl)).mono ?_; rintro ez wz2 ⟨vi, rfl, ohi, bz2⟩; have szz2 := bz2.size; replace hB := hide ((unhide hB).trans (bz2.mono (unhide hB).size)); replace hl := hide ((unhide hl).grow bz2); obtain ⟨A1, c1, rfl, _⟩ := ohi.fls.open6; (have hi := hide (ohi.fls.mono (Nat.zero_le _) (Nat.le_refl _))); clear ohi; clear bz2)
          | (have _t := tk3; clear tk3 _t; go_at_call 24; refine (unhide hwa _ (unhide hl)).mono ?_; rintro ez wz3 ⟨va, rfl, oha, bz3⟩; have szz3 := bz3.size; replace hB := hide ((unhide hB).trans (bz3.mono (unhide hB).size)); replace hl := hide ((unhide hl).grow bz3); replace hi := hide ((unhide hi).grow bz3); (have ha := hide (oha.fls.mono (Nat.zero_le _) (Nat.le_refl _))); clear oha; clear bz3)
          | fail)
        go_ret
        exact ⟨rfl, unhide hB⟩
      · have ht : tabB l = true := by
          cases h : tabB l with
          | true => rfl
          | false => exact absurd (.inl h) hbad
        have hfd : folderB d = true := by
          cases h : folderB d with
          | true => rfl
          | false => exact absurd (.inr h) hbad
        rw [witR_ok ht hfd] at hwi
        rw [witR_ok ht (by rfl), wit_all] at hwa
        have hsm := fun W va (h : Fls 0 W.heap.size W va l) (h' : Fls 0 W.heap.size W (.slice A l.length c) l) => tsame_any 0 W.heap.size 0 W.heap.size va _ l l W h h' (Nat.le_refl _) (Nat.le_refl _) hs hs
        rw [same_self] at hsm
        have hwn := fun x (hx : x ∈ l) W => within_any d x.nm (by omega) (by have := (hs x hx).1; omega) W
        replace hwn := fun x (hx : x ∈ l) W => by
          have := hwn x hx W
          rw [withinF_yes hfd (ok_name (tab_ok ht hx))] at this
          exact this
        have hu := tab_up ht
        obtain ⟨ins, hins⟩ : ∃ b, b = witF l d := ⟨_, rfl⟩
        rw [← hins] at hwi
        have hilen : ins.length ≤ l.length := by rw [hins]; exact wit_len l d
        clear hbad ht hfd h2
        obtain ⟨n, hn⟩ : ∃ n, n = l.length := ⟨_, rfl⟩
        rw [← hn] at hF hl hl8 hwi hwa hsm hilen h1
        rw [← hn]
        replace hwi := hide hwi; replace hwa := hide hwa; replace hsm := hide hsm; replace hwn := hide hwn; replace hu := hide hu; replace hs := hide hs; replace hins := hide hins; replace hn := hide hn; replace h1 := hide h1
        have tk0 : True := trivial
        have tk1 : True := trivial
        have tk2 : True := trivial
        have tk3 : True := trivial
        have tk4 : True := trivial
        go_enter Try.func6, Try.ntmps6
        go_wp2_with (first
          | (have _t := tk0; clear tk0 _t; go_at_call 9; refine (unhide hL _).mono ?_; rintro ez wz0 ⟨rfl, bz0⟩; have szz0 := bz0.size; replace hB := hide ((unhide hB).trans (bz0.mono (unhide hB).size)); replace hl := hide ((unhide hl).grow bz0); clear bz0)
          | (have _t := tk1; clear tk1 _t; go_at_call 10; refine (unhide hF _ (unhide hl)).mono ?_; rintro ez wz1 ⟨rfl, bz1⟩; have szz1 := bz1.size; replace hB := hide ((unhide hB).trans (bz1.mono (unhide hB).size)); replace hl := hide ((unhide hl).grow bz1); clear bz1)
          | (have _t := tk2; clear tk2 _t; go_at_call 24; refine (unhide hwi _ (unhide hl)).mono ?_; rintro ez wz2 ⟨vi, rfl, ohi, bz2⟩; have szz2 := bz2.size; replace hB := hide ((unhide hB).trans (bz2.mono (unhide hB).size)); replace hl := hide ((unhide hl).grow bz2); obtain ⟨A1, c1, rfl, _⟩ := ohi.fls.open6; (have hi := hide (ohi.fls.mono (Nat.zero_le _) (Nat.le_refl _))); clear ohi; clear bz2)
          | (have _t := tk3; clear tk3 _t; go_at_call 24; refine (unhide hwa _ (unhide hl)).mono ?_; rintro ez wz3 ⟨va, rfl, oha, bz3⟩; have szz3 := bz3.size; replace hB := hide ((unhide hB).trans (bz3.mono (unhide hB).size)); replace hl := hide ((unhide hl).grow bz3); replace hi := hide ((unhide hi).grow bz3); (have ha := hide (oha.fls.mono (Nat.zero_le _) (Nat.le_refl _))); clear oha; clear bz3)
          | (have _t := tk4; clear tk4 _t; go_at_call 23; refine (unhide hsm _ _ (unhide ha) (unhide hl)).mono ?_; rintro ez wz4 ⟨rfl, bz4⟩; have szz4 := bz4.size; replace hB := hide ((unhide hB).trans (bz4.mono (unhide hB).size)); replace hl := hide ((unhide hl).grow bz4); replace hi := hide ((unhide hi).grow bz4); replace ha := hide ((unhide ha).grow bz4); clear bz4)
          | fail)
        clear ha hwi hwa hsm hL hF
        go_loopw [10, 11, 55] (fun s10 s11 s55 wr => ∃ (i k : Nat) (fr : Int), i ≤ n ∧ s10 = .int .i64 fr ∧ s11 = .int .i64 k ∧ s55 = .int .i64 i ∧ Hid (Run d l i fr k) ∧ Hid (Fls 0 wr.heap.size wr (.slice A n c) l) ∧ Hid (Fls 0 wr.heap.size wr (.slice A1 ins.length c1) ins) ∧ Hid (Below w.heap.size w wr)) (fun _ _ i _ => n - (intOf i).toNat)
        case atStart => exact ⟨0, 0, -1, Nat.zero_le _, rfl, rfl, rfl, hide (run_start d l), hl, hi, hB⟩
        case round =>
          clear hl hi hB
          obtain ⟨i, k, fr, hin, rfl, rfl, rfl, hR, hl, hi, hB⟩ := hrel
          by_cases hlt : i < n
          · have hil : i < l.length := by rw [← unhide hn]; exact hlt
            obtain ⟨A9, c9, e9, _, _, hr9⟩ := (unhide hl).open6
            injection e9 with e91 e92 e93
            obtain ⟨b8, off8, rfl, _, hq8, hx8⟩ := hr9 i hil
            subst e91 e93
            clear hr9 e92
            have hm := nth_mem hil
            have hsf := unhide hs _ hm
            have hW := unhide hwn _ hm
            have hone := fun W => refOne_any (nth l i) (nth l i) hsf.2 hsf.2 W
            rw [one_self] at hone
            have hk := (unhide hR).1
            have hfirst := fun hw => run_first (d := d) (k := k) hil hw hk
            have hnext := fun hw s => run_next (s := s) (unhide hu) hil hw hk
            have hskip := run_skip (unhide hR) hil
            have hat := fun hw => run_at hil hw hk
            rw [← unhide hins] at hat
            obtain ⟨y0, y1, y2, y3, y4, y5⟩ := six hx8
            obtain ⟨f, hf⟩ : ∃ f, f = nth l i := ⟨_, rfl⟩
            rw [← hf] at hsf hW hone y0 y1 y2 y3 y4 y5 hskip hat hfirst hnext
            clear hx8 hm hil hk
            have qf : Hid (Blk (wr.alloc (.cells #[.string (bz f.nm), .float .f64 f.rk, .int .u32 f.sm, .int .i64 f.bk, .int .i64 f.fr, .int .i64 f.ln] 26)) wr.heap.size 26 #[.string (bz f.nm), .float .f64 f.rk, .int .u32 f.sm, .int .i64 f.bk, .int .i64 f.fr, .int .i64 f.ln]) := hide (Blk.new rfl)
            obtain ⟨f0, f1, f2, f3, f4, f5⟩ := bk6 (unhide qf)
            have hl1 := hide ((unhide hl).grow ((Below.refl _ _).alloc (Nat.le_refl _) (.cells #[.string (bz f.nm), .float .f64 f.rk, .int .u32 f.sm, .int .i64 f.bk, .int .i64 f.fr, .int .i64 f.ln] 26)))
            have hi1 := hide ((unhide hi).grow ((Below.refl _ _).alloc (Nat.le_refl _) (.cells #[.string (bz f.nm), .float .f64 f.rk, .int .u32 f.sm, .int .i64 f.bk, .int .i64 f.fr, .int .i64 f.ln] 26)))
            have hB1 := hide ((unhide hB).alloc (unhide hB).size (.cells #[.string (bz f.nm), .float .f64 f.rk, .int .u32 f.sm, .int .i64 f.bk, .int .i64 f.fr, .int .i64 f.ln] 26))
            replace hone := hide hone; replace hsf := hide hsf; replace hf := hide hf
            cases hw : withinB d f.nm with
            | false =>
              rw [hw] at hW
              have hR2 := hide (hskip hw)
              clear hat hfirst hnext hskip hw hR hl hi hB
              replace hW := hide hW
              go_wp2_with (go_at_call 29; refine (unhide hW _).mono ?_; rintro ez w1 ⟨rfl, bz⟩)
              go_roundw
              case rel => exact ⟨i + 1, k, fr, by omega, rfl, rfl, by go_num, hR2, hide ((unhide hl1).grow bz), hide ((unhide hi1).grow bz), hide ((unhide hB1).trans (bz.mono (unhide hB1).size))⟩
              case measure => simp [intOf] <;> omega
            | true =>
              rw [hw] at hW
              replace hat := hat hw
              have hRR := (unhide hR).2
              replace hfirst := hfirst hw
              replace hnext := hnext hw
              clear hskip hw hR hl hi hB
              replace hW := hide hW
              rcases hRR with ⟨hk0, rfl, h3⟩ | ⟨s, rfl, h2, h3, h4⟩
              · have hR2 := hide (hfirst hk0 h3)
                have hE := hide hk0
                clear hfirst hnext h3 hk0
                go_upto_region 15 with (fail)
                clear y0 y1 y2 y3 y4 y5
                go_upto_region 19 with (go_at_call 29; refine (unhide hW _).mono ?_; rintro ez w1 ⟨rfl, bz⟩)
                have hl := hide ((unhide hl1).grow bz)
                have hi := hide ((unhide hi1).grow bz)
                have hB := hide ((unhide hB1).trans (bz.mono (unhide hB1).size))
                replace qf := hide ((unhide qf).below bz (unhide qf).lt)
                clear f0 f1 f2 f3 f4 f5 bz hl1 hi1 hB1
                obtain ⟨f0, f1, f2, f3, f4, f5⟩ := bk6 (unhide qf)
                generalize wr.heap.size = g at *
                obtain ⟨A7, c7, e7, _, _, hr7⟩ := (unhide hi).open6
                injection e7 with e71 e72 e73
                obtain ⟨b9, off9, e10, _, hq9, hx9⟩ := hr7 k hat.1
                rw [← e71] at e10
                subst e10
                clear e71 e72 e73 hr7
                rw [hat.2] at hx9
                have hlk := hat.1
                obtain ⟨z0, z1, z2, z3, z4, z5⟩ := six hx9
                have gl := (unhide qf).lt
                have u0 := fun p : Lat w1 => lat_cell p hq9 z0
                have u1 := fun p : Lat w1 => lat_cell p hq9 z1
                have u2 := fun p : Lat w1 => lat_cell p hq9 z2
                have u3 := fun p : Lat w1 => lat_cell p hq9 z3
                have u4 := fun p : Lat w1 => lat_cell p hq9 z4
                have u5 := fun p : Lat w1 => lat_cell p hq9 z5
                have v0 := fun p : Lat w1 => lat_cell p gl f0
                have v1 := fun p : Lat w1 => lat_cell p gl f1
                have v2 := fun p : Lat w1 => lat_cell p gl f2
                have v3 := fun p : Lat w1 => lat_cell p gl f3
                have v4 := fun p : Lat w1 => lat_cell p gl f4
                have v5 := fun p : Lat w1 => lat_cell p gl f5
                clear z0 z1 z2 z3 z4 z5 hx9 hat
                have i1 : IntKind.i64.wrap ((i : Int) + (k : Int)) = (i : Int) + (k : Int) := IntWalk.i64_in _ (by omega)
                have d1 : ((i : Int) != (i : Int) + (k : Int)) = false := by rw [bne_eq_false_iff_eq]; have := unhide hE; omega
                have d2 : decide ((k : Int) ≥ (ins.length : Int)) = false := decide_eq_false (by omega)
                have d3 : ((i : Int) == (i : Int) + (k : Int)) = true := by rw [beq_iff_eq]; have := unhide hE; omega
                have d4 : decide ((ins.length : Int) ≤ (k : Int)) = false := decide_eq_false (by omega)
                have d5 : decide ((k : Int) < (ins.length : Int)) = true := decide_eq_true (by omega)
                have d6 : decide (ins.length ≤ k) = false := decide_eq_false (by omega)
                have d7 : decide (k < ins.length) = true := decide_eq_true (by omega)
                have i2 : IntKind.i64.wrap ((k : Int) + 1) = (k : Int) + 1 := IntWalk.i64_in _ (by omega)
                go_upto_region 21 with (fail)
                refine wp_region_lat (by kernel_rfl) (by kernel_rfl) ?_
                repeat (go_big_quiet_step ((rename_i zz; go_at_call 20; exact Calls.lat_of (p := zz) (unhide hone zz.W))))
                refine wpQuiet_nil ?_
                rintro _ ⟨⟨w2, bz⟩, rfl⟩
                replace hl := hide ((unhide hl).grow bz)
                replace hi := hide ((unhide hi).grow bz)
                replace hB := hide ((unhide hB).trans (bz.mono (unhide hB).size))
                clear u0 u1 u2 u3 u4 u5 v0 v1 v2 v3 v4 v5 gl bz hq9 f0 f1 f2 f3 f4 f5 qf
                go_wp2
                go_roundw
                case rel => exact ⟨i + 1, k + 1, (i : Int), by omega, rfl, by go_num, by go_num, hR2, hl, hi, hB⟩
                case measure => simp [intOf] <;> omega
              · obtain ⟨e5, hR2'⟩ := hnext s h2 h3 h4
                have hR2 := hide hR2'
                have hE := hide e5
                clear hfirst hnext h4 hR2' e5
                have d0 : decide ((s : Int) < 0) = false := decide_eq_false (by omega)
                go_upto_region 15 with (fail)
                clear y0 y1 y2 y3 y4 y5
                go_upto_region 19 with (go_at_call 29; refine (unhide hW _).mono ?_; rintro ez w1 ⟨rfl, bz⟩)
                have hl := hide ((unhide hl1).grow bz)
                have hi := hide ((unhide hi1).grow bz)
                have hB := hide ((unhide hB1).trans (bz.mono (unhide hB1).size))
                replace qf := hide ((unhide qf).below bz (unhide qf).lt)
                clear f0 f1 f2 f3 f4 f5 bz hl1 hi1 hB1
                obtain ⟨f0, f1, f2, f3, f4, f5⟩ := bk6 (unhide qf)
                generalize wr.heap.size = g at *
                obtain ⟨A7, c7, e7, _, _, hr7⟩ := (unhide hi).open6
                injection e7 with e71 e72 e73
                obtain ⟨b9, off9, e10, _, hq9, hx9⟩ := hr7 k hat.1
                rw [← e71] at e10
                subst e10
                clear e71 e72 e73 hr7
                rw [hat.2] at hx9
                have hlk := hat.1
                obtain ⟨z0, z1, z2, z3, z4, z5⟩ := six hx9
                have gl := (unhide qf).lt
                have u0 := fun p : Lat w1 => lat_cell p hq9 z0
                have u1 := fun p : Lat w1 => lat_cell p hq9 z1
                have u2 := fun p : Lat w1 => lat_cell p hq9 z2
                have u3 := fun p : Lat w1 => lat_cell p hq9 z3
                have u4 := fun p : Lat w1 => lat_cell p hq9 z4
                have u5 := fun p : Lat w1 => lat_cell p hq9 z5
                have v0 := fun p : Lat w1 => lat_cell p gl f0
                have v1 := fun p : Lat w1 => lat_cell p gl f1
                have v2 := fun p : Lat w1 => lat_cell p gl f2
                have v3 := fun p : Lat w1 => lat_cell p gl f3
                have v4 := fun p : Lat w1 => lat_cell p gl f4
                have v5 := fun p : Lat w1 => lat_cell p gl f5
                clear z0 z1 z2 z3 z4 z5 hx9 hat
                have i1 : IntKind.i64.wrap ((s : Int) + (k : Int)) = (s : Int) + (k : Int) := IntWalk.i64_in _ (by omega)
                have d1 : ((i : Int) != (s : Int) + (k : Int)) = false := by rw [bne_eq_false_iff_eq]; have := unhide hE; omega
                have d2 : decide ((k : Int) ≥ (ins.length : Int)) = false := decide_eq_false (by omega)
                have d3 : ((i : Int) == (s : Int) + (k : Int)) = true := by rw [beq_iff_eq]; have := unhide hE; omega
                have d4 : decide ((ins.length : Int) ≤ (k : Int)) = false := decide_eq_false (by omega)
                have d5 : decide ((k : Int) < (ins.length : Int)) = true := decide_eq_true (by omega)
                have d6 : decide (ins.length ≤ k) = false := decide_eq_false (by omega)
                have d7 : decide (k < ins.length) = true := decide_eq_true (by omega)
                have i2 : IntKind.i64.wrap ((k : Int) + 1) = (k : Int) + 1 := IntWalk.i64_in _ (by omega)
                go_upto_region 21 with (fail)
                refine wp_region_lat (by kernel_rfl) (by kernel_rfl) ?_
                repeat (go_big_quiet_step ((rename_i zz; go_at_call 20; exact Calls.lat_of (p := zz) (unhide hone zz.W))))
                refine wpQuiet_nil ?_
                rintro _ ⟨⟨w2, bz⟩, rfl⟩
                replace hl := hide ((unhide hl).grow bz)
                replace hi := hide ((unhide hi).grow bz)
                replace hB := hide ((unhide hB).trans (bz.mono (unhide hB).size))
                clear u0 u1 u2 u3 u4 u5 v0 v1 v2 v3 v4 v5 gl bz hq9 f0 f1 f2 f3 f4 f5 qf
                go_wp2
                go_roundw
                case rel => exact ⟨i + 1, k + 1, (s : Int), by omega, rfl, by go_num, by go_num, hR2, hl, hi, hB⟩
                case measure => simp [intOf] <;> omega
          · obtain rfl : i = n := by omega
            have e := run_end (unhide hR) (unhide hn)
            rw [← unhide hins] at e
            have de : ((k : Int) == (ins.length : Int)) = true := by rw [e]; exact beq_self_eq_true _
            clear e
            go_wp2
            go_ret
            exact ⟨rfl, unhide hB⟩
end Go.Proofs.Ytkgfmiicfegnlaa
