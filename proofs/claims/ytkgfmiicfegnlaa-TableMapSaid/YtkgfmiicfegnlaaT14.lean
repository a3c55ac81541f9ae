import Derived.Test.YtkgfmiicfegnlaaT13
namespace Go.Proofs.Ytkgfmiicfegnlaa
open Go.RowKit
attribute [local go_sem] bz_size bz_toList run_store_float
set_option maxRecDepth 100000

/-! ### what is told -/
def putR (l : List Fl) (f : Fl) : List Fl × Int := if tabB l = false ∨ okF f = false then ([], 1) else if thereB l f.nm = false ∧ l.length = 256 then ([], 6) else (putF l f, 0)
def delR (l : List Fl) (p : List UInt8) : List Fl × Int := if tabB l = false ∨ nameB p = false then ([], 1) else if thereB l p = false then ([], 4) else (delF l p, 0)
def getR (l : List Fl) (p : List UInt8) : Fl × Int := if tabB l = false ∨ nameB p = false then (noF, 1) else if thereB l p = false then (noF, 4) else (nth l (posn l p), 0)
theorem putR_no {l : List Fl} {f : Fl} (h : tabB l = false ∨ okF f = false) : putR l f = ([], 1) := by unfold putR; rw [if_pos h]
theorem putR_full {l : List Fl} {f : Fl} (h1 : tabB l = true) (h2 : okF f = true) (h3 : thereB l f.nm = false) (h4 : l.length = 256) : putR l f = ([], 6) := by
  unfold putR; rw [if_neg (by simp [h1, h2]), if_pos ⟨h3, h4⟩]
theorem putR_ok {l : List Fl} {f : Fl} (h1 : tabB l = true) (h2 : okF f = true) (h3 : ¬ (thereB l f.nm = false ∧ l.length = 256)) : putR l f = (putF l f, 0) := by
  unfold putR; rw [if_neg (by simp [h1, h2]), if_neg h3]
theorem delR_no {l : List Fl} {p : List UInt8} (h : tabB l = false ∨ nameB p = false) : delR l p = ([], 1) := by unfold delR; rw [if_pos h]
theorem delR_none {l : List Fl} {p : List UInt8} (h1 : tabB l = true) (h2 : nameB p = true) (h3 : thereB l p = false) : delR l p = ([], 4) := by
  unfold delR; rw [if_neg (by simp [h1, h2]), if_pos h3]
theorem delR_ok {l : List Fl} {p : List UInt8} (h1 : tabB l = true) (h2 : nameB p = true) (h3 : thereB l p = true) : delR l p = (delF l p, 0) := by
  unfold delR; rw [if_neg (by simp [h1, h2]), if_neg (by simp [h3])]
theorem getR_no {l : List Fl} {p : List UInt8} (h : tabB l = false ∨ nameB p = false) : getR l p = (noF, 1) := by unfold getR; rw [if_pos h]
theorem getR_none {l : List Fl} {p : List UInt8} (h1 : tabB l = true) (h2 : nameB p = true) (h3 : thereB l p = false) : getR l p = (noF, 4) := by
  unfold getR; rw [if_neg (by simp [h1, h2]), if_pos h3]
theorem getR_ok {l : List Fl} {p : List UInt8} (h1 : tabB l = true) (h2 : nameB p = true) (h3 : thereB l p = true) : getR l p = (nth l (posn l p), 0) := by
  unfold getR; rw [if_neg (by simp [h1, h2]), if_neg (by simp [h3])]
theorem del_split {l : List Fl} (h : Up l) {p : List UInt8} (ht : thereB l p = true) : delF l p = l.take (posn l p) ++ l.drop (posn l p + 1) := by
  unfold delF; rw [low_take h, high_drop h, ht, if_pos rfl]
theorem own_nil (w : World) (base : Nat) : OwnF w base (.slice none 0 0) [] := World.ownsRow_nil _ _ _ _

set_option maxHeartbeats 2000000 in
theorem put_any (lo hi : Nat) (v : Value) (l : List Fl) (f : Fl) (w : World) (h : Fls lo hi w v l) (hhi : hi ≤ w.heap.size) (hs : SmL l) (hf : SmF f) :
    Calls Try.prog 11 #[v, (.agg #[.string (bz f.nm), .float .f64 f.rk, .int .u32 f.sm, .int .i64 f.bk, .int .i64 f.fr, .int .i64 f.ln])] w fun e w' => ∃ v', e = .returned (.tuple #[v', .int .i64 (putR l f).2]) ∧ OwnF w' w.heap.size v' (putR l f).1 ∧ Below w.heap.size w w' := by
  have hT := fun W (hB : Below w.heap.size w W) => isTable_any lo hi v l W (h.below hB hhi) (Nat.le_trans hhi hB.size) hs
  have hI := fun W => isFile_any f hf W
  have hF := fun W (hB : Below w.heap.size w W) h1 h2 => find_any lo hi v l f.nm W (h.below hB hhi) (Nat.le_trans hhi hB.size) hs (by have := hf.1; omega) h1 h2
  have hW := fun W (hB : Below w.heap.size w W) h1 h2 => with_any lo hi v l f W (h.below hB hhi) (Nat.le_trans hhi hB.size) hs hf h1 h2
  have hh := h
  obtain ⟨A, c, rfl, h1, h2, h3⟩ := hh
  clear h h3 hs hf hhi
  cases ht : tabB l with
  | false =>
    rw [putR_no (.inl ht)]
    rw [ht] at hT
    clear hI hF hW ht
    replace hT := hide hT
    go_enter Try.func11, Try.ntmps11
    go_wp2_with (go_at_call 32; refine (unhide hT _ (by (repeat (first | with_reducible exact Below.refl _ _ | with_reducible assumption | with_reducible refine Below.drew ?_ | with_reducible refine bl_alloc ?_ _ | with_reducible refine bl_call ?_ (by assumption) | (focus (with_reducible refine Below.setCell ?_ ?_ _; rotate_left; focus (first | omega | (simp <;> omega)))) | fail)))).mono ?_; rintro e w1 ⟨rfl, B1⟩)
    go_ret2
    exact ⟨_, rfl, own_nil _ _, (bl_alloc (Below.refl _ _) _).trans (B1.mono (by simp only [World.size_alloc]; omega))⟩
  | true =>
    rw [ht] at hT
    cases hk : okF f with
    | false =>
      rw [putR_no (.inr hk)]
      rw [hk] at hI
      clear hF hW ht hk
      replace hT := hide hT; replace hI := hide hI
      go_enter Try.func11, Try.ntmps11
      go_wp2_with (first
        | (go_at_call 32; refine (unhide hT _ (by (repeat (first | with_reducible exact Below.refl _ _ | with_reducible assumption | with_reducible refine Below.drew ?_ | with_reducible refine bl_alloc ?_ _ | with_reducible refine bl_call ?_ (by assumption) | (focus (with_reducible refine Below.setCell ?_ ?_ _; rotate_left; focus (first | omega | (simp <;> omega)))) | fail)))).mono ?_; rintro e w1 ⟨rfl, B1⟩; obtain ⟨c0, c1, c2, c3, c4, c5⟩ := bk6 (new6 B1))
        | (go_at_call 33; refine (unhide hI _).mono ?_; rintro e w2 ⟨rfl, B2⟩))
      go_ret2
      have B3 := (bl_alloc (Below.refl w.heap.size w) (.cells #[.string (bz f.nm), .float .f64 f.rk, .int .u32 f.sm, .int .i64 f.bk, .int .i64 f.fr, .int .i64 f.ln] 26)).trans (B1.mono (by simp only [World.size_alloc]; omega))
      exact ⟨_, rfl, own_nil _ _, ret_live B3 B2⟩
    | true =>
      rw [hk] at hI
      replace hF := fun W hB => hF W hB ht (ok_name hk)
      replace hW := fun W hB => hW W hB ht (ok_name hk)
      by_cases hc : thereB l f.nm = false ∧ l.length = 256
      · rw [putR_full ht hk hc.1 hc.2]
        rw [hc.1] at hF
        have d1 : ((l.length : Int) == 256) = true := by rw [hc.2]; rfl
        clear hW ht hk hc
        generalize l.length = n at *
        generalize posn l f.nm = i at *
        replace hT := hide hT; replace hI := hide hI; replace hF := hide hF
        go_enter Try.func11, Try.ntmps11
        go_wp2_with (first
          | (go_at_call 32; refine (unhide hT _ (by (repeat (first | with_reducible exact Below.refl _ _ | with_reducible assumption | with_reducible refine Below.drew ?_ | with_reducible refine bl_alloc ?_ _ | with_reducible refine bl_call ?_ (by assumption) | (focus (with_reducible refine Below.setCell ?_ ?_ _; rotate_left; focus (first | omega | (simp <;> omega)))) | fail)))).mono ?_; rintro e w1 ⟨rfl, B1⟩; (have B3 := hide ((bl_alloc (Below.refl w.heap.size w) (.cells #[.string (bz f.nm), .float .f64 f.rk, .int .u32 f.sm, .int .i64 f.bk, .int .i64 f.fr, .int .i64 f.ln] 26)).trans (B1.mono (by simp only [World.size_alloc]; omega)))); (have q1 : Blk w1 w.heap.size 26 #[.string (bz f.nm), .float .f64 f.rk, .int .u32 f.sm, .int .i64 f.bk, .int .i64 f.fr, .int .i64 f.ln] := new6 B1); obtain ⟨c0, c1, c2, c3, c4, c5⟩ := bk6 q1; replace q1 := hide q1)
          | (go_at_call 33; refine (unhide hI _).mono ?_; rintro e w2 ⟨rfl, B2⟩; (have B4 := hide (ret_live (unhide B3) B2)); (have q2 : Blk w2 w.heap.size 26 #[.string (bz f.nm), .float .f64 f.rk, .int .u32 f.sm, .int .i64 f.bk, .int .i64 f.fr, .int .i64 f.ln] := (unhide q1).below B2 (unhide q1).lt); obtain ⟨d0, d1, d2, d3, d4, d5⟩ := bk6 q2)
          | (go_at_call 34; refine (unhide hF _ (unhide B4)).mono ?_; rintro e w3 ⟨rfl, B5⟩))
        go_ret2
        exact ⟨_, rfl, own_nil _ _, ret_live (unhide B4) B5⟩
      · rw [putR_ok ht hk hc]
        clear ht hk
        have hcz : ¬ (thereB l f.nm = false ∧ ((l.length : Int) == 256) = true) := fun h => hc ⟨h.1, by have := h.2; rw [beq_iff_eq] at this; omega⟩
        clear hc
        generalize thereB l f.nm = t at *
        generalize l.length = n at *
        generalize posn l f.nm = i at *
        obtain ⟨out, ho⟩ : ∃ o, o = putF l f := ⟨_, rfl⟩
        rw [← ho] at hW ⊢
        clear ho
        replace hT := hide hT; replace hI := hide hI; replace hF := hide hF; replace hW := hide hW
        cases t with
        | true =>
          clear hcz
          go_enter Try.func11, Try.ntmps11
          go_wp2_with (first
            | (go_at_call 32; refine (unhide hT _ (by (repeat (first | with_reducible exact Below.refl _ _ | with_reducible assumption | with_reducible refine Below.drew ?_ | with_reducible refine bl_alloc ?_ _ | with_reducible refine bl_call ?_ (by assumption) | (focus (with_reducible refine Below.setCell ?_ ?_ _; rotate_left; focus (first | omega | (simp <;> omega)))) | fail)))).mono ?_; rintro e w1 ⟨rfl, B1⟩; (have B3 := hide ((bl_alloc (Below.refl w.heap.size w) (.cells #[.string (bz f.nm), .float .f64 f.rk, .int .u32 f.sm, .int .i64 f.bk, .int .i64 f.fr, .int .i64 f.ln] 26)).trans (B1.mono (by simp only [World.size_alloc]; omega)))); (have q1 : Blk w1 w.heap.size 26 #[.string (bz f.nm), .float .f64 f.rk, .int .u32 f.sm, .int .i64 f.bk, .int .i64 f.fr, .int .i64 f.ln] := new6 B1); obtain ⟨c0, c1, c2, c3, c4, c5⟩ := bk6 q1; replace q1 := hide q1)
            | (go_at_call 33; refine (unhide hI _).mono ?_; rintro e w2 ⟨rfl, B2⟩; (have B4 := hide (ret_live (unhide B3) B2)); (have q2 : Blk w2 w.heap.size 26 #[.string (bz f.nm), .float .f64 f.rk, .int .u32 f.sm, .int .i64 f.bk, .int .i64 f.fr, .int .i64 f.ln] := (unhide q1).below B2 (unhide q1).lt); obtain ⟨d0, d1, d2, d3, d4, d5⟩ := bk6 q2; replace q2 := hide q2)
            | (go_at_call 34; refine (unhide hF _ (unhide B4)).mono ?_; rintro e w3 ⟨rfl, B5⟩; (have B6 := hide (ret_live (unhide B4) B5)); (have q3 : Blk w3 w.heap.size 26 #[.string (bz f.nm), .float .f64 f.rk, .int .u32 f.sm, .int .i64 f.bk, .int .i64 f.fr, .int .i64 f.ln] := (unhide q2).below B5 (unhide q2).lt); obtain ⟨e0, e1, e2, e3, e4, e5⟩ := bk6 q3)
            | (go_at_call 35; refine (unhide hW _ (unhide B6)).mono ?_; rintro e w4 ⟨v', rfl, O7, B7⟩))
          go_ret2
          exact ⟨v', rfl, ownsRow_mono O7 (unhide B6).size, ret_live (unhide B6) B7⟩
        | false =>
          have d1 : ((n : Int) == 256) = false := by cases hq : ((n : Int) == 256) with
            | false => rfl
            | true => exact absurd ⟨rfl, hq⟩ hcz
          clear hcz
          go_enter Try.func11, Try.ntmps11
          go_wp2_with (first
            | (go_at_call 32; refine (unhide hT _ (by (repeat (first | with_reducible exact Below.refl _ _ | with_reducible assumption | with_reducible refine Below.drew ?_ | with_reducible refine bl_alloc ?_ _ | with_reducible refine bl_call ?_ (by assumption) | (focus (with_reducible refine Below.setCell ?_ ?_ _; rotate_left; focus (first | omega | (simp <;> omega)))) | fail)))).mono ?_; rintro e w1 ⟨rfl, B1⟩; (have B3 := hide ((bl_alloc (Below.refl w.heap.size w) (.cells #[.string (bz f.nm), .float .f64 f.rk, .int .u32 f.sm, .int .i64 f.bk, .int .i64 f.fr, .int .i64 f.ln] 26)).trans (B1.mono (by simp only [World.size_alloc]; omega)))); (have q1 : Blk w1 w.heap.size 26 #[.string (bz f.nm), .float .f64 f.rk, .int .u32 f.sm, .int .i64 f.bk, .int .i64 f.fr, .int .i64 f.ln] := new6 B1); obtain ⟨c0, c1, c2, c3, c4, c5⟩ := bk6 q1; replace q1 := hide q1)
            | (go_at_call 33; refine (unhide hI _).mono ?_; rintro e w2 ⟨rfl, B2⟩; (have B4 := hide (ret_live (unhide B3) B2)); (have q2 : Blk w2 w.heap.size 26 #[.string (bz f.nm), .float .f64 f.rk, .int .u32 f.sm, .int .i64 f.bk, .int .i64 f.fr, .int .i64 f.ln] := (unhide q1).below B2 (unhide q1).lt); obtain ⟨d0, d1, d2, d3, d4, d5⟩ := bk6 q2; replace q2 := hide q2)
            | (go_at_call 34; refine (unhide hF _ (unhide B4)).mono ?_; rintro e w3 ⟨rfl, B5⟩; (have B6 := hide (ret_live (unhide B4) B5)); (have q3 : Blk w3 w.heap.size 26 #[.string (bz f.nm), .float .f64 f.rk, .int .u32 f.sm, .int .i64 f.bk, .int .i64 f.fr, .int .i64 f.ln] := (unhide q2).below B5 (unhide q2).lt); obtain ⟨e0, e1, e2, e3, e4, e5⟩ := bk6 q3)
            | (go_at_call 35; refine (unhide hW _ (unhide B6)).mono ?_; rintro e w4 ⟨v', rfl, O7, B7⟩))
          go_ret2
          exact ⟨v', rfl, ownsRow_mono O7 (unhide B6).size, ret_live (unhide B6) B7⟩
end Go.Proofs.Ytkgfmiicfegnlaa
