import Derived.Test.YtdnahdogohdmjaaW16
namespace Go.Proofs.Ytdnahdogohdmjaa
open Go.RowKit
set_option maxRecDepth 100000

/-- The chapter's example, and it in order. -/
abbrev exL : List Nat := [9221120237041090561, 4607182418800017408, 0, 9218868437227405312, 9223372036854775808, 13830554455654793216]
abbrev exS : List Nat := [13830554455654793216, 9223372036854775808, 0, 4607182418800017408, 9218868437227405312, 9221120237041090561]
theorem nth_small {l : List Nat} (h : ∀ x ∈ l, x < 18446744073709551616) : Small l := fun i => by
  unfold nth
  by_cases hi : i < l.length
  · simp only [List.getD, List.getElem?_eq_getElem hi, Option.getD_some]; exact h _ (List.getElem_mem hi)
  · simp only [List.getD, List.getElem?_eq_none (Nat.le_of_not_lt hi), Option.getD_none]; decide
theorem exL_small : Small exL := nth_small (by decide)
theorem exS_srt : Srt exS 0 exS.length := by
  have : ∀ j, j < 6 → ∀ i, i < j → ky exS i ≤ ky exS j := by decide
  exact fun i j _ h2 h3 => this j h3 i h2
theorem key_inj {x y : Nat} (hx : x < 18446744073709551616) (hy : y < 18446744073709551616) (ny : nanB y = false) (h : keyF x = keyF y) : x = y := by
  have nx : nanB x = false := by rw [nan_key_iff hx, h, ← nan_key_iff hy, ny]
  rw [← (of_key hx).2.1 nx, h, (of_key hy).2.1 ny]
theorem ex_is {d : List Nat} (h : Ordered exL d) : d.length = 6 ∧ nth d 0 = 13830554455654793216 ∧ nth d 4 = 9218868437227405312 ∧ nanB (nth d 5) = true := by
  obtain ⟨h1, h2, h3, h4⟩ := h
  have h1' : d.length = 6 := h1
  have hp : (d.map keyF).Perm (exS.map keyF) := (h2.trans (by decide : exL.Perm exS)).map keyF
  have e := keys_same hp h3 exS_srt
  have hk : ∀ i, i < 6 → ky d i = ky exS i := fun i hi => by
    unfold ky
    rw [nth_get (by omega), nth_get (d := exS) hi]
    have := congrArg (fun x => x[i]?) e
    have e6 : i < exS.length := hi
    simp only [List.getElem?_map, List.getElem?_eq_getElem (show i < d.length by omega), List.getElem?_eq_getElem e6, Option.map_some, Option.some.injEq] at this
    exact this
  refine ⟨h1', key_inj (h4 0) (by decide) (by decide) (hk 0 (by decide)), key_inj (h4 4) (by decide) (by decide) (hk 4 (by decide)), ?_⟩
  rw [nan_key_iff (h4 5)]
  have : keyF (nth d 5) = 18446744073709551615 := (hk 5 (by decide)).trans (by decide)
  rw [this]; rfl

attribute [local go_sem] run_store_float m_neg m_lt m_gt m_eq m_ne x_bits x_from eq_self_ Bool.not_not
set_option maxHeartbeats 1000000 in
theorem live_any (w : World) : Calls Try.prog 10 #[] w fun e w' => e = .returned (.bool true) ∧ Below w.heap.size w w' := by
  have hnan := fun W => NaN_any W
  have hinf := fun W => Inf_any W
  have n0 : ngF 0 = 9223372036854775808 := by decide
  have hB : Blk (w.alloc (.cells (rwA exL []) 22)) w.heap.size 22 (rwA exL []) := Blk.new rfl
  have hF : Fs w.heap.size (w.alloc (.cells (rwA exL []) 22)).heap.size (w.alloc (.cells (rwA exL []) 22)) (.slice (some ⟨w.heap.size, 0, none⟩) 6 6) exL :=
    Fs.mk rfl (by decide) (by decide) fun _ => ⟨w.heap.size, 0, rfl, Nat.le_refl _, by simp, fun i hi => by rw [hB.cell, Nat.zero_add, rwA_get hi, nth_get hi]⟩
  have hO := Order_any w.heap.size _ exL _ hF exL_small (by decide)
  have hb0 : Below w.heap.size w (w.alloc (.cells (rwA exL []) 22)) := bl_alloc (Below.refl _ _) _
  have hfx : rwA exL [] = #[.float .f64 9221120237041090561, .float .f64 4607182418800017408, .float .f64 0, .float .f64 9218868437227405312, .float .f64 9223372036854775808, .float .f64 13830554455654793216] := rfl
  rw [hfx] at hO hb0
  replace hO := hide hO; replace hnan := hide hnan; replace hinf := hide hinf; replace hb0 := hide hb0
  clear hB hF hfx
  go_enter Try.func10, Try.ntmps10
  go_wp2_with (first
    | (go_at_call 25; refine (unhide hnan _).mono ?_; rintro ez wz ⟨rfl, rfl⟩)
    | (go_at_call 28; refine (unhide hinf _).mono ?_; rintro ez wz ⟨rfl, rfl⟩)
    | (go_at_call 21; refine (unhide hO).mono ?_; rintro ez w1 ⟨v1, d, rfl, ho, hd, hb⟩; replace ho := hide ho; replace hd := hide hd; replace hb := hide hb)
    | fail)
  have hx := ex_is (unhide hd)
  obtain ⟨x1, x2, x3, x4⟩ := hx
  have hf := fs_own (unhide ho)
  obtain ⟨A, c, rfl⟩ := ownsRow_form (unhide ho)
  rw [x1] at hf ⊢
  obtain ⟨y1, y2, y3, hc⟩ := hf.get
  obtain ⟨b, off, rfl, y4, y5, hcl⟩ := hc (by decide)
  have c0 : w1.cell? ⟨b, off, none⟩ = some (.float .f64 13830554455654793216) := by
    have := hcl 0 (by omega); rwa [Nat.add_zero, ← nth_get (by omega), x2] at this
  have c4 : w1.cell? ⟨b, off + 4, none⟩ = some (.float .f64 9218868437227405312) := by
    have := hcl 4 (by omega); rwa [← nth_get (by omega), x3] at this
  have c5 : w1.cell? ⟨b, off + 5, none⟩ = some (.float .f64 (nth d 5)) := by
    have := hcl 5 (by omega); rwa [← nth_get (by omega)] at this
  clear hcl hc hf ho hd x1 x2 x3 y1 y2 y3 y4 y5
  generalize nth d 5 = e5 at *
  have q1 : nanB 13830554455654793216 = false := by decide
  have q2 : nanB 9218868437227405312 = false := by decide
  go_quiet ((go_at_call 28; refine Calls.quiet_of_same ((unhide hinf _).mono fun e w' h => ⟨h.1, h.2.symm⟩)))
  have hb2 := hide (below_drewN (bl_call (unhide hb0) (unhide hb)) nq)

  go_wp2
  go_ret
  exact ⟨rfl, unhide hb2⟩
end Go.Proofs.Ytdnahdogohdmjaa
