import Derived.Test.YtkgfmiicfegnlaaV6
import Derived.Test.YtkgfmiicfegnlaaS2
namespace Go.Proofs.Ytkgfmiicfegnlaa
open Go.RowKit
set_option maxRecDepth 100000

theorem merge_any (g : Nat) (sp : List Value) (c n : Nat) (hl : n < 1000000) (N : Nat) : Merges g sp c n N := by
  induction N with
  | zero => intro d a m b w hN _ _ _ h1 h2; omega
  | succ N ih =>
    intro d a m b w hN hn h hs ham hmb hb h1 h2
    by_cases e1 : m = a + 1
    · subst e1
      have := merge_left g sp d c a b w h hs (by omega) hmb (by omega) h2
      rwa [hn] at this
    · by_cases e2 : b = m + 1
      · subst e2
        have := merge_right g sp d c a m w h hs (by omega) (by omega) (by omega) h1
        rwa [hn] at this
      · exact merge_gen g sp c n N ih d a m b w hN hn h hs hl (by omega) (by omega) hb h1 h2

attribute [local go_sem] bz_size bz_toList run_store_float
set_option maxHeartbeats 4000000 in
theorem stable_any (g : Nat) (sp : List Value) (d : Array Fl) (c : Nat) (w : World) (h : Row g sp w w d) (hs : Small d) (hl : d.size < 1000000) :
    Calls Try.prog 73 #[.slice (some ⟨g, 0, none⟩) d.size c, .int .i64 d.size, fV] w fun e w' => e = .returned (.tuple #[]) ∧ ∃ d', Mix 0 d.size d d' ∧ Srt d' 0 d.size ∧ Row g sp w w' d' := by
  have hIns := fun (e : Array Fl) (a b : Nat) (W : World) (h : Row g sp W W e) (hs : Small e) (he : e.size = d.size) (q1 : a ≤ b) (q2 : b ≤ e.size) => insertion_any g sp e c a b W h hs (by omega) q1 q2
  have hMer := fun N => merge_any g sp c d.size hl N
  obtain ⟨n, hn⟩ : ∃ n, n = d.size := ⟨_, rfl⟩
  rw [← hn] at hl hIns hMer ⊢
  replace h := hide h; replace hn := hide hn; replace hs := hide hs; replace hIns := hide hIns; replace hMer := hide hMer
  go_enter Try.func73, Try.ntmps73
  go_wp2_with (fail)
  go_loopw [7, 8] (fun i j wr => ∃ (t x : Nat) (e : Array Fl), x = t * 20 ∧ x ≤ n ∧ i = .int .i64 x ∧ j = .int .i64 (x + 20 : Nat) ∧ Hid (D1 20 t e) ∧ Hid (Mix 0 n d e) ∧ Hid (Row g sp w wr e)) (fun i _ _ => n - (intOf i).toNat)
  case atStart => exact ⟨0, 0, d, rfl, Nat.zero_le _, rfl, rfl, hide (D1.zero 20 d), hide (Mix.refl 0 n d), h⟩
  case round =>
    obtain ⟨t, x, e, hx, hxn, rfl, rfl, hD, hM, hr⟩ := hrel
    have hsm : Small e := (unhide hs).mix (unhide hM)
    have hel : e.size = n := (unhide hM).len.trans (unhide hn).symm
    by_cases hlt : x + 20 ≤ n
    · have hc := (unhide hIns) e x (x + 20) wr (unhide hr).self hsm hel (by omega) (by omega)
      rw [hel] at hc
      replace hc := hide hc; replace hsm := hide hsm; replace hel := hide hel; replace hx := hide hx
      have i1 : IntKind.i64.wrap (((x + 20 : Nat) : Int) + 20) = ((x + 20 + 20 : Nat) : Int) := by rw [IntWalk.i64_in _ (by omega)]; omega
      go_wp2_with (go_at_call 85; refine (unhide hc).mono ?_; rintro ez w2 ⟨rfl, e2, hm2, hs2, hr2⟩; replace hm2 := hide hm2; replace hs2 := hide hs2; replace hr2 := hide hr2)
      have hD2 := hide ((unhide hD).succ (by have := unhide hm2; rwa [unhide hx] at this) (by have := unhide hs2; rwa [unhide hx] at this))
      go_roundw
      case rel => exact ⟨t + 1, x + 20, e2, by have := unhide hx; omega, hlt, by go_num, by go_num, hD2, hide ((unhide hM).trans ((unhide hm2).wide (Nat.zero_le _) hlt)), hide ((unhide hr).trans (unhide hr2))⟩
      case measure => simp [intOf]; omega
    · have hc := (unhide hIns) e x n wr (unhide hr).self hsm hel hxn (by omega)
      rw [hel] at hc
      replace hc := hide hc; replace hsm := hide hsm; replace hel := hide hel; replace hx := hide hx
      go_wp2_with (go_at_call 85; refine (unhide hc).mono ?_; rintro ez w2 ⟨rfl, e2, hm2, hs2, hr2⟩; replace hm2 := hide hm2; replace hs2 := hide hs2; replace hr2 := hide hr2)
      have hB2 : Hid (Bk 20 n e2) := hide ((unhide hD).done (by have := unhide hm2; rwa [unhide hx] at this) (by have := unhide hs2; rwa [unhide hx] at this) (by have := unhide hx; omega))
      have hM2 := hide ((unhide hM).trans ((unhide hm2).wide (Nat.zero_le _) (Nat.le_refl _)))
      have hr3 := hide ((unhide hr).trans (unhide hr2))
      clear hm2 hs2 hr2 hM hD hr hc hsm hel hx hIns
      go_loopw [6] (fun q wr => ∃ (bs : Nat) (e : Array Fl), 0 < bs ∧ bs ≤ 2 * n + 20 ∧ q = .int .i64 bs ∧ Hid (Bk bs n e) ∧ Hid (Mix 0 n d e) ∧ Hid (Row g sp w wr e)) (fun q _ => n - (intOf q).toNat)
      case atStart => exact ⟨20, e2, by omega, by omega, rfl, hB2, hM2, hr3⟩
      case round =>
        clear hB2 hM2 hr3
        obtain ⟨bs, f, hbs, hbs2, rfl, hB, hM, hr⟩ := hrel
        by_cases hb : bs < n
        · have j1 : IntKind.i64.wrap (2 * (bs : Int)) = 2 * (bs : Int) := IntWalk.i64_in _ (by omega)
          have j2 : IntKind.i64.wrap ((bs : Int) * 2) = (bs : Int) * 2 := IntWalk.i64_in _ (by omega)
          go_wp2_with (fail)
          go_loopw [7, 8] (fun i j wx => ∃ (t x : Nat) (e : Array Fl), Hid (x = t * (2 * bs)) ∧ x ≤ n ∧ i = .int .i64 x ∧ j = .int .i64 (x + 2 * bs : Nat) ∧ Hid (D1 (2 * bs) t e) ∧ Hid (R2 bs t n e) ∧ Hid (Mix 0 n d e) ∧ Hid (Row g sp w wx e)) (fun i _ _ => n - (intOf i).toNat)
          case atStart => exact ⟨0, 0, f, by simp [Hid], Nat.zero_le _, rfl, by go_num, hide (D1.zero _ f), hide (unhide hB).rest, hM, hr⟩
          case round =>
            clear hB hM hr
            obtain ⟨t, x, e, hx, hxn, rfl, rfl, hD, hR, hM, hr⟩ := hrel
            have hsm : Small e := (unhide hs).mix (unhide hM)
            have hel : e.size = n := (unhide hM).len.trans (unhide hn).symm
            have r1 := (unhide hR).one
            rw [← unhide hx] at r1
            have r2 := (unhide hR).two
            rw [← unhide hx] at r2
            have j3 : IntKind.i64.wrap ((x : Int) + (bs : Int)) = (x : Int) + (bs : Int) := IntWalk.i64_in _ (by omega)
            by_cases hlt : x + 2 * bs ≤ n
            · have hc := (unhide hMer) (2 * bs) e x (x + bs) (x + 2 * bs) wr (by omega) hel (unhide hr).self hsm (by omega) (by omega) hlt (by rwa [Nat.min_eq_left (by omega)] at r1) (by rwa [Nat.min_eq_left (by omega), Nat.add_assoc, ← Nat.two_mul] at r2)
              replace hc := hide hc; replace hsm := hide hsm; replace hel := hide hel; replace r1 := hide r1; replace r2 := hide r2
              have j4 : IntKind.i64.wrap ((x : Int) + 2 * (bs : Int) + 2 * (bs : Int)) = (x : Int) + 2 * (bs : Int) + 2 * (bs : Int) := IntWalk.i64_in _ (by omega)
              go_wp2_with (go_at_call 86; refine (unhide hc).mono ?_; rintro ez w2 ⟨rfl, e2, hm2, hs2, hr2⟩; replace hm2 := hide hm2; replace hs2 := hide hs2; replace hr2 := hide hr2)
              have hD2 := hide ((unhide hD).succ (by have := unhide hm2; rwa [unhide hx] at this) (by have := unhide hs2; rwa [unhide hx] at this))
              have hR2 := hide ((unhide hR).next (by have := unhide hm2; rwa [unhide hx] at this))
              go_roundw
              case rel => exact ⟨t + 1, x + 2 * bs, e2, hide (by rw [unhide hx, Nat.add_mul, Nat.one_mul]), hlt, by go_num, by go_num, hD2, hR2, hide ((unhide hM).trans ((unhide hm2).wide (Nat.zero_le _) hlt)), hide ((unhide hr).trans (unhide hr2))⟩
              case measure => simp [intOf]; omega
            · by_cases hm : x + bs < n
              · have hc := (unhide hMer) n e x (x + bs) n wr (by omega) hel (unhide hr).self hsm (by omega) hm (Nat.le_refl _) (by rwa [Nat.min_eq_left (by omega)] at r1) (by rwa [Nat.min_eq_right (by omega)] at r2)
                replace hc := hide hc; replace hsm := hide hsm; replace hel := hide hel; replace r1 := hide r1; replace r2 := hide r2
                go_wp2_with (go_at_call 86; refine (unhide hc).mono ?_; rintro ez w2 ⟨rfl, e2, hm2, hs2, hr2⟩; replace hm2 := hide hm2; replace hs2 := hide hs2; replace hr2 := hide hr2)
                have hB2 : Hid (Bk (2 * bs) n e2) := hide ((unhide hD).done (by have := unhide hm2; rwa [unhide hx] at this) (by have := unhide hs2; rwa [unhide hx] at this) (by rw [← unhide hx]; omega))
                go_roundw
                case rel => exact ⟨2 * bs, e2, by omega, by omega, by go_num, hB2, hide ((unhide hM).trans ((unhide hm2).wide (Nat.zero_le _) (Nat.le_refl _))), hide ((unhide hr).trans (unhide hr2))⟩
                case measure => simp [intOf]; omega
              · have r3 : Srt e x n := by rwa [Nat.min_eq_right (by omega)] at r1
                have hB2 : Hid (Bk (2 * bs) n e) := hide ((unhide hD).done (Mix.refl _ _ _) (by rwa [unhide hx] at r3) (by rw [← unhide hx]; omega))
                replace hsm := hide hsm; replace hel := hide hel; replace r1 := hide r1; replace r2 := hide r2; replace r3 := hide r3
                go_wp2
                go_roundw
                case rel => exact ⟨2 * bs, e, by omega, by omega, by go_num, hB2, hM, hr⟩
                case measure => simp [intOf]; omega
        · go_wp2
          go_end0
          exact ⟨rfl, f, unhide hM, (unhide hB).all (by omega), unhide hr⟩
end Go.Proofs.Ytkgfmiicfegnlaa
