import Derived.Test.YtkgfmiicfegnlaaV2
namespace Go.Proofs.Ytkgfmiicfegnlaa
open Go.RowKit
set_option maxRecDepth 100000

attribute [local go_sem] bz_size bz_toList run_store_float
set_option maxHeartbeats 1000000 in
theorem rotate_any (g : Nat) (sp : List Value) (d : Array Fl) (c a m b : Nat) (f : Value) (w : World) (h : Row g sp w w d) (hl : d.size < 1000000) (ham : a < m) (hmb : m < b) (hb : b ≤ d.size) :
    Calls Try.prog 89 #[.slice (some ⟨g, 0, none⟩) d.size c, .int .i64 a, .int .i64 m, .int .i64 b, f] w fun e w' => e = .returned (.tuple #[]) ∧ ∃ d', By (roI a m b) d d' ∧ Row g sp w w' d' := by
  have hS := fun (e : Array Fl) (x y z : Nat) (W : World) (he : e.size = d.size) (h : Row g sp W W e) (h1 : x + z ≤ y) (h2 : y + z ≤ e.size) => swapRange_any g sp e c x y z f W h (by omega) h1 h2
  have hd : Left a m b (m - a) (b - m) d d := Left.start a m b d (by omega) (by omega)
  obtain ⟨n, hn⟩ : ∃ n, n = d.size := ⟨_, rfl⟩
  rw [← hn] at hl hb hS ⊢
  have i1 : IntKind.i64.wrap ((m : Int) - (a : Int)) = ((m - a : Nat) : Int) := by rw [IntWalk.i64_in _ (by omega)]; omega
  have i2 : IntKind.i64.wrap ((b : Int) - (m : Int)) = ((b - m : Nat) : Int) := by rw [IntWalk.i64_in _ (by omega)]; omega
  replace h := hide h; replace hn := hide hn; replace hS := hide hS; replace hd := hide hd
  go_enter Try.func89, Try.ntmps89
  go_wp2_with (fail)
  go_loopw [10, 11] (fun i j wr => ∃ (x y : Nat) (e : Array Fl), 0 < x ∧ 0 < y ∧ x ≤ m ∧ m + y ≤ n ∧ i = .int .i64 x ∧ j = .int .i64 y ∧ Hid (Left a m b x y d e) ∧ Hid (Row g sp w wr e)) (fun i j _ => (intOf i).toNat + (intOf j).toNat)
  case atStart => exact ⟨m - a, b - m, d, by omega, by omega, by omega, by omega, rfl, rfl, hd, h⟩
  case round =>
    clear i1 i2
    obtain ⟨x, y, e, hx, hy, hx2, hy2, rfl, rfl, he, hr⟩ := hrel
    have hel : e.size = n := (unhide he).len.trans (unhide hn).symm
    replace hel := hide hel
    have i1 : IntKind.i64.wrap ((m : Int) - (x : Int)) = (m : Int) - (x : Int) := IntWalk.i64_in _ (by omega)
    have j1 : ((m - x : Nat) : Int) = (m : Int) - (x : Int) := by omega
    replace j1 := hide j1
    rcases Nat.lt_trichotomy x y with hlt | hlt | hlt
    · have i2 : IntKind.i64.wrap ((m : Int) + (y : Int)) = (m : Int) + (y : Int) := IntWalk.i64_in _ (by omega)
      have i3 : IntKind.i64.wrap ((m : Int) + (y : Int) - (x : Int)) = (m : Int) + (y : Int) - (x : Int) := IntWalk.i64_in _ (by omega)
      have i4 : IntKind.i64.wrap ((y : Int) - (x : Int)) = (y : Int) - (x : Int) := IntWalk.i64_in _ (by omega)
      have hne : ((x : Int) == (y : Int)) = false := by rw [beq_eq_false_iff_ne]; omega
      have hng : ¬ y < x := by omega
      have hs := (unhide hS) e (m - x) (m + y - x) x wr (unhide hel) (unhide hr).self (by omega) (by have := unhide hel; omega)
      rw [unhide hel, unhide j1, show ((m + y - x : Nat) : Int) = (m : Int) + (y : Int) - (x : Int) by omega] at hs
      replace hs := hide hs
      go_wp2_with (go_at_call 94; refine (unhide hs).mono ?_; rintro e2 w2 ⟨rfl, d2, hd2, hr2⟩; replace hd2 := hide hd2; replace hr2 := hide hr2)
      go_roundw
      case rel => exact ⟨x, y - x, d2, by omega, by omega, by omega, by omega, rfl, by go_num, (unhide he).lt (unhide hd2) hlt hx2, (unhide hr).trans (unhide hr2)⟩
      case measure => simp [intOf]; omega
    · subst hlt
      have hs := (unhide hS) e (m - x) m x wr (unhide hel) (unhide hr).self (by omega) (by have := unhide hel; omega)
      rw [unhide hel, unhide j1] at hs
      replace hs := hide hs
      go_wp2_with (go_at_call 94; refine (unhide hs).mono ?_; rintro e2 w2 ⟨rfl, d2, hd2, hr2⟩; replace hd2 := hide hd2; replace hr2 := hide hr2)
      go_end0
      exact ⟨rfl, d2, (unhide he).eq (unhide hd2) hx2, (unhide hr).trans (unhide hr2)⟩
    · have i4 : IntKind.i64.wrap ((x : Int) - (y : Int)) = (x : Int) - (y : Int) := IntWalk.i64_in _ (by omega)
      have hne : ((x : Int) == (y : Int)) = false := by rw [beq_eq_false_iff_ne]; omega
      have hs := (unhide hS) e (m - x) m y wr (unhide hel) (unhide hr).self (by omega) (by have := unhide hel; omega)
      rw [unhide hel, unhide j1] at hs
      replace hs := hide hs
      go_wp2_with (go_at_call 94; refine (unhide hs).mono ?_; rintro e2 w2 ⟨rfl, d2, hd2, hr2⟩; replace hd2 := hide hd2; replace hr2 := hide hr2)
      go_roundw
      case rel => exact ⟨x - y, y, d2, by omega, by omega, by omega, by omega, by go_num, rfl, (unhide he).gt (unhide hd2) hlt hx2, (unhide hr).trans (unhide hr2)⟩
      case measure => simp [intOf]; omega
end Go.Proofs.Ytkgfmiicfegnlaa
