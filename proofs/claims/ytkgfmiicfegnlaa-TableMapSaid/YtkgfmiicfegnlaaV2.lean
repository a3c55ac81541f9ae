import Derived.Test.YtkgfmiicfegnlaaV1
namespace Go.Proofs.Ytkgfmiicfegnlaa
open Go.RowKit
set_option maxRecDepth 100000

attribute [local go_sem] bz_size bz_toList run_store_float
set_option maxHeartbeats 2000000 in
theorem swapRange_any (g : Nat) (sp : List Value) (d : Array Fl) (c a b cnt : Nat) (f : Value) (w : World) (h : Row g sp w w d) (hl : d.size < 1000000) (hab : a + cnt ≤ b) (hb : b + cnt ≤ d.size) :
    Calls Try.prog 94 #[.slice (some ⟨g, 0, none⟩) d.size c, .int .i64 a, .int .i64 b, .int .i64 cnt, f] w fun e w' => e = .returned (.tuple #[]) ∧ ∃ d', By (swI a b cnt) d d' ∧ Row g sp w w' d' := by
  obtain ⟨n, hn⟩ : ∃ n, n = d.size := ⟨_, rfl⟩
  rw [← hn] at hl hb ⊢
  replace h := hide h; replace hn := hide hn
  go_enter Try.func94, Try.ntmps94
  go_wp2_with (fail)
  go_loopw [10] (fun i wr => ∃ (k : Nat) (e : Array Fl), k ≤ cnt ∧ i = .int .i64 k ∧ Hid (By (swI a b k) d e) ∧ Hid (Row g sp w wr e)) (fun i _ => cnt - (intOf i).toNat)
  case atStart => exact ⟨0, d, Nat.zero_le _, rfl, hide (By.id d a b), h⟩
  case round =>
    obtain ⟨k, e, hk, rfl, he, hr⟩ := hrel
    by_cases hlt : k < cnt
    · have hel : e.size = n := (unhide he).len.trans (unhide hn).symm
      obtain ⟨x, hx⟩ : ∃ x, nt e (a + k) = x := ⟨_, rfl⟩
      obtain ⟨y, hy⟩ : ∃ x, nt e (b + k) = x := ⟨_, rfl⟩
      have cx := (unhide hr).front (i := a + k) (by omega)
      have cy := (unhide hr).front (i := b + k) (by omega)
      rw [hx] at cx
      rw [hy] at cy
      obtain ⟨x0, x1, x2, x3, x4, x5⟩ := six cx
      obtain ⟨y0, y1, y2, y3, y4, y5⟩ := six cy
      have fz := fun i => (unhide hr).frozen i
      have i1 : IntKind.i64.wrap ((a : Int) + k) = (a : Int) + k := IntWalk.i64_in _ (by omega)
      have i2 : IntKind.i64.wrap ((b : Int) + k) = (b : Int) + k := IntWalk.i64_in _ (by omega)
      replace hel := hide hel; replace hx := hide hx; replace hy := hide hy
      clear cx cy
      go_wp2_with (fail)
      go_region
      all_goals
        have hr2 := hide (((unhide hr).swap (i := a + k) (j := b + k) (by have := unhide hel; omega) (by have := unhide hel; omega) (unhide hx) (unhide hy)).drew)
        have he2 := hide ((unhide he).swap_step (by omega) (by have := unhide hn; omega))
        go_wp2
        go_roundw
        case rel => exact ⟨k + 1, _, by omega, by go_num, he2, hr2⟩
        case measure => simp [intOf]; omega
    · obtain rfl : k = cnt := by omega
      go_wp2
      go_end0
      exact ⟨rfl, e, unhide he, unhide hr⟩
end Go.Proofs.Ytkgfmiicfegnlaa
