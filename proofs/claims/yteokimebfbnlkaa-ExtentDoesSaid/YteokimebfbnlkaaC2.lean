import Derived.Test.YteokimebfbnlkaaC1
import Derived.Test.YteokimebfbnlkaaB6
import Derived.Test.YteokimebfbnlkaaB7
import Derived.Test.YteokimebfbnlkaaB11
namespace Go.Proofs.Yteokimebfbnlkaa
open Go.RowKit

def roomR (x : Xs) : Int := if okX x then sumE x.free else 0

set_option maxHeartbeats 1000000 in
theorem refroom_any (lo : Nat) (v : Value) (x : Xs) (w : World) (h : XsR lo w.heap.size w v x) :
    Calls Try.prog 20 #[v] w fun e w' => e = .returned (.tuple #[.int .i64 (roomR x), .int .i64 (badE (okX x))]) ∧ Below w.heap.size w w' := by
  have hchk := fun W (hW : Below w.heap.size w W) => refcheck_any lo v x W (h.grow hW)
  have hbit := fun n W (hW : Below w.heap.size w W) => refbits_any lo n v x W (h.grow hW)
  obtain ⟨bb, rfl, hb⟩ := h
  obtain ⟨A, c, rfl, h1, h2, h9⟩ := hb.open
  clear h9 hb
  cases hok : okX x with
  | false =>
    have hr : roomR x = 0 := by unfold roomR; rw [hok]; rfl
    rw [hok] at hchk
    rw [hr]
    simp only [badE, Bool.false_eq_true, if_false] at hchk ⊢
    replace hchk := hide hchk
    clear hbit hok hr
    go_enter Try.func20, Try.ntmps20
    go_wp2_with (first
      | (go_at_call 23; refine (unhide hchk _ (by (repeat (first | with_reducible exact Below.refl _ _ | with_reducible assumption | with_reducible refine Below.drew ?_ | with_reducible refine bl_alloc ?_ _ | with_reducible refine bl_call ?_ (by assumption) | (focus (with_reducible refine Below.setCell ?_ ?_ _; rotate_left; focus (first | omega | (simp <;> omega)))) | fail)))).mono ?_; rintro e w1 ⟨rfl, hb1⟩)
      | fail)
    go_ret2
    exact ⟨rfl, by (repeat (first | with_reducible exact Below.refl _ _ | with_reducible assumption | with_reducible refine Below.drew ?_ | with_reducible refine bl_alloc ?_ _ | with_reducible refine bl_call ?_ (by assumption) | (focus (with_reducible refine Below.setCell ?_ ?_ _; rotate_left; focus (first | omega | (simp <;> omega)))) | fail))⟩
  | true =>
    obtain ⟨x1, x2, x3⟩ := okX_iff.1 hok
    have hr : roomR x = sumE x.free := by unfold roomR; rw [hok]; rfl
    rw [hok] at hchk
    rw [hr]
    simp only [badE, if_true] at hchk ⊢
    obtain ⟨n, hn⟩ : ∃ n : Nat, x.size = (n : Int) := ⟨x.size.toNat, by omega⟩
    rw [hn] at x3 x2 hchk hbit ⊢
    have hsum := cntB_free x3
    replace hbit := fun W hW => hbit n W hW hok rfl
    generalize freeB x.free = fb at *
    generalize x.free.length = N at *
    rw [← hsum]
    replace hchk := hide hchk; replace hbit := hide hbit
    clear hr hsum x3 hok x1 hn
    go_enter Try.func20, Try.ntmps20
    go_wp2_with (first
      | (go_at_call 23; refine (unhide hchk _ (by (repeat (first | with_reducible exact Below.refl _ _ | with_reducible assumption | with_reducible refine Below.drew ?_ | with_reducible refine bl_alloc ?_ _ | with_reducible refine bl_call ?_ (by assumption) | (focus (with_reducible refine Below.setCell ?_ ?_ _; rotate_left; focus (first | omega | (simp <;> omega)))) | fail)))).mono ?_; rintro e w1 ⟨rfl, hb1⟩
         have K1 := (Blk.new (w := w) (t := 24) (cs := #[.int .i64 n, .slice A N c]) rfl).below hb1 (by simp)
         have d0 := K1.cell 0; have d1 := K1.cell 1
         simp at d0 d1
         have B1 : Below w.heap.size w w1 := by (repeat (first | with_reducible exact Below.refl _ _ | with_reducible assumption | with_reducible refine Below.drew ?_ | with_reducible refine bl_alloc ?_ _ | with_reducible refine bl_call ?_ (by assumption) | (focus (with_reducible refine Below.setCell ?_ ?_ _; rotate_left; focus (first | omega | (simp <;> omega)))) | fail))
         replace B1 := hide B1
         clear hb1 K1)
      | (go_at_call 42; refine (unhide hbit _ (unhide B1)).mono ?_; rintro e w2 ⟨g, hg, rfl, K2, hb2⟩
         have B2 := bl_call (unhide B1) hb2
         replace B2 := hide B2; replace K2 := hide K2
         clear hb2 hg)
      | fail)
    go_loopw [4, 13] (fun z i wr => ∃ (k : Nat), k ≤ n ∧ i = .int .i64 k ∧ z = .int .i64 (cntB fb k) ∧ w2 = wr) (fun _ i _ => n - (intOf i).toNat)
    case atStart => exact ⟨0, Nat.zero_le _, rfl, rfl, rfl⟩
    case round =>
      obtain ⟨k, hk, rfl, rfl, rfl⟩ := hrel
      by_cases hlt : k < n
      · have c0 := ((unhide K2).cell k).trans (by simpa using bitC_get n fb k hlt : (bitC n fb).toArray[k]? = some (.bool (fb k)))
        have i1 : IntKind.i64.wrap ((k : Int) + 1) = (k : Int) + 1 := IntWalk.i64_in _ (by omega)
        have hc := cntB_le fb k
        have i2 : IntKind.i64.wrap (cntB fb k + 1) = cntB fb k + 1 := IntWalk.i64_in _ (by omega)
        have hs : cntB fb (k + 1) = cntB fb k + if fb k then 1 else 0 := rfl
        have hk0 : (0 : Int) ≤ (k : Int) := by omega
        have hk1 : (k : Int) < (n : Int) := by omega
        have gl := (unhide K2).lt
        generalize cntB fb k = Z at *
        clear hc
        replace hs := hide hs
        cases hf : fb k with
        | true =>
          rw [hf] at c0
          go_wp2_with fail
          clear i1 i2
          go_roundw
          case rel => exact ⟨k + 1, by omega, by go_num, by rw [unhide hs, hf]; rfl, by first | rfl | trivial⟩
          case measure => simp [intOf]; omega
        | false =>
          rw [hf] at c0
          go_wp2_with fail
          clear i1 i2
          go_roundw
          case rel => exact ⟨k + 1, by omega, by go_num, by rw [unhide hs, hf]; simp, by first | rfl | trivial⟩
          case measure => simp [intOf]; omega
      · obtain rfl : k = n := by omega
        go_wp2_with fail
        go_ret2
        exact ⟨rfl, unhide B2⟩
end Go.Proofs.Yteokimebfbnlkaa
