import Derived.Test.YtnjepbehfioclaaP8
namespace Go.Proofs.Ytnjepbehfioclaa
open Go.RowKit
attribute [local go_sem] bz_size bz_toList run_store_float
set_option maxRecDepth 100000

theorem two_bs (w : World) : Bs 0 (w.alloc (.cells #[.int .u8 0, .int .u8 0] 5)).heap.size (w.alloc (.cells #[.int .u8 0, .int .u8 0] 5)) (.slice (some ⟨w.heap.size, 0, none⟩) 2 2) [0, 0] := by
  have hb : Blk (w.alloc (.cells #[.int .u8 0, .int .u8 0] 5)) w.heap.size 5 #[.int .u8 0, .int .u8 0] := Blk.new rfl
  refine ⟨some ⟨w.heap.size, 0, none⟩, 2, rfl, by simp, by omega, fun _ => ⟨w.heap.size, 0, rfl, Nat.zero_le _, hb.lt, fun i hi j u hu => ?_⟩⟩
  have hj : j = 0 := by have := (List.getElem?_eq_some_iff.1 hu).1; simp [bc] at this; exact this
  subst hj
  have hi2 : i < 2 := hi
  rw [show (⟨w.heap.size, 0 + i * 1 + 0, none⟩ : Addr) = ⟨w.heap.size, i, none⟩ by simp, hb.cell i]
  have h01 : i = 0 ∨ i = 1 := by omega
  rcases h01 with rfl | rfl
  · exact hu
  · exact hu
set_option maxHeartbeats 1000000 in
theorem live_any (w : World) : Calls Try.prog 8 #[] w fun e w' => e = .returned (.bool true) ∧ Below w.heap.size w w' := by
  have HB := Bytes_any 0 0 (.slice none 0 0) [] w (Rd.nil _ _ _ _ _) (Nat.zero_le _) (fun _ h => by cases h) (fun _ h => by cases h)
  have e0 : bytesL [] = [0, 0] := by decide
  have e1 : tabB [] = true := tab_nil
  rw [e0, e1] at HB
  have e2 := fun W : World => (two_bs W).convert
  have e3 : (bz [0, 0] == bz [0, 0]) = true := by decide
  replace HB := hide HB
  go_enter Try.func8, Try.ntmps8
  go_upto_region 2 with (first
    | (go_at_call 10; refine (unhide HB).mono ?_; rintro e w1 ⟨A, c, rfl, o, B1⟩; have e4 : (convert 27 9 (.slice A 2 c)).run Try.prog w1 = .ok (.string (bz [0, 0])) w1 := (OwnB.bs (l := [0, 0]) o).convert)
    | fail)
  have e5 := e2 w1
  clear e2
  go_wp2
  all_goals go_ret
  all_goals exact ⟨ret_b rfl (by decide), by (repeat (first | with_reducible exact Below.refl _ _ | with_reducible assumption | with_reducible refine Below.drew ?_ | with_reducible refine bl_alloc ?_ _ | with_reducible refine bl_call ?_ (by assumption) | (focus (with_reducible refine Below.setCell ?_ ?_ _; rotate_left; focus (first | omega | (simp <;> omega)))) | fail))⟩
end Go.Proofs.Ytnjepbehfioclaa
