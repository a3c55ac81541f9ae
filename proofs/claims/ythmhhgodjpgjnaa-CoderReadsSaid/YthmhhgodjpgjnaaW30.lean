import Derived.Test.YthmhhgodjpgjnaaW28
import Derived.Laws.BitsAllLaws
namespace Go.Proofs.Ythmhhgodjpgjnaa
open Go.RowKit

theorem or_oct {a b : Int} (ha : 0 ≤ a ∧ a < 16777216) (hb : 0 ≤ b ∧ b < 256) : bits .or .u32 (a * 256) b = a * 256 + b := by
  rw [u32_or _ _ (by omega) (by omega) (by omega) (by omega)]
  have h := Nat.shiftLeft_add_eq_or_of_lt (b := b.toNat) (i := 8) (by omega) a.toNat
  rw [Nat.shiftLeft_eq] at h
  have e : (a * 256).toNat = a.toNat * 2 ^ 8 := by omega
  rw [e, ← h]
  omega

/-- The reader 'g' holds 'r', and the text 't'; its chances and its text are rows of the call's own. -/
structure Rdg (base g gc cc gt ct : Nat) (w : World) (r : Rdr) (t : List Int) : Prop where
  blk : Blk w g 79 #[.int .u32 r.span, .slice (some ⟨gc, 0, none⟩) r.c.length cc, .slice (some ⟨gt, 0, none⟩) t.length ct, .int .i64 r.used, .int .u32 r.code]
  c : w.ownsRow base 3 1 (.slice (some ⟨gc, 0, none⟩) r.c.length cc) r.c.length (r.c.flatMap ivc)
  text : w.ownsRow base 5 1 (.slice (some ⟨gt, 0, none⟩) t.length ct) t.length (t.flatMap byc)

set_option maxHeartbeats 400000 in
theorem Used_nil (w : World) : Calls Try.prog 19 #[.pointer none] w fun e w' => e = .returned (.int .i64 0) ∧ w = w' := by
  go_enter Try.func19, Try.ntmps19
  go_wp2
  go_ret
  exact ⟨rfl, rfl⟩
set_option maxHeartbeats 400000 in
theorem Used_any (g : Nat) (z : Int) (w : World) (h : w.cell? ⟨g, 3, none⟩ = some (.int .i64 z)) : Calls Try.prog 19 #[.pointer (some ⟨g, 0, none⟩)] w fun e w' => e = .returned (.int .i64 z) ∧ w = w' := by
  go_enter Try.func19, Try.ntmps19
  go_wp2
  go_ret
  exact ⟨rfl, rfl⟩
set_option maxHeartbeats 400000 in
theorem Next_nil (i : Int) (w : World) : Calls Try.prog 18 #[.pointer none, .int .i64 i] w fun e w' => e = .returned (.tuple #[.bool false, .int .i64 1]) ∧ w = w' := by
  go_enter Try.func18, Try.ntmps18
  go_wp2
  go_ret2
  exact ⟨rfl, rfl⟩

set_option maxHeartbeats 4000000 in
theorem number_any (a b c d : Int) (ha : 0 ≤ a ∧ a < 256) (hb : 0 ≤ b ∧ b < 256) (hc : 0 ≤ c ∧ c < 256) (hd : 0 ≤ d ∧ d < 256) (w : World) :
    Calls Try.prog 32 #[.agg #[.int .u8 a, .int .u8 b, .int .u8 c, .int .u8 d]] w fun e w' => e = .returned (.int .u32 (num [a, b, c, d])) ∧ Below w.heap.size w w' := by
  have n4 : num [a, b, c, d] = ((a * 256 + b) * 256 + c) * 256 + d := by simp [num, numR]; omega
  rw [n4]
  go_enter Try.func32, Try.ntmps32
  go_wp2
  have o1 := or_oct (a := 0) (b := a) (by omega) ha
  have o2 := or_oct (a := a) (b := b) (by omega) hb
  have o3 := or_oct (a := a * 256 + b) (b := c) (by omega) hc
  have o4 := or_oct (a := (a * 256 + b) * 256 + c) (b := d) (by omega) hd
  rw [Int.zero_mul, Int.zero_add] at o1
  have w1 : IntKind.u32.wrap (a * 256) = a * 256 := IntWalk.u32_in _ (by omega)
  have w2 : IntKind.u32.wrap ((a * 256 + b) * 256) = (a * 256 + b) * 256 := IntWalk.u32_in _ (by omega)
  have w3 : IntKind.u32.wrap (((a * 256 + b) * 256 + c) * 256) = ((a * 256 + b) * 256 + c) * 256 := IntWalk.u32_in _ (by omega)
  have va : IntKind.u32.wrap a = a := IntWalk.u32_in _ (by omega)
  have vb : IntKind.u32.wrap b = b := IntWalk.u32_in _ (by omega)
  have vc : IntKind.u32.wrap c = c := IntWalk.u32_in _ (by omega)
  have vd : IntKind.u32.wrap d = d := IntWalk.u32_in _ (by omega)
  have x0 : ∀ W, (Instr.index 76 (.agg #[.int .u8 a, .int .u8 b, .int .u8 c, .int .u8 d]) (.int .i64 0)).run Try.prog W = .ok (.int .u8 a) W := fun W => by kernel_rfl
  have x1 : ∀ W, (Instr.index 76 (.agg #[.int .u8 a, .int .u8 b, .int .u8 c, .int .u8 d]) (.int .i64 1)).run Try.prog W = .ok (.int .u8 b) W := fun W => by kernel_rfl
  have x2 : ∀ W, (Instr.index 76 (.agg #[.int .u8 a, .int .u8 b, .int .u8 c, .int .u8 d]) (.int .i64 2)).run Try.prog W = .ok (.int .u8 c) W := fun W => by kernel_rfl
  have x3 : ∀ W, (Instr.index 76 (.agg #[.int .u8 a, .int .u8 b, .int .u8 c, .int .u8 d]) (.int .i64 3)).run Try.prog W = .ok (.int .u8 d) W := fun W => by kernel_rfl
  clear n4 ha hb hc hd
  go_loopw [3, 7] (fun n i wr => ((i = .int .i64 0 ∧ n = .int .u32 0) ∨ (i = .int .i64 1 ∧ n = .int .u32 a) ∨ (i = .int .i64 2 ∧ n = .int .u32 (a * 256 + b)) ∨ (i = .int .i64 3 ∧ n = .int .u32 ((a * 256 + b) * 256 + c)) ∨ (i = .int .i64 4 ∧ n = .int .u32 (((a * 256 + b) * 256 + c) * 256 + d))) ∧ Hid (Below w.heap.size w wr)) (fun _ i _ => 4 - (intOf i).toNat)
  case atStart => exact ⟨.inl ⟨rfl, rfl⟩, hide (by (repeat (first | with_reducible exact Below.refl _ _ | with_reducible assumption | with_reducible refine Below.drew ?_ | with_reducible refine bl_alloc ?_ _ | with_reducible refine bl_call ?_ (by assumption) | (focus (with_reducible refine Below.setCell ?_ ?_ _; rotate_left; focus (first | omega | (simp <;> omega)))) | fail)))⟩
  case round =>
    obtain ⟨hk, hB⟩ := hrel
    rcases hk with ⟨rfl, rfl⟩ | ⟨rfl, rfl⟩ | ⟨rfl, rfl⟩ | ⟨rfl, rfl⟩ | ⟨rfl, rfl⟩
    · go_wp2_with fail
      go_roundw
      case rel => exact ⟨.inr (.inl ⟨rfl, rfl⟩), hB⟩
      case measure => decide
    · go_wp2_with fail
      go_roundw
      case rel => exact ⟨.inr (.inr (.inl ⟨rfl, rfl⟩)), hB⟩
      case measure => decide
    · go_wp2_with fail
      go_roundw
      case rel => exact ⟨.inr (.inr (.inr (.inl ⟨rfl, rfl⟩))), hB⟩
      case measure => decide
    · go_wp2_with fail
      go_roundw
      case rel => exact ⟨.inr (.inr (.inr (.inr ⟨rfl, rfl⟩))), hB⟩
      case measure => decide
    · go_wp2_with fail
      go_ret
      exact ⟨rfl, unhide hB⟩
end Go.Proofs.Ythmhhgodjpgjnaa
