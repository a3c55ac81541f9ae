import Derived.Test.YtjjamplgecioaaaDoorBase2
namespace Go.Proofs.YtjjamplgecioaaaDoor
open Go.RowKit

/-- The numbers of places lie where the program laid them. -/
structure Tab (w : World) : Prop where
  lt : 0 < w.heap.size
  c0 : w.cell? ⟨0, 0, none⟩ = some (.int .i64 16)
  c1 : w.cell? ⟨0, 1, none⟩ = some (.int .i64 12)
  c2 : w.cell? ⟨0, 2, none⟩ = some (.int .i64 8)
  c3 : w.cell? ⟨0, 3, none⟩ = some (.int .i64 7)
theorem Tab.below {w w' : World} {B : Nat} (h : Tab w) (hb : Below B w w') (hB : w.heap.size ≤ B) : Tab w' :=
  have h0 : 0 < B := Nat.lt_of_lt_of_le h.lt hB
  ⟨Nat.lt_of_lt_of_le h.lt hb.size, (hb.cell (p := ⟨0, 0, none⟩) h0).trans h.c0, (hb.cell (p := ⟨0, 1, none⟩) h0).trans h.c1, (hb.cell (p := ⟨0, 2, none⟩) h0).trans h.c2, (hb.cell (p := ⟨0, 3, none⟩) h0).trans h.c3⟩

section
attribute [local go_sem] r_or r_shr7 r_shr8 r_shr12 r_shr16 r_shr20 r_shr24 r_shr25 r_shl7 r_shl8 r_shl12 r_shl16 r_shl20 r_shl24 r_shl25
set_option maxHeartbeats 400000 in
theorem rotl7_any (x : Reg) (w : World) : Calls Tryd.prog 27 #[u32v x, .int .i64 7] w fun e w' => e = .returned (u32v (rot x 7)) ∧ w = w' := by
  have hk : bits BinOp.and IntKind.u64 7 31 = 7 := by kernel_rfl
  go_enter Tryd.func27, Tryd.ntmps27
  go_wp2
  go_ret
  exact ⟨rfl, rfl⟩
set_option maxHeartbeats 400000 in
theorem turned7_any (x : Reg) (w : World) : Calls Tryd.prog 28 #[u32v x, .int .i64 7] w fun e w' => e = .returned (u32v (rot x 7)) ∧ ∃ m, w' = w.drewN m := by
  go_enter Tryd.func28, Tryd.ntmps28
  go_wp2_with (fail)
  go_quiet (fail)
  go_wp2
  go_ret
  exact ⟨rfl, _, rfl⟩
set_option maxHeartbeats 400000 in
theorem rotl8_any (x : Reg) (w : World) : Calls Tryd.prog 27 #[u32v x, .int .i64 8] w fun e w' => e = .returned (u32v (rot x 8)) ∧ w = w' := by
  have hk : bits BinOp.and IntKind.u64 8 31 = 8 := by kernel_rfl
  go_enter Tryd.func27, Tryd.ntmps27
  go_wp2
  go_ret
  exact ⟨rfl, rfl⟩
set_option maxHeartbeats 400000 in
theorem turned8_any (x : Reg) (w : World) : Calls Tryd.prog 28 #[u32v x, .int .i64 8] w fun e w' => e = .returned (u32v (rot x 8)) ∧ ∃ m, w' = w.drewN m := by
  go_enter Tryd.func28, Tryd.ntmps28
  go_wp2_with (fail)
  go_quiet (fail)
  go_wp2
  go_ret
  exact ⟨rfl, _, rfl⟩
set_option maxHeartbeats 400000 in
theorem rotl12_any (x : Reg) (w : World) : Calls Tryd.prog 27 #[u32v x, .int .i64 12] w fun e w' => e = .returned (u32v (rot x 12)) ∧ w = w' := by
  have hk : bits BinOp.and IntKind.u64 12 31 = 12 := by kernel_rfl
  go_enter Tryd.func27, Tryd.ntmps27
  go_wp2
  go_ret
  exact ⟨rfl, rfl⟩
set_option maxHeartbeats 400000 in
theorem turned12_any (x : Reg) (w : World) : Calls Tryd.prog 28 #[u32v x, .int .i64 12] w fun e w' => e = .returned (u32v (rot x 12)) ∧ ∃ m, w' = w.drewN m := by
  go_enter Tryd.func28, Tryd.ntmps28
  go_wp2_with (fail)
  go_quiet (fail)
  go_wp2
  go_ret
  exact ⟨rfl, _, rfl⟩
set_option maxHeartbeats 400000 in
theorem rotl16_any (x : Reg) (w : World) : Calls Tryd.prog 27 #[u32v x, .int .i64 16] w fun e w' => e = .returned (u32v (rot x 16)) ∧ w = w' := by
  have hk : bits BinOp.and IntKind.u64 16 31 = 16 := by kernel_rfl
  go_enter Tryd.func27, Tryd.ntmps27
  go_wp2
  go_ret
  exact ⟨rfl, rfl⟩
set_option maxHeartbeats 400000 in
theorem turned16_any (x : Reg) (w : World) : Calls Tryd.prog 28 #[u32v x, .int .i64 16] w fun e w' => e = .returned (u32v (rot x 16)) ∧ ∃ m, w' = w.drewN m := by
  go_enter Tryd.func28, Tryd.ntmps28
  go_wp2_with (fail)
  go_quiet (fail)
  go_wp2
  go_ret
  exact ⟨rfl, _, rfl⟩
set_option maxHeartbeats 400000 in
theorem rotr7_any (x : Reg) (w : World) : Calls Tryd.prog 27 #[u32v x, .int .i64 (-7)] w fun e w' => e = .returned (u32v (rot x 25)) ∧ w = w' := by
  have hk : bits BinOp.and IntKind.u64 (IntKind.u64.wrap (-7)) 31 = 25 := by kernel_rfl
  go_enter Tryd.func27, Tryd.ntmps27
  go_wp2
  go_ret
  exact ⟨rfl, rfl⟩
set_option maxHeartbeats 400000 in
theorem rotr8_any (x : Reg) (w : World) : Calls Tryd.prog 27 #[u32v x, .int .i64 (-8)] w fun e w' => e = .returned (u32v (rot x 24)) ∧ w = w' := by
  have hk : bits BinOp.and IntKind.u64 (IntKind.u64.wrap (-8)) 31 = 24 := by kernel_rfl
  go_enter Tryd.func27, Tryd.ntmps27
  go_wp2
  go_ret
  exact ⟨rfl, rfl⟩
set_option maxHeartbeats 400000 in
theorem rotr12_any (x : Reg) (w : World) : Calls Tryd.prog 27 #[u32v x, .int .i64 (-12)] w fun e w' => e = .returned (u32v (rot x 20)) ∧ w = w' := by
  have hk : bits BinOp.and IntKind.u64 (IntKind.u64.wrap (-12)) 31 = 20 := by kernel_rfl
  go_enter Tryd.func27, Tryd.ntmps27
  go_wp2
  go_ret
  exact ⟨rfl, rfl⟩
set_option maxHeartbeats 400000 in
theorem rotr16_any (x : Reg) (w : World) : Calls Tryd.prog 27 #[u32v x, .int .i64 (-16)] w fun e w' => e = .returned (u32v (rot x 16)) ∧ w = w' := by
  have hk : bits BinOp.and IntKind.u64 (IntKind.u64.wrap (-16)) 31 = 16 := by kernel_rfl
  go_enter Tryd.func27, Tryd.ntmps27
  go_wp2
  go_ret
  exact ⟨rfl, rfl⟩
end
end Go.Proofs.YtjjamplgecioaaaDoor
