import Derived.Test.YtommlgdolahfbaaDoorRB
namespace Go.Proofs.YtommlgdolahfbaaDoor
set_option maxRecDepth 100000
open Go.RowKit
theorem bl_set {a w : World} (h : Below a.heap.size a w) {g : Nat} (hg : a.heap.size ≤ g) (i : Nat) (u : Value) : Below a.heap.size a (w.setCell ⟨g, i, none⟩ u) := h.setCell (p := ⟨g, i, none⟩) hg u
theorem bl_set6 {a w : World} (h : Below a.heap.size a w) {g : Nat} (hg : a.heap.size ≤ g) (x0 x1 x2 x3 x4 x5 : Value) :
    Below a.heap.size a ((((((w.setCell ⟨g, 0, none⟩ x0).setCell ⟨g, 1, none⟩ x1).setCell ⟨g, 2, none⟩ x2).setCell ⟨g, 3, none⟩ x3).setCell ⟨g, 4, none⟩ x4).setCell ⟨g, 5, none⟩ x5) :=
  bl_set (bl_set (bl_set (bl_set (bl_set (bl_set h hg _ _) hg _ _) hg _ _) hg _ _) hg _ _) hg _ _
theorem bl_set7 {a w : World} (h : Below a.heap.size a w) {g : Nat} (hg : a.heap.size ≤ g) (x0 x1 x2 x3 x4 x5 x6 : Value) :
    Below a.heap.size a (((((((w.setCell ⟨g, 0, none⟩ x0).setCell ⟨g, 1, none⟩ x1).setCell ⟨g, 2, none⟩ x2).setCell ⟨g, 3, none⟩ x3).setCell ⟨g, 4, none⟩ x4).setCell ⟨g, 5, none⟩ x5).setCell ⟨g, 6, none⟩ x6) :=
  bl_set (bl_set6 h hg _ _ _ _ _ _) hg _ _
/-- The numbers of a root, as an array. -/
def numV (f : Nat → Nat) : Value := .agg #[.int .u64 (f 0 : Nat), .int .u64 (f 1 : Nat), .int .u64 (f 2 : Nat), .int .u64 (f 3 : Nat), .int .u64 (f 4 : Nat), .int .u64 (f 5 : Nat), .int .u64 (f 6 : Nat)]
theorem numbersOf_any (r : Rt) (h : rOk r = true) (hT : OkT r) (w : World) : Calls Tryd.prog 28 #[(.agg #[.int .u64 (r.gen : Nat), .int .i64 r.at_, .int .i64 r.len, .int .i64 r.long, .int .u32 (r.sum : Nat), .int .u64 (r.next : Nat)])] w fun e w' => e = .returned (numV (num r)) ∧ Below w.heap.size w w' := by
  obtain ⟨a1, a2, a3, a4, a5, a6, a7, a8⟩ := rOk_iff.1 h
  have hs := hT.2.1
  obtain ⟨g, a, l, n, s, x⟩ := r
  simp only [] at *
  obtain ⟨a, rfl⟩ := Int.eq_ofNat_of_zero_le (show 0 ≤ a by omega)
  obtain ⟨l, rfl⟩ := Int.eq_ofNat_of_zero_le (show 0 ≤ l by omega)
  obtain ⟨n, rfl⟩ := Int.eq_ofNat_of_zero_le (show 0 ≤ n by omega)
  have e1 : IntKind.u64.wrap (a : Int) = (a : Int) := by rw [IntKind.wrap_u64]; omega
  have e2 : IntKind.u64.wrap (l : Int) = (l : Int) := by rw [IntKind.wrap_u64]; omega
  have e3 : IntKind.u64.wrap (n : Int) = (n : Int) := by rw [IntKind.wrap_u64]; omega
  have e4 : IntKind.u64.wrap (s : Int) = (s : Int) := by rw [IntKind.wrap_u64]; omega
  clear h hT a1 a2 a3 a4 a5 a6 a7 a8 hs
  go_enter Tryd.func28, Tryd.ntmps28
  go_wp2
  refine ret_n1 rfl (w.heap.size + 1) _ rfl rfl (Blk.new (by simp)) rfl ⟨?_, bl_alloc (bl_alloc (Below.refl _ _) _) _⟩
  try simp only [e1, e2, e3, e4]
  rfl
theorem rootOf_any (f : Nat → Nat) (h1 : f 1 < 65536) (h2 : f 2 < 65536) (h3 : f 3 < 16777216) (h4 : f 4 < 4294967296) (w : World) :
    Calls Tryd.prog 31 #[numV f] w fun e w' => e = .returned (.agg #[.int .u64 (f 0 : Nat), .int .i64 (f 1 : Nat), .int .i64 (f 2 : Nat), .int .i64 (f 3 : Nat), .int .u32 (f 4 : Nat), .int .u64 (f 5 : Nat)]) ∧ Below w.heap.size w w' := by
  unfold numV
  have e4 : ((f 4 : Nat) : Int) % 4294967296 = (f 4 : Nat) := by omega
  go_enter Tryd.func31, Tryd.ntmps31
  go_wp2
  refine ret_r1 rfl (w.heap.size + 1) _ rfl rfl (Blk.new (by simp)) rfl ⟨rfl, bl_alloc (bl_alloc (Below.refl _ _) _) _⟩
end Go.Proofs.YtommlgdolahfbaaDoor
