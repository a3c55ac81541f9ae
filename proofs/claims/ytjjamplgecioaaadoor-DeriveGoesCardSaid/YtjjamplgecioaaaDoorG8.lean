import Derived.Test.YtjjamplgecioaaaDoorG7
namespace Go.Proofs.YtjjamplgecioaaaDoor
open Go.RowKit

set_option maxHeartbeats 400000 in
theorem live_any (w W : World) (ht : Tab w) (hb0 : Below w.heap.size w W) : Calls Tryd.prog 8 #[] W fun e w' => e = .returned (.bool true) ∧ Below W.heap.size W w' := by
  have ht' := ht.below hb0 (Nat.le_refl _)
  clear ht hb0
  have K1 : Blk (W.alloc (.cells #[.int .u8 5] 5)) W.heap.size 5 (([5] : List UInt8).map u8v).toArray := Blk.new rfl
  have b1 : Bs 0 (W.alloc (.cells #[.int .u8 5] 5)).heap.size (W.alloc (.cells #[.int .u8 5] 5)) (.slice (some ⟨W.heap.size, 0, none⟩) 1 1) [5] := Bs.of_blk K1 rfl (by omega)
  have bl : Below W.heap.size W (W.alloc (.cells #[.int .u8 5] 5)) := bl_alloc (Below.refl _ _) _
  have hc := go_good ⟨1#32, 2#32, 3#32, 4#32⟩ _ _ 0 _ (ht'.below bl (Nat.le_refl _)) b1 (by simp) (by omega)
  have e0 : goF 0 (⟨1#32, 2#32, 3#32, 4#32⟩ : St) [5] = ⟨1#32, 2#32, 3#32, 4#32⟩ := rfl
  rw [e0] at hc
  have hc' : Calls Tryd.prog 11 #[.agg #[.int .u32 1, .int .u32 2, .int .u32 3, .int .u32 4], .slice (some ⟨W.heap.size, 0, none⟩) 1 1, .int .i64 0] (W.alloc (.cells #[.int .u8 5] 5)) fun e w' => e = .returned (.tuple #[.agg #[.int .u32 1, .int .u32 2, .int .u32 3, .int .u32 4], .int .i64 0]) ∧ Below W.heap.size W w' :=
    hc.mono fun e w' h => ⟨h.1, bl_call bl h.2⟩
  have hq : ∀ V, (binOp .eql 24 (.agg #[.int .u32 1, .int .u32 2, .int .u32 3, .int .u32 4]) (.agg #[.int .u32 1, .int .u32 2, .int .u32 3, .int .u32 4])).run Tryd.prog V = .ok (.bool true) V := fun V => by
    have := eql_st V ⟨1#32, 2#32, 3#32, 4#32⟩ ⟨1#32, 2#32, 3#32, 4#32⟩
    rw [sameS_self] at this
    exact this
  have hg := guard24
  clear K1 b1 bl hc e0 ht'
  replace hc' := hide hc'
  go_enter Tryd.func8, Tryd.ntmps8
  go_wp2_with (first
    | (go_at_call 11; refine (unhide hc').mono ?_; rintro e w1 ⟨rfl, hb1⟩; replace hb1 := hide hb1)
    | fail)
  go_ret
  exact ⟨rfl, bl_alloc (unhide hb1) _⟩
end Go.Proofs.YtjjamplgecioaaaDoor
