import Derived.Test.YtommlgdolahfbaaDoorRA
import Derived.Laws.StructEq
import Derived.WalkKit
import Derived.Test.YtommlgdolahfbaaDoorProg
namespace Go.Proofs.YtommlgdolahfbaaDoor
set_option maxRecDepth 100000
open Go.RowKit

theorem run_eq_ex (a b c d : Int) (W : World) : (Op.equalIn 9999 24 (.agg #[.int .i64 a, .int .i64 b]) (.agg #[.int .i64 c, .int .i64 d])).run Tryd.prog W = .ok (a == c && b == d) W := by
  rw [run_equalIn_agg W 9998 24 _ _ (by kernel_rfl) (by kernel_rfl)]
  have e3 := fun (a b : Int) => run_equalIn_int W 9997 3 .i64 .i64 a b Tryd.underlying3
  unfold Program.fieldsOf
  simp [Tryd.underlying24, Op.eqFields, part, e3]
  (repeat' split) <;> simp_all
theorem run_eq_rt (r s : Rt) (W : World) : (Op.equalIn 10000 27 (.agg #[.int .u64 (r.gen : Nat), .int .i64 r.at_, .int .i64 r.len, .int .i64 r.long, .int .u32 (r.sum : Nat), .int .u64 (r.next : Nat)]) (.agg #[.int .u64 (s.gen : Nat), .int .i64 s.at_, .int .i64 s.len, .int .i64 s.long, .int .u32 (s.sum : Nat), .int .u64 (s.next : Nat)])).run Tryd.prog W = .ok (decide (r = s)) W := by
  rw [run_equalIn_agg W 9999 27 _ _ (by kernel_rfl) (by kernel_rfl)]
  have e3 := fun (a b : Int) => run_equalIn_int W 9998 3 .i64 .i64 a b Tryd.underlying3
  have hn : ∀ a b : Nat, ((a : Int) == (b : Int)) = (a == b) := fun a b => by rw [Bool.eq_iff_iff]; simp; omega
  have e22 := fun (a b : Nat) => (run_equalIn_int W 9998 22 .u64 .u64 a b Tryd.underlying22).trans (by rw [hn])
  have e25 := fun (a b : Nat) => (run_equalIn_int W 9998 25 .u32 .u32 a b Tryd.underlying25).trans (by rw [hn])
  have eX := fun (a b c d : Int) => run_eq_ex a b c d W
  have hd : decide (r = s) = (r.gen == s.gen && (r.at_ == s.at_ && r.len == s.len) && r.long == s.long && r.sum == s.sum && r.next == s.next) := by
    rw [Bool.eq_iff_iff]
    obtain ⟨a, b, c, d, e, f⟩ := r
    obtain ⟨a', b', c', d', e', f'⟩ := s
    simp [and_assoc]
  rw [hd]
  unfold Program.fieldsOf
  simp [Tryd.underlying27, Op.eqFields, part, e3, e22, e25, eX]
  by_cases h1 : r.gen = s.gen <;> by_cases h2 : r.at_ = s.at_ <;> by_cases h3 : r.len = s.len <;> by_cases h4 : r.long = s.long <;> by_cases h5 : r.sum = s.sum <;> by_cases h6 : r.next = s.next <;> simp [h1, h2, h3, h4, h5, h6]
theorem guardR : Tryd.prog.eqGuardType Tryd.prog.depth 27 = false := by kernel_rfl
theorem run_eql_rt (r s : Rt) (W : World) : (binOp .eql 27 (.agg #[.int .u64 (r.gen : Nat), .int .i64 r.at_, .int .i64 r.len, .int .i64 r.long, .int .u32 (r.sum : Nat), .int .u64 (r.next : Nat)]) (.agg #[.int .u64 (s.gen : Nat), .int .i64 s.at_, .int .i64 s.len, .int .i64 s.long, .int .u32 (s.sum : Nat), .int .u64 (s.next : Nat)])).run Tryd.prog W = .ok (.bool (decide (r = s))) W := by
  rw [run_eql_struct, run_eq_rt]; rfl
theorem run_neq_rt (r s : Rt) (W : World) : (binOp .neq 27 (.agg #[.int .u64 (r.gen : Nat), .int .i64 r.at_, .int .i64 r.len, .int .i64 r.long, .int .u32 (r.sum : Nat), .int .u64 (r.next : Nat)]) (.agg #[.int .u64 (s.gen : Nat), .int .i64 s.at_, .int .i64 s.len, .int .i64 s.long, .int .u32 (s.sum : Nat), .int .u64 (s.next : Nat)])).run Tryd.prog W = .ok (.bool (!decide (r = s))) W := by
  rw [run_neq_struct, run_eq_rt]; rfl
theorem run_eql_zero (r : Rt) (W : World) : (binOp .eql 27 (.agg #[.int .u64 (r.gen : Nat), .int .i64 r.at_, .int .i64 r.len, .int .i64 r.long, .int .u32 (r.sum : Nat), .int .u64 (r.next : Nat)]) (.agg #[.int .u64 0, .int .i64 0, .int .i64 0, .int .i64 0, .int .u32 0, .int .u64 0])).run Tryd.prog W = .ok (.bool (decide (r = noRt))) W := run_eql_rt r noRt W
end Go.Proofs.YtommlgdolahfbaaDoor
