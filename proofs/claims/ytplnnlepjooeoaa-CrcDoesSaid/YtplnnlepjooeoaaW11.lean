import Derived.Test.YtplnnlepjooeoaaW8
import Derived.Laws.StructEq
import Derived.Laws.Cover3
namespace Go.Proofs.Ytplnnlepjooeoaa
open Go.RowKit

theorem eqInt5 (w : World) (d : Nat) (a b : Int) : (Op.equalIn (d + 1) 5 (.int .u8 a) (.int .u8 b)).run Try.prog w = .ok (a == b) w := run_equalIn_int w d 5 .u8 .u8 a b Try.underlying5
theorem part5_0 (w : World) (a b c d : Value) : (part 5 #[a, b, c, d] 0).run Try.prog w = .ok a w := by kernel_rfl
theorem part5_1 (w : World) (a b c d : Value) : (part 5 #[a, b, c, d] 1).run Try.prog w = .ok b w := by kernel_rfl
theorem part5_2 (w : World) (a b c d : Value) : (part 5 #[a, b, c, d] 2).run Try.prog w = .ok c w := by kernel_rfl
theorem part5_3 (w : World) (a b c d : Value) : (part 5 #[a, b, c, d] 3).run Try.prog w = .ok d w := by kernel_rfl
theorem size5 (w : World) : (sizeOf 5).run Try.prog w = .ok 1 w := by kernel_rfl
/-- Are the four octets the same? -/
def same4 (a b c d a' b' c' d' : Int) : Bool := a == a' && b == b' && c == c' && d == d'
theorem eq_arr4 (w : World) (a b c d a' b' c' d' : Int) :
    (Op.equalIn 10000 36 (.agg #[.int .u8 a, .int .u8 b, .int .u8 c, .int .u8 d]) (.agg #[.int .u8 a', .int .u8 b', .int .u8 c', .int .u8 d'])).run Try.prog w = .ok (same4 a b c d a' b' c' d') w := by
  rw [show (10000 : Nat) = 9998 + 1 + 1 from rfl, Op.equalIn]
  simp only [Sem.run_bind, run_underlying Try.underlying36, Result.andThen_ok, size5]
  simp only [Std.Legacy.Range.forIn_eq_forIn_range', Std.Legacy.Range.size, List.range', Nat.sub_zero, Nat.add_one_sub_one, Nat.div_one, List.forIn_cons, List.forIn_nil, Sem.run_bind, Nat.mul_one, part5_0, Result.andThen_ok, Nat.zero_add, Nat.reduceAdd, eqInt5]
  unfold same4
  cases h0 : a == a' <;> cases h1 : b == b' <;> cases h2 : c == c' <;> cases h3 : d == d' <;> simp [part5_1, part5_2, part5_3, eqInt5, h1, h2, h3, Result.andThen]

theorem neq_arr4 (w : World) (a b c d a' b' c' d' : Int) :
    (binOp .neq 36 (.agg #[.int .u8 a, .int .u8 b, .int .u8 c, .int .u8 d]) (.agg #[.int .u8 a', .int .u8 b', .int .u8 c', .int .u8 d'])).run Try.prog w = .ok (.bool (!same4 a b c d a' b' c' d')) w := by
  rw [run_neq_struct, eq_arr4]
  rfl
theorem guard36 : Try.prog.eqGuardType Try.prog.depth 36 = false := by kernel_rfl
theorem arr36 (w : World) (a : Option Addr) (c : Nat) : (Instr.arrayAt 36 (.slice a 4 c)).run Try.prog w = .ok (.pointer a) w := run_arrayAt (P := Try.prog) w 36 5 4 a 4 c Try.underlying36 (Nat.le_refl _)

/-- Is the sum behind the first 'm' octets right? -/
def okO (l : List UInt8) (m : Nat) : Bool :=
  same4 (n8 (l.getD m 0)) (n8 (l.getD (m + 1) 0)) (n8 (l.getD (m + 2) 0)) (n8 (l.getD (m + 3) 0)) (low8 (sumR (l.take m))) (low8 (sumR (l.take m) >>> 8)) (low8 (sumR (l.take m) >>> 16)) (low8 (sumR (l.take m) >>> 24))
theorem n8_inj {x y : UInt8} : n8 x = n8 y ↔ x = y := by
  unfold n8
  constructor
  · intro h; exact UInt8.toNat_inj.1 (by omega)
  · intro h; rw [h]
theorem okO_iff {l : List UInt8} {m : Nat} (h : l.length = m + 4) : okO l m = true ↔ l.drop m = octs (sumR (l.take m)) := by
  have h1 : l.drop m = [l.getD m 0, l.getD (m + 1) 0, l.getD (m + 2) 0, l.getD (m + 3) 0] := by
    apply List.ext_getElem
    · simp; omega
    · intro i hi hj
      have hi' : i < 4 := by simpa using hj
      match i, hi' with
      | 0, _ => simp [List.getD_eq_getElem?_getD, show m < l.length by omega]
      | 1, _ => simp [List.getD_eq_getElem?_getD, show m + 1 < l.length by omega]
      | 2, _ => simp [List.getD_eq_getElem?_getD, show m + 2 < l.length by omega]
      | 3, _ => simp [List.getD_eq_getElem?_getD, show m + 3 < l.length by omega]
  rw [h1]
  unfold okO same4 octs
  generalize sumR (l.take m) = s at *
  simp only [Bool.and_eq_true, beq_iff_eq, List.cons.injEq, and_true]
  have e : ∀ (x : UInt8) (r : Reg), n8 x = low8 r ↔ x = ⟨r.setWidth 8⟩ := fun x r => n8_inj (x := x) (y := ⟨r.setWidth 8⟩)
  rw [e, e, e, e, and_assoc, and_assoc]
end Go.Proofs.Ytplnnlepjooeoaa
