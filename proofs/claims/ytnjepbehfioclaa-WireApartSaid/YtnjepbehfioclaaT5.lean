import Derived.Test.YtnjepbehfioclaaT4
import Derived.Laws.StructEq
namespace Go.Proofs.Ytnjepbehfioclaa
open Go.RowKit
set_option maxRecDepth 100000

/-- The files' parts but the ranks. -/
def eqR (a b : List UInt8) (s s' x x' y y' z z' : Int) : Bool := a == b && s == s' && x == x' && y == y' && z == z'
theorem eqf0 (W : World) (d : Nat) : (Op.equalIn (d + 1) 23 (.float .f64 0) (.float .f64 0)).run Try.prog W = .ok true W := by
  unfold Op.equalIn
  go_simp
  exact ord_eq 0 0 |>.trans (by decide)
theorem run_eq_fl (a b : List UInt8) (s s' x x' y y' z z' : Int) (W : World) :
    (Op.equalIn 10000 26 (.agg #[.string (bz a), .float .f64 0, .int .u32 s, .int .i64 x, .int .i64 y, .int .i64 z]) (.agg #[.string (bz b), .float .f64 0, .int .u32 s', .int .i64 x', .int .i64 y', .int .i64 z'])).run Try.prog W = .ok (eqR a b s s' x x' y y' z z') W := by
  rw [run_equalIn_agg W 9999 26 _ _ (by kernel_rfl) (by kernel_rfl)]
  have e9 := fun (a b : ByteArray) => run_equalIn_string W 9998 9 a b Try.underlying9
  have e24 := fun (a b : Int) => run_equalIn_int W 9998 24 .u32 .u32 a b Try.underlying24
  have e3 := fun (a b : Int) => run_equalIn_int W 9998 3 .i64 .i64 a b Try.underlying3
  have e23 := eqf0 W 9998
  unfold Program.fieldsOf
  unfold eqR
  simp [Try.underlying26, Op.eqFields, part, e9, e3, e24, e23]
  rw [bz_toList, bz_toList]
  (repeat' split) <;> simp_all
theorem guard26 : Try.prog.eqGuardType Try.prog.depth 26 = false := by kernel_rfl
theorem run_eql_fl (a b : List UInt8) (s s' x x' y y' z z' : Int) (W : World) :
    (binOp .eql 26 (.agg #[.string (bz a), .float .f64 0, .int .u32 s, .int .i64 x, .int .i64 y, .int .i64 z]) (.agg #[.string (bz b), .float .f64 0, .int .u32 s', .int .i64 x', .int .i64 y', .int .i64 z'])).run Try.prog W = .ok (.bool (eqR a b s s' x x' y y' z z')) W := by
  rw [run_eql_struct, run_eq_fl]; rfl
attribute [-go_sem] run_eql_struct run_neq_struct
attribute [local go_sem] bz_size bz_toList run_store_float
attribute [local go_sem] run_eql_fl guard26
theorem fOne_eq (a b : Fl) : fOne a b = (keyF a.rk == keyF b.rk && eqR a.nm b.nm a.sm b.sm a.bk b.bk a.fr b.fr a.ln b.ln) := by
  unfold fOne eqR
  cases a.nm == b.nm <;> simp [Bool.and_assoc]
theorem isSame_any (a b : Fl) (ha : a.rk < 18446744073709551616) (hb : b.rk < 18446744073709551616) (w : World) :
    Calls Try.prog 35 #[(.agg #[.string (bz a.nm), .float .f64 a.rk, .int .u32 a.sm, .int .i64 a.bk, .int .i64 a.fr, .int .i64 a.ln]), (.agg #[.string (bz b.nm), .float .f64 b.rk, .int .u32 b.sm, .int .i64 b.bk, .int .i64 b.fr, .int .i64 b.ln])] w fun e W' => e = .returned (.bool (fOne a b)) ∧ Below w.heap.size w W' := by
  have HS := fun W => Same_any a.rk b.rk ha hb W
  rw [fOne_eq]
  clear ha hb
  obtain ⟨q, hq⟩ : ∃ q, q = (keyF a.rk == keyF b.rk) := ⟨_, rfl⟩
  obtain ⟨r, hr⟩ : ∃ q, q = eqR a.nm b.nm a.sm b.sm a.bk b.bk a.fr b.fr a.ln b.ln := ⟨_, rfl⟩
  rw [← hq] at HS ⊢
  rw [← hr]
  clear hq
  replace HS := hide HS; replace hr := hide hr
  cases q with
  | false =>
    go_enter Try.func35, Try.ntmps35
    go_wp2_with (go_at_call 49; refine (unhide HS _).mono ?_; rintro e w1 ⟨rfl, rfl⟩)
    go_ret
    exact ⟨rfl, bl_alloc (bl_alloc (Below.refl _ _) _) _⟩
  | true =>
    go_enter Try.func35, Try.ntmps35
    go_wp2_with (go_at_call 49; refine (unhide HS _).mono ?_; rintro e w1 ⟨rfl, rfl⟩)
    go_ret
    exact ⟨ret_b rfl (by rw [unhide hr]; rfl), bl_alloc (bl_alloc (Below.refl _ _) _) _⟩
end Go.Proofs.Ytnjepbehfioclaa
