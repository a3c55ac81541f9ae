import Derived.Test.YtnjepbehfioclaaR8
import Derived.Test.YtnjepbehfioclaaA5
namespace Go.Proofs.Ytnjepbehfioclaa
open Go.RowKit
attribute [local go_sem] bz_size bz_toList run_store_float
set_option maxRecDepth 100000

/-! ### the calls, as a law meets them -/
theorem bs_of {W : World} {base : Nat} {v : Value} {l : List UInt8} (h : OwnB W base v l) : Bs 0 W.heap.size W v l := Rd.mono h.bs (Nat.zero_le _) (Nat.le_refl _)
theorem fls_of {W : World} {base : Nat} {v : Value} {l : List Fl} (h : OwnF W base v l) : Fls 0 W.heap.size W v l := Rd.mono h.fls (Nat.zero_le _) (Nat.le_refl _)
section
variable (v : Value) (l : List Fl) (b : List UInt8) (f : Fl) (W : World)
theorem cBytes (h : Fls 0 W.heap.size W v l) (hs : SmL l) (hu : SmU l) : Calls Try.prog 10 #[v] W fun e w' => ∃ A c, e = .returned (.tuple #[.slice A (bytesL l).length c, .int .i64 (errB (tabB l))]) ∧ Bs 0 w'.heap.size w' (.slice A (bytesL l).length c) (bytesL l) ∧ Below W.heap.size W w' :=
  (Bytes_any 0 _ v l W h (Nat.le_refl _) hs hu).mono fun _ _ ⟨A, c, e, o, B⟩ => ⟨A, c, e, bs_of o, B⟩
theorem cRefBytes (h : Fls 0 W.heap.size W v l) (hs : SmL l) (hu : SmU l) : Calls Try.prog 11 #[v] W fun e w' => ∃ A c, e = .returned (.tuple #[.slice A (bytesL l).length c, .int .i64 (errB (tabB l))]) ∧ Bs 0 w'.heap.size w' (.slice A (bytesL l).length c) (bytesL l) ∧ Below W.heap.size W w' :=
  (refBytes_any 0 _ v l W h (Nat.le_refl _) hs hu).mono fun _ _ ⟨A, c, e, o, B⟩ => ⟨A, c, e, bs_of o, B⟩
theorem cOne (hs : SmF f) (hu : U32F f) : Calls Try.prog 12 #[(.agg #[.string (bz f.nm), .float .f64 f.rk, .int .u32 f.sm, .int .i64 f.bk, .int .i64 f.fr, .int .i64 f.ln])] W fun e w' => ∃ A c, e = .returned (.tuple #[.slice A (oneL f).length c, .int .i64 (errB (okF f))]) ∧ Bs 0 w'.heap.size w' (.slice A (oneL f).length c) (oneL f) ∧ Below W.heap.size W w' :=
  (One_any f hs hu W).mono fun _ _ ⟨A, c, e, o, B⟩ => ⟨A, c, e, bs_of o, B⟩
theorem cRefOne (hs : SmF f) (hu : U32F f) : Calls Try.prog 13 #[(.agg #[.string (bz f.nm), .float .f64 f.rk, .int .u32 f.sm, .int .i64 f.bk, .int .i64 f.fr, .int .i64 f.ln])] W fun e w' => ∃ A c, e = .returned (.tuple #[.slice A (oneL f).length c, .int .i64 (errB (okF f))]) ∧ Bs 0 w'.heap.size w' (.slice A (oneL f).length c) (oneL f) ∧ Below W.heap.size W w' :=
  (refOneT_any f hs hu W).mono fun _ _ ⟨A, c, e, o, B⟩ => ⟨A, c, e, bs_of o, B⟩
theorem cLong (h : Fls 0 W.heap.size W v l) (hs : SmL l) : Calls Try.prog 14 #[v] W fun e w' => e = .returned (.tuple #[.int .i64 ((bytesL l).length : Nat), .int .i64 (errB (tabB l))]) ∧ Below W.heap.size W w' := Long_any 0 _ v l W h (Nat.le_refl _) hs
theorem cRefLong (h : Fls 0 W.heap.size W v l) (hs : SmL l) (hu : SmU l) : Calls Try.prog 15 #[v] W fun e w' => e = .returned (.tuple #[.int .i64 ((bytesL l).length : Nat), .int .i64 (errB (tabB l))]) ∧ Below W.heap.size W w' := refLong_any 0 _ v l W h (Nat.le_refl _) hs hu
theorem cFrom (h : Bs 0 W.heap.size W v b) : Calls Try.prog 16 #[v] W fun e w' => ∃ A c, e = .returned (.tuple #[.slice A (fromL b).length c, .int .i64 (fromE b)]) ∧ w'.ownsRow W.heap.size 26 6 (.slice A (fromL b).length c) (fromL b).length ((fromL b).flatMap fc) ∧ Below W.heap.size W w' := From_any 0 _ v b W h (Nat.le_refl _)
theorem cRefFrom (h : Bs 0 W.heap.size W v b) : Calls Try.prog 17 #[v] W fun e w' => ∃ A c, e = .returned (.tuple #[.slice A (fromL b).length c, .int .i64 (fromE b)]) ∧ w'.ownsRow W.heap.size 26 6 (.slice A (fromL b).length c) (fromL b).length ((fromL b).flatMap fc) ∧ Below W.heap.size W w' := refFrom_any 0 _ v b W h (Nat.le_refl _)
theorem cSameB (v v' : Value) (a b : List UInt8) (h : Bs 0 W.heap.size W v a) (h' : Bs 0 W.heap.size W v' b) : Calls Try.prog 18 #[v, v'] W fun e w' => e = .returned (.bool (a == b)) ∧ Below W.heap.size W w' :=
  (sameBytes_any 0 _ 0 _ v v' a b W h h').mono fun _ _ ⟨e, k⟩ => ⟨e, k ▸ Below.refl _ _⟩
theorem cSame (v v' : Value) (a b : List Fl) (h : Fls 0 W.heap.size W v a) (h' : Fls 0 W.heap.size W v' b) (hs : SmL a) (hs' : SmL b) : Calls Try.prog 21 #[v, v'] W fun e w' => e = .returned (.bool (sameB a b)) ∧ Below W.heap.size W w' :=
  tsame_any 0 _ 0 _ v v' a b W h h' (Nat.le_refl _) (Nat.le_refl _) hs hs'
theorem cRefSame (v v' : Value) (a b : List Fl) (h : Fls 0 W.heap.size W v a) (h' : Fls 0 W.heap.size W v' b) (hs : SmL a) (hs' : SmL b) : Calls Try.prog 19 #[v, v'] W fun e w' => e = .returned (.bool (sameB a b)) ∧ Below W.heap.size W w' :=
  refSameL_any 0 _ 0 _ v v' a b W h h' (Nat.le_refl _) (Nat.le_refl _) hs hs'
theorem cCheck (h : Fls 0 W.heap.size W v l) (hs : SmL l) : Calls Try.prog 20 #[v] W fun e w' => e = .returned (.int .i64 (errB (tabB l))) ∧ Below W.heap.size W w' := tcheck_any 0 _ v l W h (Nat.le_refl _) hs
theorem cFew (h : Fls 0 W.heap.size W v l) : Calls Try.prog 9 #[v] W fun e w' => e = .returned (.bool (fewB l)) ∧ Below W.heap.size W w' := few_any 0 _ v l W h (Nat.le_refl _)
end
theorem own_fls {W : World} {base : Nat} {A : Option Addr} {c : Nat} {l : List Fl} (h : W.ownsRow base 26 6 (.slice A l.length c) l.length (l.flatMap fc)) : Fls 0 W.heap.size W (.slice A l.length c) l := fls_of (base := base) h
theorem small_few {l : List Fl} (hi : InL l) (hf : fewB l = true) : SmL l ∧ SmU l := ⟨fun f hx => ⟨by have := (few_iff hf).1 f hx; omega, (hi f hx).1⟩, fun f hx => (hi f hx).2⟩
theorem short_few {l : List Fl} (hf : fewB l = true) : l.length ≤ 258 := (few_iff hf).2
theorem in_few {l : List Fl} (hi : InL l) : SmU l := fun f hx => (hi f hx).2
end Go.Proofs.Ytnjepbehfioclaa
