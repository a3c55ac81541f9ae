/-
  ExtentDoes: whatever two extents, a number, an extent, and a size: the call returns true, and the arguments read as they did. No condition.
-/
import Derived.Test.YteokimebfbnlkaaC6
import Derived.Test.YteokimebfbnlkaaC7
import Derived.Test.YteokimebfbnlkaaC8
import Derived.Test.YteokimebfbnlkaaW15
namespace Go.Proofs.Yteokimebfbnlkaa
open Go.RowKit Go.ChangeShapes Go.WideShapes Go.ChangeAt Go.Deep Go.Joins

theorem does_law (lo lo' : Nat) (v vo : Value) (x o : Xs) (n m : Int) (s : Ex) (w : World) (h : XsR lo w.heap.size w v x) (hr : Rgs x.free) (ho : XsR lo' w.heap.size w vo o) (hs : s.len ≤ 9223372036854775807) :
    Calls Try.prog 3 #[v, vo, .int .i64 n, exV s, .int .i64 m] w fun e w' => e = .returned (.bool true) ∧ Below w.heap.size w w' := by
  by_cases hx : (x.size ≤ 100 ∨ 8192 < x.size) ∧ x.free.length ≤ 60
  · by_cases hy : (o.size ≤ 100 ∨ 8192 < o.size) ∧ o.free.length ≤ 60
    · by_cases h1 : m ≤ 200
      · exact does_main lo lo' v vo x o n m s w h hr ho hs hx hy h1
      · by_cases h2 : 8192 < m
        · exact does_far lo lo' v vo x o n m s w h hr ho hs hx hy h2
        · exact does_gate lo lo' v vo x o n m s w h ho _ _ rfl rfl (.inr (.inr ⟨by omega, by omega⟩))
    · exact does_gate lo lo' v vo x o n m s w h ho _ _ rfl rfl (.inr (.inl (by simpa using hy)))
  · exact does_gate lo lo' v vo x o n m s w h ho _ _ rfl rfl (.inl (by simpa using hx))

theorem own : ownKnob Try.prog.godebug = none := by kernel_rfl
theorem laidOut : laidOutB Try.prog = true := by kernel_rfl
theorem cells24 : Try.prog.cellsOf 24 = 2 := by kernel_rfl
theorem cells26 : Try.prog.cellsOf 26 = 2 := by kernel_rfl

theorem open_ex {H : Type} {enc : TypeId × Value → H} {P : Program} {w : World} {base : Nat} {spare : Nat → Bool} {held : Bool} {r : Reach} {b0 : Nat} {v : Value} {d : DataW H} {p : List MemPlace} {t ti : TypeId} {f0 f1 : Field} (hs : P.underlying t = some (.struct #[f0, f1]))
    (hone : oneCellFields P #[f0, f1] = true) (hC : P.cellsOf t = 2) (e0 : f0.type = ti) (e1 : f1.type = ti) (hi : P.underlying ti = some (.int .i64)) (hv : Value.okWide P w r b0 t v) (h : DataW.Trod enc P w base spare held t v d p) :
    ∃ a : Ex, v = exV a ∧ a.len ≤ 9223372036854775807 := by
  obtain ⟨v0, v1, y0, y1, n, rfl, _, _, h0, h1⟩ := open_agg2 hs hone hC hv h
  rw [e0] at h0
  rw [e1] at h1
  obtain ⟨z, ez, _, _⟩ := DataW.trod_int hi h0
  obtain ⟨u, eu, _, wu⟩ := DataW.trod_int hi h1
  simp only [List.cons.injEq, and_true] at ez eu
  subst ez eu
  exact ⟨⟨z, u⟩, rfl, (i64_wf wu).2⟩

set_option maxRecDepth 100000 in
theorem does_lifted (os : Os) (started : os.Started) (H : Type) (enc : TypeId × Value → H) :
    ReturnsInHanded {} Try.checked os 3 .any (Rows.extentDoesSpec.pre6 enc Try.prog Try.f3 Rows.extentDoesRow.domain false) (Rows.extentDoesSpec.post enc Try.prog Try.f3 false true false false) := by
  refine returnsInHanded_of_change (C := Try.checked) own started (by kernel_rfl) Try.func3
    (ChangeSpec.witness6 (enc := enc) (C := Try.checked) false ⟨#[], #[.agg #[.int .i64 0, .slice none 0 0], .agg #[.int .i64 0, .slice none 0 0], .int .i64 0, .agg #[.int .i64 0, .int .i64 0], .int .i64 0], []⟩ 8 (by kernel_rfl) (by kernel_rfl) (by kernel_rfl) (by kernel_rfl)) ?_
  intro W base args ds gs before hval0 hW hcnd _
  have hval : ∀ (j : Nat) t v, Try.f3.params[j]? = some t → args[j]? = some v → Value.okWide Try.prog W .any base t v := hval0
  have hW' := hW
  obtain ⟨p, q, hA0, hV, rfl, hfz, hnd⟩ := hW
  have hA : DataW.TrodAll enc Try.prog W 0 (fun _ => true) true Try.f3.params.toList args.toList ds p := hA0
  rw [Try.params3] at hA hval
  obtain ⟨v0, vs0, d0, ds0, p0, q0, hargs, rfl, rfl, h0, r0⟩ := trodAll_cons hA
  obtain ⟨v1, vs1, d1, ds1, p1, q1, rfl, rfl, rfl, h1, r1⟩ := trodAll_cons r0
  obtain ⟨v2, vs2, d2, ds2, p2, q2, rfl, rfl, rfl, h2, r2⟩ := trodAll_cons r1
  obtain ⟨v3, vs3, d3, ds3, p3, q3, rfl, rfl, rfl, h3, r3⟩ := trodAll_cons r2
  obtain ⟨v4, vs4, d4, ds4, p4, q4, rfl, rfl, rfl, h4, r4⟩ := trodAll_cons r3
  obtain ⟨rfl, rfl, rfl⟩ := trodAll_nil r4
  obtain rfl : args = #[v0, v1, v2, v3, v4] := by cases args; simp_all
  obtain ⟨rfl, rfl⟩ := trodVars_none hV
  have k0 := h0
  have lt0 : ∀ x ∈ p0, x.block < W.heap.size := by obtain ⟨m, hm⟩ := k0; exact DataW.trod_lt m _ _ _ hm
  obtain ⟨x, hx, hr⟩ := open_xs Try.underlying24 (by kernel_rfl) cells24 rfl rfl Try.underlying3 Try.underlying22 Try.underlying26 (by kernel_rfl) cells26 rfl rfl (hval 0 24 v0 rfl rfl) h0
  have k1 := h1
  have lt1 : ∀ x ∈ p1, x.block < W.heap.size := by obtain ⟨m, hm⟩ := k1; exact DataW.trod_lt m _ _ _ hm
  obtain ⟨o, ho, _⟩ := open_xs Try.underlying24 (by kernel_rfl) cells24 rfl rfl Try.underlying3 Try.underlying22 Try.underlying26 (by kernel_rfl) cells26 rfl rfl (hval 1 24 v1 rfl rfl) h1
  have k3 := h3
  have lt3 : ∀ x ∈ p3, x.block < W.heap.size := by obtain ⟨m, hm⟩ := k3; exact DataW.trod_lt m _ _ _ hm
  obtain ⟨a2, rfl, rfl, rfl, w2⟩ := open_int Try.underlying3 (hval 2 3 v2 rfl rfl) h2
  obtain ⟨a4, rfl, rfl, rfl, w4⟩ := open_int Try.underlying3 (hval 4 3 v4 rfl rfl) h4
  obtain ⟨b, eb, lb⟩ := open_ex Try.underlying26 (by kernel_rfl) cells26 rfl rfl Try.underlying3 (hval 3 26 v3 rfl rfl) h3
  subst eb
  clear hA0 hval0
  refine (does_law 0 0 v0 v1 x o a2 a4 b W hx hr ho lb).mono fun e W' ⟨he, bel⟩ => ?_
  subst he
  exact ⟨_, rfl, _, _, _, [], _, [], hW', trodAll_mk1 (shut_bool Try.underlying4 _), (trodAll_cons_mk (Below.trod laidOut (by kernel_rfl) (of_decide_eq_true (by kernel_rfl)) k0 bel lt0) (trodAll_cons_mk (Below.trod laidOut (by kernel_rfl) (of_decide_eq_true (by kernel_rfl)) k1 bel lt1) (trodAll_cons_mk (shut_int Try.underlying3 w2) (trodAll_cons_mk (Below.trod laidOut (by kernel_rfl) (of_decide_eq_true (by kernel_rfl)) k3 bel lt3) (trodAll_cons_mk (shut_int Try.underlying3 w4) trodAll_mk0))))), rfl, bel.frame _, fun h => by cases h⟩

theorem does_proved : Rows.ExtentDoesSaid :=
  OpenClaim.holds_of_wide 3 Try.f3 rfl rfl rfl rfl rfl rfl rfl ⟨rfl, rfl, rfl, rfl, rfl⟩ rfl rfl rfl rfl rfl (by kernel_rfl) Try.func3 (by kernel_rfl)
    (of_decide_eq_true (by kernel_rfl)) (by unfold Func.isWrapper; first | (rw [if_pos (by decide +kernel)]; kernel_rfl) | (rw [if_neg (by decide +kernel)]; exact ⟨rfl, rfl⟩))
    (fun os started H enc _ => does_lifted os started H enc)
#print axioms does_proved
end Go.Proofs.Yteokimebfbnlkaa
