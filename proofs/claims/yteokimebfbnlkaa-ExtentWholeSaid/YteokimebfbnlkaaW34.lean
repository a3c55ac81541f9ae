/-
  ExtentWhole: whatever the extents, the number and the order: the call returns true. No condition.
-/
import Derived.Test.YteokimebfbnlkaaW33
import Derived.Test.YteokimebfbnlkaaW15
namespace Go.Proofs.Yteokimebfbnlkaa
open Go.RowKit Go.ChangeShapes Go.WideShapes Go.ChangeAt Go.Deep Go.Joins

theorem u8_wf {z : Int} (h : (Lit.int .u8 z).wf = true) : 0 ≤ z ∧ z ≤ 255 := by
  have e : IntKind.u8.min ≤ z ∧ z ≤ IntKind.u8.max := by simpa [Lit.wf] using h
  have e1 : IntKind.u8.min = 0 := by decide
  have e2 : IntKind.u8.max = 255 := by decide
  omega
section
variable {H : Type} {enc : TypeId × Value → H} {P : Program} {w : World} {base : Nat} {spare : Nat → Bool} {held : Bool}
/-- A parameter that is a slice of bytes reads as an order. -/
theorem open_order {r : Reach} {b0 : Nat} {v : Value} {d : DataW H} {p : List MemPlace} {t e : TypeId} (ht : P.underlying t = some (.slice e)) (he : P.underlying e = some (.int .u8)) (hc : P.cellsOf e = 1)
    (hv : Value.okWide P w r b0 t v) (h : DataW.Trod enc P w base spare held t v d p) : ∃ l : List Int, Os 0 w.heap.size w v l ∧ ∀ z ∈ l, 0 ≤ z ∧ z ≤ 255 := by
  obtain ⟨a1, n1, c1, rfl⟩ := okWide_slice ht hv
  obtain ⟨fuel, hf⟩ := h
  rcases open_ints ht he hc hf with ⟨q, _⟩ | ⟨a, len, cap, zs, q, _, hl, hm, hz, _, hcell, hwz⟩
  · have q' : Value.slice a1 n1 c1 = .slice none 0 0 := by simpa [Value.cells] using q
    rw [q']
    exact ⟨[], ⟨none, 0, rfl, Nat.le_refl _, by omega, fun h0 => absurd h0 (by simp), fun b off k => by cases k⟩, fun z hz => by cases hz⟩
  · have q' : Value.slice a1 n1 c1 = .slice (some a) len cap := by simpa [Value.cells] using q
    have hzl : len ≤ zs.length := by rw [hz]; split <;> omega
    have hll : (zs.take len).length = len := by simp [hzl]
    unfold maxLen at hm
    rw [q']
    refine ⟨zs.take len, ⟨some a, cap, by rw [hll], by omega, by omega, fun h0 => ?_, fun b off k i hi => ?_⟩, fun z hz => u8_wf (hwz z (List.mem_of_mem_take hz))⟩
    · obtain ⟨b, off, spot⟩ := a
      have hc0 := hcell 0 (by omega)
      obtain rfl : spot = none := spot_none hc0
      have hb := World.block_lt_of_cell? w _ hc0
      rw [add_none] at hb
      exact ⟨b, off, rfl, Nat.zero_le _, hb⟩
    · injection k with k
      subst k
      have hi' : i < zs.length := by omega
      have hci := hcell i hi'
      have hg : zs.getD i 0 = zs[i] := by simp [List.getD_eq_getElem?_getD, hi']
      rw [hg, add_none] at hci
      refine ⟨[.int .u8 (zs.take len)[i]], rfl, fun j hj => ?_, rfl⟩
      obtain rfl : j = 0 := by simpa using hj
      simpa using hci
end
theorem own : ownKnob Try.prog.godebug = none := by kernel_rfl
theorem laidOut : laidOutB Try.prog = true := by kernel_rfl
theorem cells24 : Try.prog.cellsOf 24 = 2 := by kernel_rfl
theorem cells26 : Try.prog.cellsOf 26 = 2 := by kernel_rfl
theorem cells5 : Try.prog.cellsOf 5 = 1 := by kernel_rfl

theorem whole_any (lo : Nat) (v vo : Value) (x : Xs) (n : Int) (ord : List Int) (w : World) (h : XsR lo w.heap.size w v x) (hr : Rgs x.free) (hvo : Os 0 w.heap.size w vo ord) (hz : ∀ z ∈ ord, 0 ≤ z ∧ z ≤ 255) :
    Calls Try.prog 8 #[v, .int .i64 n, vo] w fun e w' => e = .returned (.bool true) ∧ Below w.heap.size w w' := by
  by_cases hg : (decide ((x.size ≤ 100 ∨ 8192 < x.size) ∧ x.free.length ≤ 60)) = true ∧ ord.length ≤ 40 ∧ 1 ≤ n
  · obtain ⟨hfw, hL, hn⟩ := hg
    cases ok : okX x with
    | true => exact whole_ok lo v vo x n ord w h hvo hz hn hL hfw ok
    | false => exact whole_bad lo v vo x n ord w h hr hvo hn hL hfw ok
  · exact whole_gate lo v vo x n ord w h hvo hg

set_option maxRecDepth 100000 in
theorem whole_lifted (os : Go.Os) (started : os.Started) (H : Type) (enc : TypeId × Value → H) :
    ReturnsInHanded {} Try.checked os 8 .any (Rows.extentWholeSpec.pre6 enc Try.prog Try.f8 Rows.extentWholeRow.domain false) (Rows.extentWholeSpec.post enc Try.prog Try.f8 false true false false) := by
  refine returnsInHanded_of_change (C := Try.checked) own started (by kernel_rfl) Try.func8
    (ChangeSpec.witness6 (enc := enc) (C := Try.checked) false ⟨#[], #[.agg #[.int .i64 0, .slice none 0 0], .int .i64 0, .slice none 0 0], []⟩ 8 (by kernel_rfl) (by kernel_rfl) (by kernel_rfl) (by kernel_rfl)) ?_
  intro W base args ds gs before hval0 hW hcnd _
  have hval : ∀ (j : Nat) t v, Try.f8.params[j]? = some t → args[j]? = some v → Value.okWide Try.prog W .any base t v := hval0
  have hW' := hW
  obtain ⟨p, q, hA0, hV, rfl, hfz, hnd⟩ := hW
  have hA : DataW.TrodAll enc Try.prog W 0 (fun _ => true) true Try.f8.params.toList args.toList ds p := hA0
  rw [Try.params8] at hA hval
  obtain ⟨v0, vs0, d0, ds0, p0, q0, hargs, rfl, rfl, h0, r0⟩ := trodAll_cons hA
  obtain ⟨v1, vs1, d1, ds1, p1, q1, rfl, rfl, rfl, h1, r1⟩ := trodAll_cons r0
  obtain ⟨v2, vs2, d2, ds2, p2, q2, rfl, rfl, rfl, h2, r2⟩ := trodAll_cons r1
  obtain ⟨rfl, rfl, rfl⟩ := trodAll_nil r2
  obtain rfl : args = #[v0, v1, v2] := by cases args; simp_all
  obtain ⟨rfl, rfl⟩ := trodVars_none hV
  have k0 := h0
  have lt0 : ∀ x ∈ p0, x.block < W.heap.size := by obtain ⟨m, hm⟩ := k0; exact DataW.trod_lt m _ _ _ hm
  obtain ⟨x, hx, hr⟩ := open_xs Try.underlying24 (by kernel_rfl) cells24 rfl rfl Try.underlying3 Try.underlying22 Try.underlying26 (by kernel_rfl) cells26 rfl rfl (hval 0 24 v0 rfl rfl) h0
  have k2 := h2
  have lt2 : ∀ x ∈ p2, x.block < W.heap.size := by obtain ⟨m, hm⟩ := k2; exact DataW.trod_lt m _ _ _ hm
  obtain ⟨a1, rfl, rfl, rfl, w1⟩ := open_int Try.underlying3 (hval 1 3 v1 rfl rfl) h1
  obtain ⟨ord, ho, hz⟩ := open_order Try.underlying47 Try.underlying5 cells5 (hval 2 47 v2 rfl rfl) h2
  clear hA0 hval0
  refine (whole_any 0 v0 v2 x a1 ord W hx hr ho hz).mono fun e W' ⟨he, bel⟩ => ?_
  subst he
  exact ⟨_, rfl, _, _, _, [], _, [], hW', trodAll_mk1 (shut_bool Try.underlying4 _), (trodAll_cons_mk (Below.trod laidOut (by kernel_rfl) (of_decide_eq_true (by kernel_rfl)) k0 bel lt0) (trodAll_cons_mk (shut_int Try.underlying3 w1) (trodAll_cons_mk (Below.trod laidOut (by kernel_rfl) (of_decide_eq_true (by kernel_rfl)) k2 bel lt2) trodAll_mk0))), rfl, bel.frame _, fun h => by cases h⟩

theorem whole_proved : Rows.ExtentWholeSaid :=
  OpenClaim.holds_of_wide 8 Try.f8 rfl rfl rfl rfl rfl rfl rfl ⟨rfl, rfl, rfl, rfl, rfl⟩ rfl rfl rfl rfl rfl (by kernel_rfl) Try.func8 (by kernel_rfl)
    (of_decide_eq_true (by kernel_rfl)) (by unfold Func.isWrapper; first | (rw [if_pos (by decide +kernel)]; kernel_rfl) | (rw [if_neg (by decide +kernel)]; exact ⟨rfl, rfl⟩))
    (fun os started H enc _ => whole_lifted os started H enc)
#print axioms whole_proved
end Go.Proofs.Yteokimebfbnlkaa
