/-
  ExtentScript: whatever the size and the numbers: the call returns true, and the numbers read as they did. No condition.
-/
import Derived.Test.YteokimebfbnlkaaW42
import Derived.Test.YteokimebfbnlkaaW15
namespace Go.Proofs.Yteokimebfbnlkaa
open Go.RowKit Go.ChangeShapes Go.WideShapes Go.ChangeAt Go.Deep Go.Joins

theorem i16_wf {z : Int} (h : (Lit.int .i16 z).wf = true) : -32768 ≤ z ∧ z ≤ 32767 := by
  have e : IntKind.i16.min ≤ z ∧ z ≤ IntKind.i16.max := by simpa [Lit.wf] using h
  have e1 : IntKind.i16.min = -32768 := by decide
  have e2 : IntKind.i16.max = 32767 := by decide
  omega
section
variable {H : Type} {enc : TypeId × Value → H} {P : Program} {w : World} {base : Nat} {spare : Nat → Bool} {held : Bool}
/-- A parameter that is a slice of numbers of 16 bits. -/
theorem open_halves {r : Reach} {b0 : Nat} {v : Value} {d : DataW H} {p : List MemPlace} {t e : TypeId} (ht : P.underlying t = some (.slice e)) (he : P.underlying e = some (.int .i16)) (hc : P.cellsOf e = 1)
    (hv : Value.okWide P w r b0 t v) (h : DataW.Trod enc P w base spare held t v d p) : ∃ l : List Int, Hs 0 w.heap.size w v l ∧ ∀ z ∈ l, -32768 ≤ z ∧ z ≤ 32767 := by
  obtain ⟨a1, n1, c1, rfl⟩ := okWide_slice ht hv
  obtain ⟨fuel, hf⟩ := h
  rcases open_ints ht he hc hf with ⟨q, _⟩ | ⟨a, len, cap, zs, q, _, hl, hm, hz, _, hcell, hwz⟩
  · have q' : Value.slice a1 n1 c1 = .slice none 0 0 := by simpa [Value.cells] using q
    rw [q']
    exact ⟨[], ⟨none, 0, rfl, Nat.le_refl _, by omega, fun h0 => absurd h0 (by simp), fun b off k => by cases k⟩, fun z hz => by cases hz⟩
  · have q' : Value.slice a1 n1 c1 = .slice (some a) len cap := by simpa [Value.cells] using q
    have hzl : len ≤ zs.length := by rw [hz]; split <;> omega
    have hll : (zs.take len).length = len := by simp [hzl]
    unfold maxLen at hm
    rw [q']
    refine ⟨zs.take len, ⟨some a, cap, by rw [hll], by omega, by omega, fun h0 => ?_, fun b off k i hi => ?_⟩, fun z hz => i16_wf (hwz z (List.mem_of_mem_take hz))⟩
    · obtain ⟨b, off, spot⟩ := a
      have hc0 := hcell 0 (by omega)
      obtain rfl : spot = none := spot_none hc0
      have hb := World.block_lt_of_cell? w _ hc0
      rw [add_none] at hb
      exact ⟨b, off, rfl, Nat.zero_le _, hb⟩
    · injection k with k
      subst k
      have hi' : i < zs.length := by omega
      have hci := hcell i hi'
      have hg : zs.getD i 0 = zs[i] := by simp [List.getD_eq_getElem?_getD, hi']
      rw [hg, add_none] at hci
      refine ⟨[.int .i16 (zs.take len)[i]], rfl, fun j hj => ?_, rfl⟩
      obtain rfl : j = 0 := by simpa using hj
      simpa using hci
end
theorem own : ownKnob Try.prog.godebug = none := by kernel_rfl
theorem laidOut : laidOutB Try.prog = true := by kernel_rfl
theorem cells44 : Try.prog.cellsOf 44 = 1 := by kernel_rfl

set_option maxRecDepth 100000 in
theorem script_lifted (os : Go.Os) (started : os.Started) (H : Type) (enc : TypeId × Value → H) :
    ReturnsInHanded {} Try.checked os 7 .any (Rows.extentScriptSpec.pre6 enc Try.prog Try.f7 Rows.extentScriptRow.domain false) (Rows.extentScriptSpec.post enc Try.prog Try.f7 false true false false) := by
  refine returnsInHanded_of_change (C := Try.checked) own started (by kernel_rfl) Try.func7
    (ChangeSpec.witness6 (enc := enc) (C := Try.checked) false ⟨#[], #[.int .i64 0, .slice none 0 0], []⟩ 8 (by kernel_rfl) (by kernel_rfl) (by kernel_rfl) (by kernel_rfl)) ?_
  intro W base args ds gs before hval0 hW hcnd _
  have hval : ∀ (j : Nat) t v, Try.f7.params[j]? = some t → args[j]? = some v → Value.okWide Try.prog W .any base t v := hval0
  have hW' := hW
  obtain ⟨p, q, hA0, hV, rfl, hfz, hnd⟩ := hW
  have hA : DataW.TrodAll enc Try.prog W 0 (fun _ => true) true Try.f7.params.toList args.toList ds p := hA0
  rw [Try.params7] at hA hval
  obtain ⟨v0, vs0, d0, ds0, p0, q0, hargs, rfl, rfl, h0, r0⟩ := trodAll_cons hA
  obtain ⟨v1, vs1, d1, ds1, p1, q1, rfl, rfl, rfl, h1, r1⟩ := trodAll_cons r0
  obtain ⟨rfl, rfl, rfl⟩ := trodAll_nil r1
  obtain rfl : args = #[v0, v1] := by cases args; simp_all
  obtain ⟨rfl, rfl⟩ := trodVars_none hV
  have k1 := h1
  have lt1 : ∀ x ∈ p1, x.block < W.heap.size := by obtain ⟨m, hm⟩ := k1; exact DataW.trod_lt m _ _ _ hm
  obtain ⟨a0, rfl, rfl, rfl, w0⟩ := open_int Try.underlying3 (hval 0 3 v0 rfl rfl) h0
  obtain ⟨l, hl, hz⟩ := open_halves Try.underlying43 Try.underlying44 cells44 (hval 1 43 v1 rfl rfl) h1
  clear hA0 hval0
  refine (script_any a0 v1 l W hl hz).mono fun e W' ⟨he, bel⟩ => ?_
  subst he
  exact ⟨_, rfl, _, _, _, [], _, [], hW', trodAll_mk1 (shut_bool Try.underlying4 _), (trodAll_cons_mk (shut_int Try.underlying3 w0) (trodAll_cons_mk (Below.trod laidOut (by kernel_rfl) (of_decide_eq_true (by kernel_rfl)) k1 bel lt1) trodAll_mk0)), rfl, bel.frame _, fun h => by cases h⟩

theorem script_proved : Rows.ExtentScriptSaid :=
  OpenClaim.holds_of_wide 7 Try.f7 rfl rfl rfl rfl rfl rfl rfl ⟨rfl, rfl, rfl, rfl, rfl⟩ rfl rfl rfl rfl rfl (by kernel_rfl) Try.func7 (by kernel_rfl)
    (of_decide_eq_true (by kernel_rfl)) (by unfold Func.isWrapper; first | (rw [if_pos (by decide +kernel)]; kernel_rfl) | (rw [if_neg (by decide +kernel)]; exact ⟨rfl, rfl⟩))
    (fun os started H enc _ => script_lifted os started H enc)
#print axioms script_proved
end Go.Proofs.Yteokimebfbnlkaa
