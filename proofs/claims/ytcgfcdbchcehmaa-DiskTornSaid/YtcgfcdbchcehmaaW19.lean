/-
  DiskTorn: whatever the disk, the masks, the sector and the group: the call returns true, and the arguments read as they did. No condition.
-/
import Derived.Test.YtcgfcdbchcehmaaW18
namespace Go.Proofs.Ytcgfcdbchcehmaa
open Go.RowKit Go.ChangeShapes Go.WideShapes Go.ChangeAt Go.Deep Go.Joins

theorem own : ownKnob Try.prog.godebug = none := by kernel_rfl
theorem laidOut : laidOutB Try.prog = true := by kernel_rfl
theorem cells5 : Try.prog.cellsOf 5 = 1 := by kernel_rfl
theorem cells25 : Try.prog.cellsOf 25 = 3 := by kernel_rfl
theorem cells41 : Try.prog.cellsOf 41 = 2 := by kernel_rfl

/-- The four walks together. -/
theorem torn_all (A A' A3 : Option Addr) (c c' c3 : Nat) (d : Dk) (ms : List UInt8) (at_ k : Int) (w : World)
    (h : Dsk 0 w.heap.size w (.agg #[.slice A d.dry.length c, .slice A' d.wet.length c', .int .i64 d.left]) d) (hm : Bs 0 w.heap.size w (.slice A3 ms.length c3) ms) :
    Calls Try.prog 6 #[.agg #[.slice A d.dry.length c, .slice A' d.wet.length c', .int .i64 d.left], .slice A3 ms.length c3, .int .i64 at_, .int .i64 k] w fun e w' => e = .returned (.bool true) ∧ Below w.heap.size w w' := by
  have hml : ms.length ≤ 9223372036854775807 := by
    obtain ⟨_, _, _, h1, h2, _⟩ := hm
    omega
  cases hf : fewB d with
  | false => exact torn_gate A A' A3 c c' c3 d ms at_ k w h hml (.inl hf)
  | true =>
    by_cases hl : ms.length ≤ 300
    · by_cases k0 : 0 ≤ k
      · by_cases k7 : k ≤ 7
        · cases hok : okD d with
          | false => exact torn_bad A A' A3 c c' c3 d ms at_ k w h hm hf hl k0 k7 hok
          | true =>
            cases hh : hasB d.dry.length at_ with
            | false => exact torn_nosec A A' A3 c c' c3 d ms at_ k w h hm hf hl k0 k7 hok hh
            | true => exact torn_sec A A' A3 c c' c3 d ms at_ k w h hm hf hl k0 k7 hok hh
        · exact torn_gate A A' A3 c c' c3 d ms at_ k w h hml (.inr ⟨hf, .inr ⟨by omega, .inr ⟨k0, by omega⟩⟩⟩)
      · exact torn_gate A A' A3 c c' c3 d ms at_ k w h hml (.inr ⟨hf, .inr ⟨by omega, .inl (by omega)⟩⟩)
    · exact torn_gate A A' A3 c c' c3 d ms at_ k w h hml (.inr ⟨hf, .inl (by omega)⟩)

set_option maxRecDepth 100000 in
theorem torn_lifted (os : Os) (started : os.Started) (H : Type) (enc : TypeId × Value → H) :
    ReturnsInHanded {} Try.checked os 6 .any (Rows.diskTornSpec.pre6 enc Try.prog Try.f6 Rows.diskTornRow.domain false) (Rows.diskTornSpec.post enc Try.prog Try.f6 false true false false) := by
  refine returnsInHanded_of_change (C := Try.checked) own started (by kernel_rfl) Try.func6
    (ChangeSpec.witness6 (enc := enc) (C := Try.checked) false ⟨#[], #[.agg #[.slice none 0 0, .slice none 0 0, .int .i64 0], .slice none 0 0, .int .i64 0, .int .i64 0], []⟩ 8 (by kernel_rfl) (by kernel_rfl) (by kernel_rfl) (by kernel_rfl)) ?_
  intro W base args ds gs before hval0 hW hcnd _
  have hval : ∀ (j : Nat) t v, Try.f6.params[j]? = some t → args[j]? = some v → Value.okWide Try.prog W .any base t v := hval0
  have hW' := hW
  obtain ⟨p, q, hA0, hV, rfl, hfz, hnd⟩ := hW
  have hA : DataW.TrodAll enc Try.prog W 0 (fun _ => true) true Try.f6.params.toList args.toList ds p := hA0
  rw [Try.params6] at hA hval
  obtain ⟨v0, vs0, d0, ds0, p0, q0, hargs, rfl, rfl, h0, r0⟩ := trodAll_cons hA
  obtain ⟨v1, vs1, d1, ds1, p1, q1, rfl, rfl, rfl, h1, r1⟩ := trodAll_cons r0
  obtain ⟨v2, vs2, d2, ds2, p2, q2, rfl, rfl, rfl, h2, r2⟩ := trodAll_cons r1
  obtain ⟨v3, vs3, d3, ds3, p3, q3, rfl, rfl, rfl, h3, r3⟩ := trodAll_cons r2
  obtain ⟨rfl, rfl, rfl⟩ := trodAll_nil r3
  obtain rfl : args = #[v0, v1, v2, v3] := by cases args; simp_all
  obtain ⟨rfl, rfl⟩ := trodVars_none hV
  have k0 := h0
  have k1 := h1
  have lt0 : ∀ x ∈ p0, x.block < W.heap.size := by obtain ⟨m, hm⟩ := k0; exact DataW.trod_lt m _ _ _ hm
  have lt1 : ∀ x ∈ p1, x.block < W.heap.size := by obtain ⟨m, hm⟩ := k1; exact DataW.trod_lt m _ _ _ hm
  obtain ⟨A, A', c, c', d, rfl, hd⟩ := open_dsk Try.underlying25 (by kernel_rfl) cells25 rfl rfl rfl Try.underlying22 Try.underlying5 cells5 Try.underlying3 Try.underlying23 Try.underlying41 (by kernel_rfl) cells41 rfl rfl (hval 0 25 v0 rfl rfl) h0
  obtain ⟨a1, n1, c1, rfl⟩ := okWide_slice Try.underlying22 (hval 1 22 v1 rfl rfl)
  obtain ⟨A3, c3, ms, e1, hms⟩ : ∃ A c l, Value.slice a1 n1 c1 = .slice A l.length c ∧ Bs 0 W.heap.size W (.slice A l.length c) l := by
    obtain ⟨fuel, hf⟩ := h1
    obtain ⟨A, c, l, hcs, hb⟩ := open_bs Try.underlying22 Try.underlying5 cells5 hf
    exact ⟨A, c, l, by simpa [Value.cells] using hcs, hb⟩
  obtain ⟨a2, rfl, rfl, rfl, w2⟩ := open_int Try.underlying3 (hval 2 3 v2 rfl rfl) h2
  obtain ⟨a3, rfl, rfl, rfl, w3⟩ := open_int Try.underlying3 (hval 3 3 v3 rfl rfl) h3
  clear hA0 hval0
  rw [e1] at hW' k1 ⊢
  refine (torn_all A A' A3 c c' c3 d ms a2 a3 W hd hms).mono fun e W' ⟨he, bel⟩ => ?_
  subst he
  exact ⟨_, rfl, _, _, _, [], _, [], hW', trodAll_mk1 (shut_bool Try.underlying4 _), (trodAll_cons_mk (Below.trod laidOut (by kernel_rfl) (of_decide_eq_true (by kernel_rfl)) k0 bel lt0) (trodAll_cons_mk (Below.trod laidOut (by kernel_rfl) (of_decide_eq_true (by kernel_rfl)) k1 bel lt1) (trodAll_cons_mk (shut_int Try.underlying3 w2) (trodAll_cons_mk (shut_int Try.underlying3 w3) trodAll_mk0)))), rfl, bel.frame _, fun h => by cases h⟩

theorem torn_proved : Rows.DiskTornSaid :=
  OpenClaim.holds_of_wide 6 Try.f6 rfl rfl rfl rfl rfl rfl rfl ⟨rfl, rfl, rfl, rfl, rfl⟩ rfl rfl rfl rfl rfl (by kernel_rfl) Try.func6 (by kernel_rfl)
    (of_decide_eq_true (by kernel_rfl)) (by unfold Func.isWrapper; first | (rw [if_pos (by decide +kernel)]; kernel_rfl) | (rw [if_neg (by decide +kernel)]; exact ⟨rfl, rfl⟩))
    (fun os started H enc _ => torn_lifted os started H enc)
#print axioms torn_proved
end Go.Proofs.Ytcgfcdbchcehmaa
