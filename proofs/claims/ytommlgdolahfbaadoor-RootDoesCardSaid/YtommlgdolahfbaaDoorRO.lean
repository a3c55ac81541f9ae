import Derived.Test.YtommlgdolahfbaaDoorRC
import Derived.Test.YtommlgdolahfbaaDoorO18
import Derived.Test.YtommlgdolahfbaaDoorCards
import Derived.Test.YtommlgdolahfbaaDoorTie
import Derived.LaidMore
import Derived.Stop.Joined
import Derived.SevenTiedAt
namespace Go.Proofs.YtommlgdolahfbaaDoor
set_option maxRecDepth 100000
open Go.RowKit Go.ChangeShapes Go.WideShapes Go.ChangeAt Go.Deep Go.Joins

theorem gTab : Tryd.prog.globalNamed "tansy/root.wide" = some 0 := by kernel_rfl
theorem tTab : (Tryd.prog.globals[0]?).map (·.type) = some 61 := by kernel_rfl
theorem cells3 : Tryd.prog.cellsOf 3 = 1 := by kernel_rfl
theorem cellsR : Tryd.prog.cellsOf 27 = 6 := by kernel_rfl
theorem cellsX : Tryd.prog.cellsOf 24 = 2 := by kernel_rfl
theorem cellsU64 : Tryd.prog.cellsOf 22 = 1 := by kernel_rfl
theorem cellsU32 : Tryd.prog.cellsOf 25 = 1 := by kernel_rfl
/-- What the row lists. -/
def laidL : List (String × DataW Unit) := [("tansy/root.wide", Rows.laid_tansy_root_wide)]
theorem door_met (os : Os) (args : Array Value) : laidMetH Tryd.prog laidL ((World.doorLaid Tryd.prog 88 os).forCall (fun _ _ => 0) ⟨#[], args, []⟩).memory :=
  laidMetH_of_parts3 (fuel := 8) (laidMet_of_run' 8 (by kernel_rfl) (by kernel_rfl)) (by kernel_rfl) (by kernel_rfl)
theorem tab_of_laid {W : World} (h : laidMetH Tryd.prog laidL W) : Tab W := by
  rw [MakeChecks.laidMetH_plain _ _ _ (by kernel_rfl)] at h
  obtain ⟨ps, ⟨g0, t0, cs0, f0, p0, q0, hg0, ht0, hv0, hd0, _, _⟩, _, _⟩ := h
  obtain rfl := Option.some.inj (gTab.symm.trans hg0)
  obtain rfl := Option.some.inj (tTab.symm.trans ht0)
  obtain ⟨xs, m1, rfl, hx1, hlen, hn3, hel⟩ := DataW.trod_array Tryd.underlying61 hd0
  simp only [Prod.mk.injEq] at hx1
  have c3 := cells3
  let L : List Int := [6, 2, 2, 3, 4, 6, 1]
  have hlist : (Rows.laid_tansy_root_wide : DataW Unit) = .agg (L.map fun n : Int => DataW.lit (Lit.int .i64 n)) := by rfl
  have hx := hlist.symm.trans hx1.1
  injection hx with hx
  have key : ∀ i (hi : i < 7), W.cell? ⟨0, i, none⟩ = some (.int .i64 (L[i]'hi)) := by
    intro i hi
    have hxi : i < xs.length := by omega
    have h1 := hel i hi
    rw [c3, Nat.mul_one, List.getElem?_eq_getElem hxi] at h1
    obtain ⟨k, e1, e2, _⟩ := DataW.trod_int Tryd.underlying3 h1
    have htl : i < L.length := hi
    have h2 : (xs.map (·.1))[i]? = some (DataW.lit (Lit.int .i64 (L[i]'hi))) := by
      rw [← hx, List.getElem?_map, List.getElem?_eq_getElem htl]
      rfl
    rw [List.getElem?_map, List.getElem?_eq_getElem hxi, e2] at h2
    have hk : k = L[i]'hi := by simpa using h2
    have hv := World.var?_cell hg0 hv0 i
    rw [hv]
    have h3 : cs0.toList[i]? = some (.int .i64 k) := by
      have h4 : ((cs0.toList.drop i).take 1)[0]? = some (Value.int .i64 k) := by rw [e1]; rfl
      rw [List.getElem?_take, if_pos (by omega), List.getElem?_drop, Nat.add_zero] at h4
      exact h4
    rw [Array.getElem?_toList] at h3
    rw [h3, hk]
  have k0 := key 0 (by omega)
  refine ⟨World.block_lt_of_cell? W _ k0, fun k hk => ?_⟩
  match k, hk with
  | 0, _ => exact key 0 (by omega)
  | 1, _ => exact key 1 (by omega)
  | 2, _ => exact key 2 (by omega)
  | 3, _ => exact key 3 (by omega)
  | 4, _ => exact key 4 (by omega)
  | 5, _ => exact key 5 (by omega)
  | 6, _ => exact key 6 (by omega)

section
variable {H : Type} {enc : TypeId × Value → H} {w : World} {base : Nat} {spare : Nat → Bool} {held : Bool}
theorem wf_u64 {z : Int} (h : (Lit.int .u64 z).wf = true) : 0 ≤ z ∧ z < 18446744073709551616 := by
  have e : IntKind.u64.min ≤ z ∧ z ≤ IntKind.u64.max := by simpa [Lit.wf] using h
  have e1 : IntKind.u64.min = 0 := by decide
  have e2 : IntKind.u64.max = 18446744073709551615 := by decide
  omega
theorem wf_u32 {z : Int} (h : (Lit.int .u32 z).wf = true) : 0 ≤ z ∧ z < 4294967296 := by
  have e : IntKind.u32.min ≤ z ∧ z ≤ IntKind.u32.max := by simpa [Lit.wf] using h
  have e1 : IntKind.u32.min = 0 := by decide
  have e2 : IntKind.u32.max = 4294967295 := by decide
  omega
theorem wf_i64 {z : Int} (h : (Lit.int .i64 z).wf = true) : z ≤ 9223372036854775807 := by
  have e : IntKind.i64.min ≤ z ∧ z ≤ IntKind.i64.max := by simpa [Lit.wf] using h
  have e2 : IntKind.i64.max = 9223372036854775807 := by decide
  omega
theorem trod_struct5 {P : Program} {t : TypeId} {f0 f1 f2 f3 f4 : Field} {fuel : Nat} {cs : List Value} {x : DataW H × List MemPlace} (ht : P.underlying t = some (.struct #[f0, f1, f2, f3, f4])) (h : DataW.trod enc P w base spare held fuel t cs = some x) :
    ∃ y0 y1 y2 y3 y4 n, DataW.trod enc P w base spare held n f0.type ((cs.drop f0.offset).take (P.cellsOf f0.type)) = some y0 ∧ DataW.trod enc P w base spare held n f1.type ((cs.drop f1.offset).take (P.cellsOf f1.type)) = some y1 ∧ DataW.trod enc P w base spare held n f2.type ((cs.drop f2.offset).take (P.cellsOf f2.type)) = some y2 ∧ DataW.trod enc P w base spare held n f3.type ((cs.drop f3.offset).take (P.cellsOf f3.type)) = some y3 ∧ DataW.trod enc P w base spare held n f4.type ((cs.drop f4.offset).take (P.cellsOf f4.type)) = some y4 := by
  obtain ⟨xs, n, _, rfl, hl, hlen, hf⟩ := DataW.trod_struct ht h
  match xs, hlen with
  | [y0, y1, y2, y3, y4], _ => exact ⟨y0, y1, y2, y3, y4, n, by simpa using hf 0 f0 rfl, by simpa using hf 1 f1 rfl, by simpa using hf 2 f2 rfl, by simpa using hf 3 f3 rfl, by simpa using hf 4 f4 rfl⟩
/-- A parameter that is a root. -/
theorem open_rt {r : Reach} {b0 : Nat} {v : Value} {d : DataW H} {p : List MemPlace} (hv : Value.okWide Tryd.prog w r b0 27 v) (h : DataW.Trod enc Tryd.prog w base spare held 27 v d p) : ∃ x : Rt, v = (.agg #[.int .u64 (x.gen : Nat), .int .i64 x.at_, .int .i64 x.len, .int .i64 x.long, .int .u32 (x.sum : Nat), .int .u64 (x.next : Nat)]) ∧ OkT x := by
  obtain ⟨cs, rfl, hsz⟩ := okWide_struct Tryd.underlying27 hv
  rw [cellsR] at hsz
  obtain ⟨fuel, hf⟩ := h
  obtain ⟨q0, q1, q2, q3, q4, n, h0, h1, h2, h3, h4⟩ := trod_struct5 Tryd.underlying27 hf
  have hcs : (Value.agg cs).cells = cs := rfl
  rw [hcs] at h0 h1 h2 h3 h4
  obtain ⟨l⟩ := cs
  match l, hsz with
  | [a0, a1, a2, a3, a4, a5], _ =>
    simp only [cellsU64, cellsX, cells3, cellsU32, List.drop_zero, List.drop_succ_cons, List.take_succ_cons, List.take_zero] at h0 h1 h2 h3 h4
    obtain ⟨z0, e0, _, w0⟩ := DataW.trod_int Tryd.underlying22 h0
    obtain ⟨y0, y1, m, _, _, g0, g1⟩ := trod_struct2 Tryd.underlying24 h1
    simp only [cells3, List.drop_zero, List.drop_succ_cons, List.take_succ_cons, List.take_zero] at g0 g1
    obtain ⟨z1, e1, _, _⟩ := DataW.trod_int Tryd.underlying3 g0
    obtain ⟨z2, e2, _, w2⟩ := DataW.trod_int Tryd.underlying3 g1
    obtain ⟨z3, e3, _, _⟩ := DataW.trod_int Tryd.underlying3 h2
    obtain ⟨z4, e4, _, w4⟩ := DataW.trod_int Tryd.underlying25 h3
    obtain ⟨z5, e5, _, w5⟩ := DataW.trod_int Tryd.underlying22 h4
    simp only [List.cons.injEq, and_true] at e0 e1 e2 e3 e4 e5
    subst e0 e1 e2 e3 e4 e5
    have b0 := wf_u64 w0; have b2 := wf_i64 w2; have b4 := wf_u32 w4; have b5 := wf_u64 w5
    obtain ⟨z0, rfl⟩ := Int.eq_ofNat_of_zero_le b0.1
    obtain ⟨z4, rfl⟩ := Int.eq_ofNat_of_zero_le b4.1
    obtain ⟨z5, rfl⟩ := Int.eq_ofNat_of_zero_le b5.1
    exact ⟨⟨z0, z1, z2, z3, z4, z5⟩, rfl, by show z0 < _; omega, by show z4 < _; omega, by show z5 < _; omega, b2⟩
end
end Go.Proofs.YtommlgdolahfbaaDoor
