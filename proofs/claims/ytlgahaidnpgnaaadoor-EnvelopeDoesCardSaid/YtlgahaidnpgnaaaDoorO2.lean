import Derived.Test.YtlgahaidnpgnaaaDoorO1
namespace Go.Proofs.YtlgahaidnpgnaaaDoor
open Go.RowKit Go.ChangeShapes Go.WideShapes Go.ChangeAt Go.Deep Go.Joins

theorem u64v_of {z : Int} (h : (Lit.int .u64 z).wf = true) : Value.int .u64 z = u64v (BitVec.ofInt 64 z) := by
  have hz : 0 ≤ z ∧ z < 18446744073709551616 := by
    have e : IntKind.u64.min ≤ z ∧ z ≤ IntKind.u64.max := by simpa [Lit.wf] using h
    have e1 : IntKind.u64.min = 0 := by decide
    have e2 : IntKind.u64.max = 18446744073709551615 := by decide
    omega
  obtain ⟨n, rfl⟩ := Int.eq_ofNat_of_zero_le hz.1
  rw [BitVec.ofInt_natCast, n64_lit n (by omega)]
section
variable {H : Type} {enc : TypeId × Value → H} {w : World} {base : Nat} {spare : Nat → Bool} {held : Bool}
theorem open_st {fuel : Nat} {cs : List Value} {x : DataW H × List MemPlace} (h : DataW.trod enc Tryd.prog w base spare held fuel 24 cs = some x) : ∃ s : St, cs = [u32v s.a, u32v s.b, u32v s.c, u32v s.d] := by
  obtain ⟨xs, m, rfl, hx, hlen, hn, hel⟩ := DataW.trod_array Tryd.underlying24 h
  rw [cells22] at hel
  rw [cells24] at hlen
  match cs, hlen with
  | [a, b, c, d], _ =>
    have key : ∀ i, i < 4 → ∃ y : Reg, ([a, b, c, d] : List Value)[i]? = some (u32v y) := by
      intro i hi
      have hxi : i < xs.length := by omega
      have h1 := hel i hi
      rw [Nat.mul_one, List.getElem?_eq_getElem hxi] at h1
      obtain ⟨k, e1, e2, hw⟩ := DataW.trod_int Tryd.underlying22 h1
      refine ⟨BitVec.ofInt 32 k, ?_⟩
      have h4 : ((([a, b, c, d] : List Value).drop i).take 1)[0]? = some (Value.int .u32 k) := by rw [e1]; rfl
      rw [List.getElem?_take, if_pos (by omega), List.getElem?_drop, Nat.add_zero] at h4
      rw [h4, u32v_of hw]
    obtain ⟨y0, k0⟩ := key 0 (by omega)
    obtain ⟨y1, k1⟩ := key 1 (by omega)
    obtain ⟨y2, k2⟩ := key 2 (by omega)
    obtain ⟨y3, k3⟩ := key 3 (by omega)
    refine ⟨⟨y0, y1, y2, y3⟩, ?_⟩
    simp at k0 k1 k2 k3
    rw [k0, k1, k2, k3]
theorem open_u64 {fuel : Nat} {cs : List Value} {x : DataW H × List MemPlace} (h : DataW.trod enc Tryd.prog w base spare held fuel 25 cs = some x) : ∃ n : Nx, cs = [u64v n] := by
  obtain ⟨k, e1, e2, hw⟩ := DataW.trod_int Tryd.underlying25 h
  exact ⟨BitVec.ofInt 64 k, by rw [e1, u64v_of hw]⟩
theorem cells27 : Tryd.prog.cellsOf 27 = 5 := by kernel_rfl
theorem cells30 : Tryd.prog.cellsOf 30 = 6 := by kernel_rfl
theorem cells25 : Tryd.prog.cellsOf 25 = 1 := by kernel_rfl
theorem cells28 : Tryd.prog.cellsOf 28 = 1 := by kernel_rfl
/-- A parameter that is a ring. -/
theorem open_ring {r : Reach} {b0 : Nat} {v : Value} {d : DataW H} {p : List MemPlace} (hv : Value.okWide Tryd.prog w r b0 27 v) (h : DataW.Trod enc Tryd.prog w base spare held 27 v d p) : ∃ (s : St) (n : Nx), v = rgV s n := by
  obtain ⟨cs, rfl, hsz⟩ := okWide_struct Tryd.underlying27 hv
  rw [cells27] at hsz
  obtain ⟨fuel, hf⟩ := h
  obtain ⟨y0, y1, n, _, hl, h0, h1⟩ := trod_struct2 Tryd.underlying27 hf
  have hcs : (Value.agg cs).cells = cs := rfl
  rw [hcs] at h0 h1
  simp only [cells24, cells25] at h0 h1
  obtain ⟨s, es⟩ := open_st h0
  obtain ⟨k, ek⟩ := open_u64 h1
  refine ⟨s, k, ?_⟩
  have hll : cs.toList.length = 5 := by simpa using hsz
  have : cs.toList = [u32v s.a, u32v s.b, u32v s.c, u32v s.d, u64v k] := by
    rw [← List.take_append_drop 4 cs.toList]
    rw [List.drop_zero] at es
    rw [List.take_of_length_le (by simp; omega)] at ek
    rw [es, ek]; rfl
  show Value.agg cs = .agg _
  rw [← Array.toArray_toList (xs := cs), this]
theorem trod_struct3 {t : TypeId} {f0 f1 f2 : Field} {fuel : Nat} {cs : List Value} {x : DataW H × List MemPlace} (ht : Tryd.prog.underlying t = some (.struct #[f0, f1, f2])) (h : DataW.trod enc Tryd.prog w base spare held fuel t cs = some x) :
    ∃ y0 y1 y2 n, x = (.agg [y0.1, y1.1, y2.1], y0.2 ++ y1.2 ++ y2.2) ∧ cs.length = Tryd.prog.cellsOf t ∧ DataW.trod enc Tryd.prog w base spare held n f0.type ((cs.drop f0.offset).take (Tryd.prog.cellsOf f0.type)) = some y0 ∧
      DataW.trod enc Tryd.prog w base spare held n f1.type ((cs.drop f1.offset).take (Tryd.prog.cellsOf f1.type)) = some y1 ∧ DataW.trod enc Tryd.prog w base spare held n f2.type ((cs.drop f2.offset).take (Tryd.prog.cellsOf f2.type)) = some y2 := by
  obtain ⟨xs, n, _, rfl, hl, hlen, hf⟩ := DataW.trod_struct ht h
  match xs, hlen with
  | [y0, y1, y2], _ => exact ⟨y0, y1, y2, n, by simp, hl, by simpa using hf 0 f0 rfl, by simpa using hf 1 f1 rfl, by simpa using hf 2 f2 rfl⟩
/-- A parameter that is a box. -/
theorem open_box {r : Reach} {b0 : Nat} {v : Value} {d : DataW H} {p : List MemPlace} (hv : Value.okWide Tryd.prog w r b0 30 v) (h : DataW.Trod enc Tryd.prog w base spare held 30 v d p) : ∃ (x : Bx) (u : Value), v = bxV x.n u x.tag ∧ Bs 0 w.heap.size w u x.text := by
  obtain ⟨cs, rfl, hsz⟩ := okWide_struct Tryd.underlying30 hv
  rw [cells30] at hsz
  obtain ⟨fuel, hf⟩ := h
  obtain ⟨y0, y1, y2, n, _, hl, h0, h1, h2⟩ := trod_struct3 Tryd.underlying30 hf
  have hcs : (Value.agg cs).cells = cs := rfl
  rw [hcs] at h0 h1 h2
  simp only [cells24, cells25, cells28] at h0 h1 h2
  obtain ⟨k, ek⟩ := open_u64 h0
  obtain ⟨A, c, l, el, hb⟩ := open_bs Tryd.underlying28 Tryd.underlying5 cells5 h1
  obtain ⟨s, es⟩ := open_st h2
  refine ⟨⟨k, l, s⟩, .slice A l.length c, ?_, hb⟩
  have hll : cs.toList.length = 6 := by simpa using hsz
  have : cs.toList = [u64v k, .slice A l.length c, u32v s.a, u32v s.b, u32v s.c, u32v s.d] := by
    generalize cs.toList = L at *
    match L, hll with
    | [x0, x1, x2, x3, x4, x5], _ =>
      simp at ek el es
      obtain ⟨e2, e3, e4, e5⟩ := es
      rw [ek, el, e2, e3, e4, e5]
  show Value.agg cs = .agg _
  rw [← Array.toArray_toList (xs := cs), this]
end
end Go.Proofs.YtlgahaidnpgnaaaDoor
