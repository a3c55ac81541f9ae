import Derived.Test.YtommlgdolahfbaaDoorBase
import Derived.Test.YtommlgdolahfbaaDoorProg
import Derived.Test.YtommlgdolahfbaaDoorRows
import Derived.ProofKit
import Derived.OpenShut
import Derived.ChangeOld
import Derived.ChangeSame
import Derived.Below
import Derived.Deep.Slices
import Derived.Deep.Fields
import Derived.Lib.SmallJoins
namespace Go.Proofs.YtommlgdolahfbaaDoor
set_option maxRecDepth 100000
open Go.RowKit Go.ChangeShapes Go.WideShapes Go.ChangeAt Go.Deep Go.Joins

section
variable {H : Type} {enc : TypeId × Value → H} {P : Program} {w : World} {base : Nat} {spare : Nat → Bool} {held : Bool}
/-- A cell's number as a byte. -/
theorem u8v_of {z : Int} (h : (Lit.int .u8 z).wf = true) : Value.int .u8 z = u8v (UInt8.ofNat z.toNat) := by
  have hz : 0 ≤ z ∧ z < 256 := by
    have e : IntKind.u8.min ≤ z ∧ z ≤ IntKind.u8.max := by simpa [Lit.wf] using h
    have e1 : IntKind.u8.min = 0 := by decide
    have e2 : IntKind.u8.max = 255 := by decide
    omega
  have : ((UInt8.ofNat z.toNat).toNat : Int) = z := by
    rw [UInt8.toNat_ofNat']
    omega
  unfold u8v
  rw [this]

theorem add_none (b off i : Nat) : (⟨b, off, none⟩ : Addr).add i = ⟨b, off + i, none⟩ := by
  unfold Addr.add
  split
  · rename_i h; subst h; rfl
  · rfl
theorem spot_none {w : World} {a : Addr} {u : Value} (h : w.cell? (a.add 0) = some u) : a.spot = none := by
  have h1 := World.cell?_spot h
  unfold Addr.add at h1
  simpa using h1

/-- What came in as a slice of bytes reads as bytes. -/
theorem open_bs {t e : TypeId} {fuel : Nat} {cs : List Value} {x : DataW H × List MemPlace} (ht : P.underlying t = some (.slice e)) (he : P.underlying e = some (.int .u8)) (hc : P.cellsOf e = 1)
    (h : DataW.trod enc P w base spare held fuel t cs = some x) : ∃ A c l, cs = [.slice A l.length c] ∧ Bs 0 w.heap.size w (.slice A l.length c) l := by
  rcases open_ints ht he hc h with ⟨rfl, _⟩ | ⟨a, len, cap, zs, rfl, _, hl, hm, hz, _, hcell, hwz⟩
  · exact ⟨none, 0, [], rfl, none, 0, rfl, by simp, by omega, fun h0 => absurd h0 (by simp)⟩
  · have hzl : len ≤ zs.length := by rw [hz]; split <;> omega
    have hll : ((zs.take len).map fun z => UInt8.ofNat z.toNat).length = len := by simp [hzl]
    unfold maxLen at hm
    refine ⟨some a, cap, (zs.take len).map fun z => UInt8.ofNat z.toNat, by rw [hll], some a, cap, rfl, by omega, by omega, fun h0 => ?_⟩
    obtain ⟨b, off, spot⟩ := a
    have hc0 := hcell 0 (by omega)
    obtain rfl : spot = none := spot_none hc0
    have hb := World.block_lt_of_cell? w _ hc0
    rw [add_none] at hb
    refine ⟨b, off, rfl, Nat.zero_le _, hb, fun i hi => ?_⟩
    have hi' : i < zs.length := by omega
    have hci := hcell i hi'
    have hw := hwz zs[i] (List.getElem_mem _)
    have hg : zs.getD i 0 = zs[i] := by simp [List.getD_eq_getElem?_getD, hi']
    rw [hg, u8v_of hw, add_none] at hci
    rw [hci]
    simp

/-- What came in as a slice of pages reads as pages. -/
theorem open_pgs {t e tb eb ti : TypeId} {f0 f1 : Field} {fuel : Nat} {cs : List Value} {x : DataW H × List MemPlace} (ht : P.underlying t = some (.slice e)) (he : P.underlying e = some (.struct #[f0, f1]))
    (hone : oneCellFields P #[f0, f1] = true) (hC : P.cellsOf e = 2) (e0 : f0.type = ti) (e1 : f1.type = tb) (hi : P.underlying ti = some (.int .i64)) (hb : P.underlying tb = some (.slice eb)) (he8 : P.underlying eb = some (.int .u8)) (hc8 : P.cellsOf eb = 1)
    (h : DataW.trod enc P w base spare held fuel t cs = some x) : ∃ A c l, cs = [.slice A l.length c] ∧ Pgs 0 w.heap.size w (.slice A l.length c) l := by
  rcases open_slice ht h with ⟨rfl, _⟩ | ⟨a, len, cap, m, n, D, Pl, rfl, _, hl, hm, hmm, _, hf⟩
  · exact ⟨none, 0, [], rfl, none, 0, rfl, by simp, by omega, fun h0 => absurd h0 (by simp), fun b off hA => by cases hA⟩
  · have hml : len ≤ m := by rw [hmm]; split <;> omega
    have key : ∀ i, i < len → ∃ p : Pg, ∃ v, w.cell? (a.add (i * 2)) = some (.int .i64 p.at_) ∧ w.cell? (a.add (i * 2 + 1)) = some v ∧ Bs 0 w.heap.size w v p.b := by
      intro i hil
      obtain ⟨cs', hcs', ht'⟩ := hf i (by omega)
      rw [hC] at hcs'
      obtain ⟨_, hcl, hat⟩ := World.cells?_some hcs'
      match cs', hcl with
      | [v0, v1], _ =>
      have hc0 := hat 0 (by omega)
      have hc1 := hat 1 (by omega)
      obtain ⟨y0, y1, _, _, _, ht0, ht1⟩ := trod_struct2 he ht'
      obtain ⟨o0, k0⟩ := hone_of hone 0 f0 rfl
      obtain ⟨o1, k1⟩ := hone_of hone 1 f1 rfl
      rw [o0, k0] at ht0
      rw [o1, k1] at ht1
      rw [e0] at ht0
      rw [e1] at ht1
      simp only [List.drop_zero, List.take_succ_cons, List.take_zero, List.drop_succ_cons, List.getElem?_cons_zero, List.getElem?_cons_succ] at ht0 ht1 hc0 hc1
      rw [Go.Deep.add_add] at hc0 hc1
      obtain ⟨z, ez, _, _⟩ := DataW.trod_int hi ht0
      obtain ⟨A, c, l, el, hl⟩ := open_bs hb he8 hc8 ht1
      simp only [List.cons.injEq, and_true] at ez el
      subst ez el
      exact ⟨⟨z, l⟩, _, by simpa using hc0, hc1, hl⟩
    let g : Nat → Pg := fun i => if hi : i < len then (key i hi).choose else ⟨0, []⟩
    have hg : ∀ i, i < len → ∃ v, w.cell? (a.add (i * 2)) = some (.int .i64 (g i).at_) ∧ w.cell? (a.add (i * 2 + 1)) = some v ∧ Bs 0 w.heap.size w v (g i).b := fun i hi => by
      have := (key i hi).choose_spec
      simp only [g, hi, dif_pos]
      exact this
    have hll : ((List.range len).map g).length = len := by simp
    unfold maxLen at hm
    refine ⟨some a, cap, (List.range len).map g, by rw [hll], some a, cap, rfl, by omega, by omega, fun h0 => ?_, fun b off hA i hi => ?_⟩
    · obtain ⟨v, hc, _⟩ := hg 0 (by omega)
      rw [Nat.zero_mul] at hc
      obtain ⟨b, off, spot⟩ := a
      obtain rfl : spot = none := spot_none hc
      have hb := World.block_lt_of_cell? w _ hc
      rw [add_none] at hb
      exact ⟨b, off, rfl, Nat.zero_le _, hb⟩
    · injection hA with hA
      subst hA
      obtain ⟨v, hc, hc', hv⟩ := hg i (by omega)
      refine ⟨[.int .i64 (g i).at_, v], rfl, fun j hj => ?_, v, by simp, by simpa using hv⟩
      rw [add_none] at hc hc'
      match j, hj with
      | 0, _ => simpa using hc
      | 1, _ => simpa [Nat.add_assoc] using hc'

/-- What came in as a disk reads as a disk. -/
theorem open_dsk {r : Reach} {b0 : Nat} {v : Value} {d : DataW H} {p : List MemPlace} {t tb eb tp ep ti : TypeId} {f0 f1 f2 g0 g1 : Field} (hs : P.underlying t = some (.struct #[f0, f1, f2])) (hone : oneCellFields P #[f0, f1, f2] = true) (hC : P.cellsOf t = 3)
    (e0 : f0.type = tb) (e1 : f1.type = tp) (e2 : f2.type = ti) (hb : P.underlying tb = some (.slice eb)) (he8 : P.underlying eb = some (.int .u8)) (hc8 : P.cellsOf eb = 1) (hi : P.underlying ti = some (.int .i64))
    (hp : P.underlying tp = some (.slice ep)) (hep : P.underlying ep = some (.struct #[g0, g1])) (honep : oneCellFields P #[g0, g1] = true) (hCp : P.cellsOf ep = 2) (k0 : g0.type = ti) (k1 : g1.type = tb)
    (hv : Value.okWide P w r b0 t v) (h : DataW.Trod enc P w base spare held t v d p) :
    ∃ (A A' : Option Addr) (c c' : Nat) (k : Dk), v = .agg #[.slice A k.dry.length c, .slice A' k.wet.length c', .int .i64 k.left] ∧ Dsk 0 w.heap.size w v k := by
  obtain ⟨v0, v1, v2, y0, y1, y2, n, rfl, _, _, h0, h1, h2⟩ := open_agg3 hs hone hC hv h
  rw [e0] at h0
  rw [e1] at h1
  rw [e2] at h2
  obtain ⟨A, c, l, el, hl⟩ := open_bs hb he8 hc8 h0
  obtain ⟨A', c', l', el', hl'⟩ := open_pgs hp hep honep hCp k0 k1 hi hb he8 hc8 h1
  obtain ⟨z, ez, _, _⟩ := DataW.trod_int hi h2
  simp only [List.cons.injEq, and_true] at el el' ez
  subst el el' ez
  exact ⟨A, A', c, c', ⟨l, l', z⟩, rfl, _, _, rfl, hl, hl'⟩
end

section
variable {H : Type} {enc : TypeId × Value → H} {P : Program} {w : World} {base : Nat} {spare : Nat → Bool} {held : Bool}
/-- A parameter that is a slice of bytes. -/
theorem open_bytes {r : Reach} {b0 : Nat} {v : Value} {d : DataW H} {p : List MemPlace} {t e : TypeId} (ht : P.underlying t = some (.slice e)) (he : P.underlying e = some (.int .u8)) (hc : P.cellsOf e = 1)
    (hv : Value.okWide P w r b0 t v) (h : DataW.Trod enc P w base spare held t v d p) : ∃ A c l, v = .slice A l.length c ∧ Bs 0 w.heap.size w (.slice A l.length c) l := by
  obtain ⟨a1, n1, c1, rfl⟩ := okWide_slice ht hv
  obtain ⟨fuel, hf⟩ := h
  obtain ⟨A, c, l, hcs, hb⟩ := open_bs ht he hc hf
  exact ⟨A, c, l, by simpa [Value.cells] using hcs, hb⟩
end
theorem own : ownKnob Tryd.prog.godebug = none := by kernel_rfl
theorem laidOut : laidOutB Tryd.prog = true := by kernel_rfl
theorem cells5 : Tryd.prog.cellsOf 5 = 1 := by kernel_rfl
theorem cells25 : Tryd.prog.cellsOf 31 = 3 := by kernel_rfl
theorem cells41 : Tryd.prog.cellsOf 56 = 2 := by kernel_rfl
end Go.Proofs.YtommlgdolahfbaaDoor
