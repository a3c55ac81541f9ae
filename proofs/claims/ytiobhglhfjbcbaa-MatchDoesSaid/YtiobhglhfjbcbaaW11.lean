import Derived.Test.YtiobhglhfjbcbaaBase
import Derived.Test.YtiobhglhfjbcbaaRows
import Derived.ProofKit
import Derived.OpenShut
import Derived.ChangeOld
import Derived.ChangeSame
import Derived.Below
import Derived.Deep.Slices
import Derived.Deep.Fields
import Derived.Lib.SmallJoins
namespace Go.Proofs.Ytiobhglhfjbcbaa
open Go.RowKit Go.ChangeShapes Go.WideShapes Go.ChangeAt Go.Deep Go.Joins

section
variable {H : Type} {enc : TypeId × Value → H} {P : Program} {w : World} {base : Nat} {spare : Nat → Bool} {held : Bool}
/-- A cell's number as a byte. -/
theorem u8v_of {z : Int} (h : (Lit.int .u8 z).wf = true) : Value.int .u8 z = u8v (UInt8.ofNat z.toNat) := by
  have hz : 0 ≤ z ∧ z < 256 := by
    have e : IntKind.u8.min ≤ z ∧ z ≤ IntKind.u8.max := by simpa [Lit.wf] using h
    have e1 : IntKind.u8.min = 0 := by decide
    have e2 : IntKind.u8.max = 255 := by decide
    omega
  have : ((UInt8.ofNat z.toNat).toNat : Int) = z := by
    rw [UInt8.toNat_ofNat']
    omega
  unfold u8v n8
  rw [this]

theorem add_none (b off i : Nat) : (⟨b, off, none⟩ : Addr).add i = ⟨b, off + i, none⟩ := by
  unfold Addr.add
  split
  · rename_i h; subst h; rfl
  · rfl
theorem spot_none {w : World} {a : Addr} {u : Value} (h : w.cell? (a.add 0) = some u) : a.spot = none := by
  have h1 := World.cell?_spot h
  unfold Addr.add at h1
  simpa using h1

/-- What came in as a slice of bytes reads as bytes. -/
theorem open_bs {t e : TypeId} {fuel : Nat} {cs : List Value} {x : DataW H × List MemPlace} (ht : P.underlying t = some (.slice e)) (he : P.underlying e = some (.int .u8)) (hc : P.cellsOf e = 1)
    (h : DataW.trod enc P w base spare held fuel t cs = some x) : ∃ A c l, cs = [.slice A l.length c] ∧ Bs 0 w.heap.size w (.slice A l.length c) l := by
  rcases open_ints ht he hc h with ⟨rfl, _⟩ | ⟨a, len, cap, zs, rfl, _, hl, hm, hz, _, hcell, hwz⟩
  · exact ⟨none, 0, [], rfl, none, 0, rfl, by simp, by omega, fun h0 => absurd h0 (by simp)⟩
  · have hzl : len ≤ zs.length := by rw [hz]; split <;> omega
    have hll : ((zs.take len).map fun z => UInt8.ofNat z.toNat).length = len := by simp [hzl]
    unfold maxLen at hm
    refine ⟨some a, cap, (zs.take len).map fun z => UInt8.ofNat z.toNat, by rw [hll], some a, cap, rfl, by omega, by omega, fun h0 => ?_⟩
    obtain ⟨b, off, spot⟩ := a
    have hc0 := hcell 0 (by omega)
    obtain rfl : spot = none := spot_none hc0
    have hb := World.block_lt_of_cell? w _ hc0
    rw [add_none] at hb
    refine ⟨b, off, rfl, Nat.zero_le _, hb, fun i hi => ?_⟩
    have hi' : i < zs.length := by omega
    have hci := hcell i hi'
    have hw := hwz zs[i] (List.getElem_mem _)
    have hg : zs.getD i 0 = zs[i] := by simp [List.getD_eq_getElem?_getD, hi']
    rw [hg, u8v_of hw, add_none] at hci
    rw [hci]
    simp

/-- A parameter that is a slice of bytes. -/
theorem open_bytes {r : Reach} {b0 : Nat} {v : Value} {d : DataW H} {p : List MemPlace} {t e : TypeId} (ht : P.underlying t = some (.slice e)) (he : P.underlying e = some (.int .u8)) (hc : P.cellsOf e = 1)
    (hv : Value.okWide P w r b0 t v) (h : DataW.Trod enc P w base spare held t v d p) : ∃ l, Bs 0 w.heap.size w v l := by
  obtain ⟨a1, n1, c1, rfl⟩ := okWide_slice ht hv
  obtain ⟨fuel, hf⟩ := h
  obtain ⟨A, c, l, hcs, hb⟩ := open_bs ht he hc hf
  have e : Value.slice a1 n1 c1 = .slice A l.length c := by simpa [Value.cells] using hcs
  rw [e]
  exact ⟨l, hb⟩
theorem open_slice_fields {t e : TypeId} {fs : Array Field} {fuel : Nat} {cs : List Value} {x : DataW H × List MemPlace} (ht : P.underlying t = some (.slice e)) (he : P.underlying e = some (.struct fs))
    (hone : oneCellFields P fs = true) (hC : P.cellsOf e = fs.size) (h : DataW.trod enc P w base spare held fuel t cs = some x) :
    (cs = [.slice none 0 0] ∧ x = (.nil, [])) ∨
    ∃ (a : Addr) (len cap m : Nat) (D : Nat → DataW H) (Pl : Nat → List MemPlace), cs = [.slice (some a) len cap] ∧ base ≤ a.block ∧ len ≤ cap ∧ cap ≤ maxLen ∧ m = (if spare a.block then cap else len) ∧
      x = (.slice ((List.range len).map D) ((List.range (m - len)).map fun j => D (len + j)), MemPlace.row a (m * fs.size) ++ (List.range m).flatMap Pl) ∧
      ∀ i, i < m → ∃ (ys : List (DataW H × List MemPlace)) (n : Nat), D i = .agg (ys.map (·.1)) ∧ Pl i = ys.flatMap (·.2) ∧ ys.length = fs.size ∧
        ∀ (j : Nat) (f : Field), fs[j]? = some f → ∃ (v : Value) (y : DataW H × List MemPlace), w.cell? (a.add (i * fs.size + j)) = some v ∧ ys[j]? = some y ∧ DataW.trod enc P w base spare held n f.type [v] = some y := by
  rcases open_slice ht h with h0 | ⟨a, len, cap, m, n, D, Pl, hcs, hb, hl, hm, hmm, hx, hi⟩
  · exact .inl h0
  · refine .inr ⟨a, len, cap, m, D, Pl, hcs, hb, hl, hm, hmm, by rw [hC] at hx; exact hx, fun i him => ?_⟩
    obtain ⟨cs', hc, ht'⟩ := hi i him
    rw [hC] at hc
    obtain ⟨ys, n', hn', hy, hlen, hyl, hf⟩ := DataW.trod_struct he ht'
    obtain ⟨_, hcl, hat⟩ := World.cells?_some hc
    simp only [Prod.mk.injEq] at hy
    refine ⟨ys, n', hy.1, hy.2, hyl, fun j f hj => ?_⟩
    obtain ⟨ho, hk⟩ := hone_of hone j f hj
    have hjl : j < fs.size := (Array.getElem?_eq_some_iff.1 hj).1
    have hcell := hat j hjl
    have hv : cs'[j]? = some (cs'[j]'(by omega)) := List.getElem?_eq_getElem (by omega)
    have h1 := hf j f hj
    rw [ho, hk] at h1
    have hone' : (cs'.drop j).take 1 = [cs'[j]'(by omega)] := by
      rw [List.drop_eq_getElem_cons (by omega)]
      rfl
    rw [hone'] at h1
    have hys : ys[j]? = some (ys[j]'(by omega)) := List.getElem?_eq_getElem (by omega)
    refine ⟨_, _, ?_, hys, h1.trans hys⟩
    rw [← Go.Deep.add_add, hcell, hv]

/-- What came in as a slice of tokens reads as tokens. -/
theorem open_tks {t e tb ti : TypeId} {f0 f1 f2 : Field} {fuel : Nat} {cs : List Value} {x : DataW H × List MemPlace} (ht : P.underlying t = some (.slice e)) (he : P.underlying e = some (.struct #[f0, f1, f2]))
    (hone : oneCellFields P #[f0, f1, f2] = true) (hC : P.cellsOf e = 3) (e0 : f0.type = tb) (e1 : f1.type = ti) (e2 : f2.type = ti) (ho : P.underlying tb = some (.int .u8)) (hi : P.underlying ti = some (.int .i64))
    (h : DataW.trod enc P w base spare held fuel t cs = some x) : ∃ A c l, cs = [.slice A l.length c] ∧ Tks 0 w.heap.size w (.slice A l.length c) l := by
  rcases open_slice_fields ht he hone hC h with ⟨rfl, _⟩ | ⟨a, len, cap, m, D, Pl, rfl, _, hl, hm, hmm, _, hf⟩
  · exact ⟨none, 0, [], rfl, Tks.nil _ _ _⟩
  · have hml : len ≤ m := by rw [hmm]; split <;> omega
    have key : ∀ i, i < len → ∃ p : Tok, w.cell? (a.add (i * 3)) = some (.int .u8 (n8 p.lit)) ∧ w.cell? (a.add (i * 3 + 1)) = some (.int .i64 p.len) ∧ w.cell? (a.add (i * 3 + 2)) = some (.int .i64 p.dist) := by
      intro i hil
      obtain ⟨ys, n, _, _, hyl, hg⟩ := hf i (by omega)
      obtain ⟨v0, y0, hc0, hy0, ht0⟩ := hg 0 f0 rfl
      obtain ⟨v1, y1, hc1, hy1, ht1⟩ := hg 1 f1 rfl
      obtain ⟨v2, y2, hc2, hy2, ht2⟩ := hg 2 f2 rfl
      rw [e0] at ht0
      rw [e1] at ht1
      rw [e2] at ht2
      obtain ⟨z0, ez0, _, w0⟩ := DataW.trod_int ho ht0
      obtain ⟨z1, ez1, _, _⟩ := DataW.trod_int hi ht1
      obtain ⟨z2, ez2, _, _⟩ := DataW.trod_int hi ht2
      simp only [List.cons.injEq, and_true] at ez0 ez1 ez2
      subst ez0 ez1 ez2
      rw [u8v_of w0] at hc0
      exact ⟨⟨UInt8.ofNat z0.toNat, z1, z2⟩, by simpa using hc0, by simpa using hc1, by simpa using hc2⟩
    let g : Nat → Tok := fun i => if hi : i < len then (key i hi).choose else ⟨0, 0, 0⟩
    have hg : ∀ i, i < len → w.cell? (a.add (i * 3)) = some (.int .u8 (n8 (g i).lit)) ∧ w.cell? (a.add (i * 3 + 1)) = some (.int .i64 (g i).len) ∧ w.cell? (a.add (i * 3 + 2)) = some (.int .i64 (g i).dist) := fun i hi => by
      have := (key i hi).choose_spec
      simp only [g, hi, dif_pos]
      exact this
    have hll : ((List.range len).map g).length = len := by simp
    unfold maxLen at hm
    refine ⟨some a, cap, (List.range len).map g, by rw [hll], ?_⟩
    rcases Nat.eq_zero_or_pos len with h0 | h0
    · exact ⟨some a, cap, rfl, by omega, by omega, fun h1 => by omega, fun b off e i hi => by omega⟩
    · have hc := (hg 0 h0).1
      rw [Nat.zero_mul] at hc
      obtain ⟨b, off, spot⟩ := a
      obtain rfl : spot = none := spot_none hc
      have hb := World.block_lt_of_cell? w _ hc
      rw [add_none] at hb
      refine Tks.make (by omega) (by omega) (Nat.zero_le _) hb fun k hk => ?_
      obtain ⟨c0, c1, c2⟩ := hg k (by omega)
      rw [add_none] at c0 c1 c2
      rw [← Nat.add_assoc] at c1 c2
      exact ⟨by simpa using c0, by simpa using c1, by simpa using c2⟩
/-- A parameter that is a slice of tokens. -/
theorem open_toks {r : Reach} {b0 : Nat} {v : Value} {d : DataW H} {p : List MemPlace} {t e tb ti : TypeId} {f0 f1 f2 : Field} (ht : P.underlying t = some (.slice e)) (he : P.underlying e = some (.struct #[f0, f1, f2]))
    (hone : oneCellFields P #[f0, f1, f2] = true) (hC : P.cellsOf e = 3) (e0 : f0.type = tb) (e1 : f1.type = ti) (e2 : f2.type = ti) (ho : P.underlying tb = some (.int .u8)) (hi : P.underlying ti = some (.int .i64))
    (hv : Value.okWide P w r b0 t v) (h : DataW.Trod enc P w base spare held t v d p) : ∃ l, Tks 0 w.heap.size w v l := by
  obtain ⟨a1, n1, c1, rfl⟩ := okWide_slice ht hv
  obtain ⟨fuel, hf⟩ := h
  obtain ⟨A, c, l, hcs, hb⟩ := open_tks ht he hone hC e0 e1 e2 ho hi hf
  have e : Value.slice a1 n1 c1 = .slice A l.length c := by simpa [Value.cells] using hcs
  rw [e]
  exact ⟨l, hb⟩
end
theorem own : ownKnob Try.prog.godebug = none := by kernel_rfl
theorem laidOut : laidOutB Try.prog = true := by kernel_rfl
theorem cells25 : Try.prog.cellsOf 25 = 3 := by kernel_rfl
theorem cells5 : Try.prog.cellsOf 5 = 1 := by kernel_rfl
end Go.Proofs.Ytiobhglhfjbcbaa
