import Derived.Test.YteokimebfbnlkaaBase
import Derived.Test.YteokimebfbnlkaaW1
import Derived.Test.YteokimebfbnlkaaRows
import Derived.ProofKit
import Derived.OpenShut
import Derived.ChangeOld
import Derived.ChangeSame
import Derived.Below
import Derived.Deep.Slices
import Derived.Deep.Fields
import Derived.Lib.SmallJoins
namespace Go.Proofs.Yteokimebfbnlkaa
open Go.RowKit Go.ChangeShapes Go.WideShapes Go.ChangeAt Go.Deep Go.Joins

section
variable {H : Type} {enc : TypeId × Value → H} {P : Program} {w : World} {base : Nat} {spare : Nat → Bool} {held : Bool}
theorem add_none (b off i : Nat) : (⟨b, off, none⟩ : Addr).add i = ⟨b, off + i, none⟩ := by
  unfold Addr.add
  split
  · rename_i h; subst h; rfl
  · rfl
theorem spot_none {w : World} {a : Addr} {u : Value} (h : w.cell? (a.add 0) = some u) : a.spot = none := by
  have h1 := World.cell?_spot h
  unfold Addr.add at h1
  simpa using h1
theorem i64_wf {z : Int} (h : (Lit.int .i64 z).wf = true) : -9223372036854775808 ≤ z ∧ z ≤ 9223372036854775807 := by
  have e : IntKind.i64.min ≤ z ∧ z ≤ IntKind.i64.max := by simpa [Lit.wf] using h
  have e1 : IntKind.i64.min = -9223372036854775808 := by decide
  have e2 : IntKind.i64.max = 9223372036854775807 := by decide
  omega

/-- What came in as a slice of extents reads as extents, their numbers words of the machine. -/
theorem open_exs {t e ti : TypeId} {f0 f1 : Field} {fuel : Nat} {cs : List Value} {x : DataW H × List MemPlace} (ht : P.underlying t = some (.slice e)) (he : P.underlying e = some (.struct #[f0, f1]))
    (hone : oneCellFields P #[f0, f1] = true) (hC : P.cellsOf e = 2) (e0 : f0.type = ti) (e1 : f1.type = ti) (hi : P.underlying ti = some (.int .i64))
    (h : DataW.trod enc P w base spare held fuel t cs = some x) : ∃ A c l, cs = [.slice A l.length c] ∧ Exs 0 w.heap.size w (.slice A l.length c) l ∧ Rgs l := by
  rcases open_slice ht h with ⟨rfl, _⟩ | ⟨a, len, cap, m, n, D, Pl, rfl, _, hl, hm, hmm, _, hf⟩
  · exact ⟨none, 0, [], rfl, Exs.nil _ _ _, fun f hf => by cases hf⟩
  · have hml : len ≤ m := by rw [hmm]; split <;> omega
    have key : ∀ i, i < len → ∃ p : Ex, w.cell? (a.add (i * 2)) = some (.int .i64 p.at_) ∧ w.cell? (a.add (i * 2 + 1)) = some (.int .i64 p.len) ∧ p.len ≤ 9223372036854775807 := by
      intro i hil
      obtain ⟨cs', hcs', ht'⟩ := hf i (by omega)
      rw [hC] at hcs'
      obtain ⟨_, hcl, hat⟩ := World.cells?_some hcs'
      match cs', hcl with
      | [v0, v1], _ =>
      have hc0 := hat 0 (by omega)
      have hc1 := hat 1 (by omega)
      obtain ⟨y0, y1, _, _, _, ht0, ht1⟩ := trod_struct2 he ht'
      obtain ⟨o0, k0⟩ := hone_of hone 0 f0 rfl
      obtain ⟨o1, k1⟩ := hone_of hone 1 f1 rfl
      rw [o0, k0, e0] at ht0
      rw [o1, k1, e1] at ht1
      simp only [List.drop_zero, List.take_succ_cons, List.take_zero, List.drop_succ_cons, List.getElem?_cons_zero, List.getElem?_cons_succ] at ht0 ht1 hc0 hc1
      rw [Go.Deep.add_add] at hc0 hc1
      obtain ⟨z0, ez0, _, _⟩ := DataW.trod_int hi ht0
      obtain ⟨z1, ez1, _, wz⟩ := DataW.trod_int hi ht1
      simp only [List.cons.injEq, and_true] at ez0 ez1
      subst ez0 ez1
      exact ⟨⟨z0, z1⟩, by simpa using hc0, hc1, (i64_wf wz).2⟩
    let g : Nat → Ex := fun i => if hi : i < len then (key i hi).choose else ⟨0, 0⟩
    have hg : ∀ i, i < len → w.cell? (a.add (i * 2)) = some (.int .i64 (g i).at_) ∧ w.cell? (a.add (i * 2 + 1)) = some (.int .i64 (g i).len) ∧ (g i).len ≤ 9223372036854775807 := fun i hi => by
      have := (key i hi).choose_spec
      simp only [g, hi, dif_pos]
      exact this
    have hll : ((List.range len).map g).length = len := by simp
    unfold maxLen at hm
    refine ⟨some a, cap, (List.range len).map g, by rw [hll], ?_, fun f hf => ?_⟩
    · rcases Nat.eq_zero_or_pos len with h0 | h0
      · exact ⟨some a, cap, rfl, by omega, by omega, fun h1 => by omega, fun b off e i hi => by omega⟩
      · have hc := (hg 0 h0).1
        rw [Nat.zero_mul] at hc
        obtain ⟨b, off, spot⟩ := a
        obtain rfl : spot = none := spot_none hc
        have hb := World.block_lt_of_cell? w _ hc
        rw [add_none] at hb
        refine Exs.make (by omega) (by omega) (Nat.zero_le _) hb fun k hk => ?_
        obtain ⟨c0, c1, _⟩ := hg k (by omega)
        rw [add_none] at c0 c1
        rw [← Nat.add_assoc] at c1
        exact ⟨by simpa using c0, by simpa using c1⟩
    · obtain ⟨i, hi, rfl⟩ := List.mem_map.1 hf
      exact (hg i (by simpa using hi)).2.2

/-- What came in as extents reads as extents. -/
theorem open_xs {r : Reach} {b0 : Nat} {v : Value} {d : DataW H} {p : List MemPlace} {t ts ti te : TypeId} {f0 f1 g0 g1 : Field} (hs : P.underlying t = some (.struct #[f0, f1])) (hone : oneCellFields P #[f0, f1] = true) (hC : P.cellsOf t = 2)
    (e0 : f0.type = ti) (e1 : f1.type = ts) (hi : P.underlying ti = some (.int .i64)) (hp : P.underlying ts = some (.slice te)) (hep : P.underlying te = some (.struct #[g0, g1])) (honep : oneCellFields P #[g0, g1] = true) (hCp : P.cellsOf te = 2)
    (k0 : g0.type = ti) (k1 : g1.type = ti) (hv : Value.okWide P w r b0 t v) (h : DataW.Trod enc P w base spare held t v d p) :
    ∃ x : Xs, XsR 0 w.heap.size w v x ∧ Rgs x.free := by
  obtain ⟨v0, v1, y0, y1, n, rfl, _, _, h0, h1⟩ := open_agg2 hs hone hC hv h
  rw [e0] at h0
  rw [e1] at h1
  obtain ⟨z, ez, _, _⟩ := DataW.trod_int hi h0
  obtain ⟨A, c, l, el, hl, hr⟩ := open_exs hp hep honep hCp k0 k1 hi h1
  simp only [List.cons.injEq, and_true] at el ez
  subst el ez
  exact ⟨⟨z, l⟩, ⟨_, rfl, hl⟩, hr⟩
end
end Go.Proofs.Yteokimebfbnlkaa
