import Derived.Test.YthkccpemgmpadaaGreatDoorU19
import Derived.Test.YthkccpemgmpadaaGreatDoorRows
import Derived.ProofKit
import Derived.OpenShut
import Derived.ChangeOld
import Derived.ChangeSame
import Derived.Below
import Derived.Deep.Slices
import Derived.Deep.Fields
import Derived.Lib.SmallJoins
namespace Go.Proofs.YthkccpemgmpadaaGreatDoor.P
set_option maxRecDepth 100000
open Go.RowKit Go.ChangeShapes Go.WideShapes Go.ChangeAt Go.Deep Go.Joins
theorem list_of {α : Type} {Q : Nat → α → Prop} (n : Nat) (h : ∀ i, i < n → ∃ x, Q i x) : ∃ l : List α, l.length = n ∧ ∀ i (hi : i < l.length), Q i l[i] := by
  induction n with
  | zero => exact ⟨[], rfl, fun i hi => absurd hi (Nat.not_lt_zero _)⟩
  | succ n ih =>
    obtain ⟨l, hl, hq⟩ := ih fun i hi => h i (by omega)
    obtain ⟨x, hx⟩ := h n (by omega)
    refine ⟨l ++ [x], by simp [hl], fun i hi => ?_⟩
    by_cases h1 : i < l.length
    · rw [List.getElem_append_left h1]; exact hq i h1
    · obtain rfl : i = n := by simp at hi; omega
      rw [List.getElem_append_right (by omega)]
      simpa [hl] using hx
theorem add_none (b off i : Nat) : (⟨b, off, none⟩ : Addr).add i = ⟨b, off + i, none⟩ := by
  unfold Addr.add
  split
  · rename_i h; subst h; rfl
  · rfl
theorem spot_none {w : World} {a : Addr} {u : Value} (h : w.cell? (a.add 0) = some u) : a.spot = none := by
  have h1 := World.cell?_spot h
  unfold Addr.add at h1
  simpa using h1
section
variable {H : Type} {enc : TypeId × Value → H} {P : Program} {w : World} {base : Nat} {spare : Nat → Bool} {held : Bool}
theorem open_rd {α : Type} {k : Nat} {f : α → List Value} {r : Reach} {b0 : Nat} {v : Value} {d : DataW H} {p : List MemPlace} {t e : TypeId} (ht : P.underlying t = some (.slice e)) (hC : P.cellsOf e = k) (hk : 0 < k) (hfl : ∀ x, (f x).length = k)
    (hE : ∀ n cs y, cs.length = k → DataW.trod enc P w base spare held n e cs = some y → ∃ x, cs = f x)
    (hv : Value.okWide P w r b0 t v) (h : DataW.Trod enc P w base spare held t v d p) : ∃ l, Rd k f 0 w.heap.size w v l := by
  obtain ⟨a1, n1, c1, rfl⟩ := okWide_slice ht hv
  obtain ⟨fuel, hf⟩ := h
  rcases open_slice ht hf with ⟨hcs, _⟩ | ⟨a, len, cap, m, n, D, Pl, hcs, hb, hl, hm, hmm, hx, hi⟩
  · have e : Value.slice a1 n1 c1 = .slice none 0 0 := by simpa [Value.cells] using hcs
    rw [e]
    exact ⟨[], Rd.nil _ _ _ _ _⟩
  · have e' : Value.slice a1 n1 c1 = .slice (some a) len cap := by simpa [Value.cells] using hcs
    rw [e']
    have hml : len ≤ m := by rw [hmm]; split <;> omega
    rw [hC] at hi
    obtain ⟨l, hll, hq⟩ := list_of (Q := fun i x => ∀ j, j < k → w.cell? ((a.add (i * k)).add j) = (f x)[j]?) len (fun i hil => by
      obtain ⟨cs', hc, ht'⟩ := hi i (by omega)
      obtain ⟨_, hcl, hat⟩ := World.cells?_some hc
      obtain ⟨x, rfl⟩ := hE _ _ _ hcl ht'
      exact ⟨x, fun j hj => hat j hj⟩)
    unfold maxLen at hm
    refine ⟨l, some a, cap, by rw [hll], by omega, by omega, fun h0 => ?_⟩
    obtain ⟨b, off, spot⟩ := a
    have hu : ∃ u, (f l[0])[0]? = some u := ⟨_, List.getElem?_eq_getElem (by rw [hfl]; exact hk)⟩
    obtain ⟨u, hu⟩ := hu
    have hc0 := (hq 0 h0 0 hk).trans hu
    rw [add_add, Nat.zero_mul] at hc0
    obtain rfl : spot = none := spot_none hc0
    rw [add_none] at hc0
    have hb' := World.block_lt_of_cell? w _ hc0
    refine ⟨b, off, rfl, Nat.zero_le _, hb', fun i hil j u hu => ?_⟩
    have hj : j < k := by rw [← hfl l[i]]; exact (List.getElem?_eq_some_iff.1 hu).1
    have := (hq i hil j hj).trans hu
    rw [add_add, add_none] at this
    rwa [← Nat.add_assoc] at this
theorem elem_fields {e : TypeId} {fs : Array Field} (he : P.underlying e = some (.struct fs)) (hone : oneCellFields P fs = true) (hC : P.cellsOf e = fs.size) {n : Nat} {cs : List Value} {y : DataW H × List MemPlace} (h : DataW.trod enc P w base spare held n e cs = some y) :
    cs.length = fs.size ∧ ∀ (j : Nat) (f : Field), fs[j]? = some f → ∃ (m : Nat) (v : Value) (z : DataW H × List MemPlace), cs[j]? = some v ∧ DataW.trod enc P w base spare held m f.type [v] = some z := by
  obtain ⟨ys, n', hn', hy, hlen, hyl, hf⟩ := DataW.trod_struct he h
  rw [hC] at hlen
  refine ⟨hlen, fun j f hj => ?_⟩
  obtain ⟨ho, hk⟩ := hone_of hone j f hj
  have hjl : j < fs.size := (Array.getElem?_eq_some_iff.1 hj).1
  have h1 := hf j f hj
  rw [ho, hk] at h1
  have hone' : (cs.drop j).take 1 = [cs[j]'(by omega)] := by rw [List.drop_eq_getElem_cons (by omega)]; rfl
  rw [hone'] at h1
  have hys : ys[j]? = some (ys[j]'(by omega)) := List.getElem?_eq_getElem (by omega)
  exact ⟨_, _, _, List.getElem?_eq_getElem (by omega), h1.trans hys⟩
end
theorem open_bytes {lo hi : Nat} {w : World} {v : Value} (h : ∃ l : List UInt8, Rd 1 (fun x => byc x.toNat) lo hi w v l) : ∃ l : List Int, Os lo hi w v l ∧ okB l := by
  obtain ⟨l, A, c, e, h1, h2, h3⟩ := h
  refine ⟨l.map fun x => (x.toNat : Int), ⟨A, c, by rw [List.length_map]; exact e, by rw [List.length_map]; exact h1, h2, fun h0 => ?_⟩, fun x hx => ?_⟩
  · obtain ⟨b, off, e, g1, g2, g3⟩ := h3 (by simpa using h0)
    refine ⟨b, off, e, g1, g2, fun i hi j u hu => g3 i (by simpa using hi) j u (by simpa using hu)⟩
  · obtain ⟨y, _, rfl⟩ := List.mem_map.1 hx
    have := y.toNat_lt
    omega
theorem laidOut : laidOutB Tryz.prog = true := by kernel_rfl
theorem cells3 : Tryz.prog.cellsOf 3 = 1 := by kernel_rfl
theorem cells5 : Tryz.prog.cellsOf 5 = 1 := by kernel_rfl
theorem open_bs {lo hi : Nat} {w : World} {v : Value} (h : ∃ l : List UInt8, Rd 1 (fun x => byc x.toNat) lo hi w v l) : ∃ l : List UInt8, M.Bs lo hi w v l := by
  obtain ⟨l, A, c, e, h1, h2, h3⟩ := h
  refine ⟨l, A, c, e, h1, h2, fun h0 => ?_⟩
  obtain ⟨b, off, e, g1, g2, g3⟩ := h3 h0
  refine ⟨b, off, e, g1, g2, fun i hi => ?_⟩
  have := g3 i hi 0 (M.u8v l[i]) rfl
  simpa using this
theorem u8v_of {z : Int} (h : (Lit.int .u8 z).wf = true) : Value.int .u8 z = M.u8v (UInt8.ofNat z.toNat) := by
  have h1 : IntKind.u8.min ≤ z ∧ z ≤ IntKind.u8.max := by simpa [Lit.wf] using h
  have e1 : IntKind.u8.min = 0 := by decide
  have e2 : IntKind.u8.max = 255 := by decide
  unfold M.u8v M.n8
  have : ((UInt8.ofNat z.toNat).toNat : Int) = z := by simp; omega
  rw [this]
end Go.Proofs.YthkccpemgmpadaaGreatDoor.P
