import Derived.Test.YtlgahaidnpgnaaaDoorD1
namespace Go.Proofs.YtlgahaidnpgnaaaDoor
open Go.RowKit

/-! ### what is written behind the calls -/
theorem q8_inc (x : UInt8) : IntKind.u8.wrap (n8 x + 1) = n8 (x + 1) := by
  have := x.toNat_lt
  rw [IntKind.wrap_u8']
  unfold n8
  rw [UInt8.toNat_add]
  have : (1 : UInt8).toNat = 1 := rfl
  rw [this]
  omega
theorem q8_inc' (x : UInt8) : (n8 x + 1) % 256 = n8 (x + 1) := by
  have := q8_inc x
  rwa [IntKind.wrap_u8'] at this
/-- Blocks that are known whole, and rows of octets of the call's own, whatever stands in them. -/
structure Wr (w0 W : World) (L : List (Nat × TypeId × Array Value)) (R : List (Nat × Nat × Value × Nat)) : Prop where
  bl : Below w0.heap.size w0 W
  blk : ∀ p ∈ L, Blk W p.1 p.2.1 p.2.2
  row : ∀ r ∈ R, w0.heap.size ≤ r.1 ∧ VBelow r.2.1 r.2.2.1 ∧ ∃ l : List UInt8, W.ownsRow r.1 5 1 r.2.2.1 r.2.2.2 (l.map u8v)
theorem Wr.get {w0 W : World} {L : List (Nat × TypeId × Array Value)} {R : List (Nat × Nat × Value × Nat)} (h : Wr w0 W L R) (i : Nat) {g : Nat} {t : TypeId} {cs : Array Value} (e : L[i]? = some (g, t, cs)) : Blk W g t cs := h.blk _ (List.mem_of_getElem? e)
theorem below_put {g k : Nat} (w : World) (u : Value) : Below g w (w.setCell ⟨g, k, none⟩ u) := Below.setCell (p := ⟨g, k, none⟩) (Below.refl _ _) (Nat.le_refl _) u
theorem Wr.put {w0 W : World} {L : List (Nat × TypeId × Array Value)} {R : List (Nat × Nat × Value × Nat)} (h : Wr w0 W L R) (i : Nat) {b hi : Nat} {v : Value} {m k : Nat} (e : R[i]? = some (b, hi, v, m)) (hk : k < m)
    (hL : ∀ p ∈ L, p.2.1 ≠ 5) (hR : ∀ r ∈ R, r = (b, hi, v, m) ∨ hi ≤ r.1 ∨ r.2.1 ≤ b) :
    ∃ g c x, v = .slice (some ⟨g, 0, none⟩) m c ∧ g < W.heap.size ∧ W.cell? ⟨g, k, none⟩ = some (u8v x) ∧ W.frozen? ⟨g, k, none⟩ = false ∧ ∀ u : UInt8, Wr w0 (W.setCell ⟨g, k, none⟩ (u8v u)) L R := by
  obtain ⟨hb0, hvb, l, ho⟩ := h.row _ (List.mem_of_getElem? e)
  simp only at hb0 hvb ho
  obtain ⟨A, c, rfl⟩ := ownsRow_form ho
  obtain ⟨g, cur, rfl, hbg, hBk, hcur, hcell⟩ := own_pos ho (by omega)
  have hll : l.length = m := by have := ho.1; simpa using this
  have hgh : g < hi := hvb _ _ _ rfl
  refine ⟨g, c, l[k], rfl, hBk.lt, ?_, hBk.frozen k, fun u => ⟨h.bl.setCell (p := ⟨g, k, none⟩) (Nat.le_trans hb0 hbg) _, fun p hp => (h.blk p hp).far (p := ⟨g, k, none⟩) (Blk.ne_ (h.blk p hp) hBk (hL p hp)) _, fun r hr => ?_⟩⟩
  · rw [hBk.cell, hcell k hk, List.getElem?_map, List.getElem?_eq_getElem (by omega)]; rfl
  · obtain ⟨q1, q2, l', q3⟩ := h.row r hr
    refine ⟨q1, q2, ?_⟩
    rcases hR r hr with rfl | h1 | h1
    · refine ⟨l.set k u, ?_⟩
      have := own_put (k := k) ho (u8v u)
      rw [← List.map_set] at this
      exact this
    · exact ⟨l', ownsRow_setCell_below q3 (a := ⟨g, k, none⟩) (show g < r.1 by omega) _⟩
    · exact ⟨l', own_below2 q3 (below_put W _) (fun a n c' ev => by have := q2 a n c' ev; omega)⟩
theorem VBelow.mono {a b : Nat} {v : Value} (h : VBelow a v) (hab : a ≤ b) : VBelow b v := fun p n c e => Nat.lt_of_lt_of_le (h p n c e) hab

/-- Does the law end ahead of all calls? -/
def gateB (bl xl yl : Nat) (z : Int) : Bool :=
  decide (200 < bl) && decide (bl ≤ 65536) || decide (70000 < bl) || decide (200 < xl) && decide (xl ≤ 65536) || decide (70000 < xl) || decide (200 < yl) || decide (200 < z) && decide (z ≤ 65536)
theorem gate_false {bl xl yl : Nat} {z : Int} (h : gateB bl xl yl z = false) : (bl ≤ 200 ∨ 65536 < bl ∧ bl ≤ 70000) ∧ (xl ≤ 200 ∨ 65536 < xl ∧ xl ≤ 70000) ∧ yl ≤ 200 ∧ (z ≤ 200 ∨ 65536 < z) := by
  simp [gateB] at h
  omega
theorem cls (n : Nat) : n ≤ 200 ∨ (200 < n ∧ n ≤ 65536) ∨ (65536 < n ∧ n ≤ 70000) ∨ 70000 < n := by omega
theorem clz (z : Int) : z ≤ 200 ∨ (200 < z ∧ z ≤ 65536) ∨ 65536 < z := by omega
end Go.Proofs.YtlgahaidnpgnaaaDoor
