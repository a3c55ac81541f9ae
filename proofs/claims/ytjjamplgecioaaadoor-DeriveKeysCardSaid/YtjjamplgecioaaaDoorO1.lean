import Derived.Test.YtjjamplgecioaaaDoorG7
import Derived.Test.YtjjamplgecioaaaDoorRows
import Derived.Test.YtjjamplgecioaaaDoorCards
import Derived.Test.YtjjamplgecioaaaDoorTie
import Derived.ProofKit
import Derived.OpenShut
import Derived.ChangeOld
import Derived.ChangeSame
import Derived.Below
import Derived.Deep.Slices
import Derived.Deep.Fields
import Derived.Lib.SmallJoins
import Derived.LaidMore
import Derived.Stop.Joined
import Derived.SevenTiedAt
import Derived.SizedLaws
namespace Go.Proofs.YtjjamplgecioaaaDoor
open Go.RowKit Go.ChangeShapes Go.WideShapes Go.ChangeAt Go.Deep Go.Joins

section
variable {H : Type} {enc : TypeId × Value → H} {P : Program} {w : World} {base : Nat} {spare : Nat → Bool} {held : Bool}
/-- A cell's number as a byte. -/
theorem u8v_of {z : Int} (h : (Lit.int .u8 z).wf = true) : Value.int .u8 z = u8v (UInt8.ofNat z.toNat) := by
  have hz : 0 ≤ z ∧ z < 256 := by
    have e : IntKind.u8.min ≤ z ∧ z ≤ IntKind.u8.max := by simpa [Lit.wf] using h
    have e1 : IntKind.u8.min = 0 := by decide
    have e2 : IntKind.u8.max = 255 := by decide
    omega
  have : n8 (UInt8.ofNat z.toNat) = z := by
    unfold n8
    rw [UInt8.toNat_ofNat']
    omega
  show Value.int .u8 z = .int .u8 (n8 _)
  rw [this]
theorem spot_none {w : World} {a : Addr} {u : Value} (h : w.cell? (a.add 0) = some u) : a.spot = none := by
  have h1 := World.cell?_spot h
  unfold Addr.add at h1
  simpa using h1

/-- What came in as a slice of bytes reads as bytes. -/
theorem open_bs {t e : TypeId} {fuel : Nat} {cs : List Value} {x : DataW H × List MemPlace} (ht : P.underlying t = some (.slice e)) (he : P.underlying e = some (.int .u8)) (hc : P.cellsOf e = 1)
    (h : DataW.trod enc P w base spare held fuel t cs = some x) : ∃ A c l, cs = [.slice A l.length c] ∧ Bs 0 w.heap.size w (.slice A l.length c) l := by
  rcases open_ints ht he hc h with ⟨rfl, _⟩ | ⟨a, len, cap, zs, rfl, _, hl, hm, hz, _, hcell, hwz⟩
  · exact ⟨none, 0, [], rfl, none, 0, rfl, by simp, by omega, fun h0 => absurd h0 (by simp)⟩
  · have hzl : len ≤ zs.length := by rw [hz]; split <;> omega
    have hll : ((zs.take len).map fun z => UInt8.ofNat z.toNat).length = len := by simp [hzl]
    unfold maxLen at hm
    refine ⟨some a, cap, (zs.take len).map fun z => UInt8.ofNat z.toNat, by rw [hll], some a, cap, rfl, by omega, by omega, fun h0 => ?_⟩
    obtain ⟨b, off, spot⟩ := a
    have hc0 := hcell 0 (by omega)
    obtain rfl : spot = none := spot_none hc0
    have hb := World.block_lt_of_cell? w _ hc0
    rw [add_none] at hb
    refine ⟨b, off, rfl, Nat.zero_le _, hb, fun i hi => ?_⟩
    have hi' : i < zs.length := by omega
    have hci := hcell i hi'
    have hw := hwz zs[i] (List.getElem_mem _)
    have hg : zs.getD i 0 = zs[i] := by simp [List.getD_eq_getElem?_getD, hi']
    rw [hg, u8v_of hw, add_none] at hci
    rw [hci]
    simp

/-- A cell's number as a register. -/
theorem u32v_of {z : Int} (h : (Lit.int .u32 z).wf = true) : Value.int .u32 z = u32v (BitVec.ofInt 32 z) := by
  have hz : 0 ≤ z ∧ z < 4294967296 := by
    have e : IntKind.u32.min ≤ z ∧ z ≤ IntKind.u32.max := by simpa [Lit.wf] using h
    have e1 : IntKind.u32.min = 0 := by decide
    have e2 : IntKind.u32.max = 4294967295 := by decide
    omega
  obtain ⟨n, rfl⟩ := Int.eq_ofNat_of_zero_le hz.1
  rw [BitVec.ofInt_natCast, n32_lit n (by omega)]

/-- A parameter that is a slice of bytes. -/
theorem open_bytes {r : Reach} {b0 : Nat} {v : Value} {d : DataW H} {p : List MemPlace} {t e : TypeId} (ht : P.underlying t = some (.slice e)) (he : P.underlying e = some (.int .u8)) (hc : P.cellsOf e = 1)
    (hv : Value.okWide P w r b0 t v) (h : DataW.Trod enc P w base spare held t v d p) : ∃ l, Bs 0 w.heap.size w v l := by
  obtain ⟨a1, n1, c1, rfl⟩ := okWide_slice ht hv
  obtain ⟨fuel, hf⟩ := h
  obtain ⟨A, c, l, hcs, hb⟩ := open_bs ht he hc hf
  have e : Value.slice a1 n1 c1 = .slice A l.length c := by simpa [Value.cells] using hcs
  rw [e]
  exact ⟨l, hb⟩

/-- A parameter that is a slice of bytes, and how many its reading has. -/
theorem open_bytesW {r : Reach} {b0 : Nat} {v : Value} {d : DataW H} {p : List MemPlace} {t e : TypeId} (ht : P.underlying t = some (.slice e)) (he : P.underlying e = some (.int .u8)) (hc : P.cellsOf e = 1)
    (hv : Value.okWide P w r b0 t v) (h : DataW.Trod enc P w base spare held t v d p) : ∃ l, Bs 0 w.heap.size w v l ∧ (l = [] ∨ ∃ es sp, d = .slice es sp ∧ es.length = l.length) := by
  obtain ⟨a1, n1, c1, rfl⟩ := okWide_slice ht hv
  obtain ⟨fuel, hf⟩ := h
  obtain ⟨A, c, l, hcs, hb⟩ := open_bs ht he hc hf
  have e : Value.slice a1 n1 c1 = .slice A l.length c := by simpa [Value.cells] using hcs
  rw [e]
  refine ⟨l, hb, ?_⟩
  rcases open_ints ht he hc hf with ⟨h0, _⟩ | ⟨a, len, cap, zs, h0, _, hl, _, hz, hx, _⟩
  · rw [hcs] at h0
    simp at h0
    exact .inl h0.2.1
  · rw [hcs] at h0
    simp at h0
    have hzl : len ≤ zs.length := by rw [hz]; split <;> omega
    refine .inr ⟨_, _, (Prod.mk.inj hx).1, ?_⟩
    rw [h0.2.1]
    simp [lits, hzl]
theorem sized_bytes {ts : List TypeId} {ds : List (DataW H)} (hz : (DataW.weightsEach P ts ds).all (· ≤ reachBytes) = true) {j : Nat} {t e : TypeId} {d : DataW H} {l : List UInt8} (hj : ts[j]? = some t) (hd : ds[j]? = some d) (hu : P.underlying t = some (.slice e)) (hb : P.bytesOf e = 1)
    (h : l = [] ∨ ∃ es sp, d = .slice es sp ∧ es.length = l.length) : l.length ≤ 140737488355328 := by
  rcases h with rfl | ⟨es, sp, rfl, he⟩
  · simp
  · have := sized_slice hz hj hd hu
    have h2 := reachBytes_lt
    rw [hb] at this
    omega
theorem okWide_array {t e : TypeId} {n : Nat} {r : Reach} {b0 : Nat} {v : Value} (ht : P.underlying t = some (.array n e)) (h : Value.okWide P w r b0 t v) : ∃ cs, v = .agg cs ∧ cs.size = P.cellsOf t := by
  simp only [Value.okWide, ht] at h
  obtain ⟨cs, h1, h2, _⟩ := h
  exact ⟨cs, h1, h2⟩
/-- A parameter that is a state. -/
theorem open_state {r : Reach} {b0 : Nat} {v : Value} {d : DataW H} {p : List MemPlace} {t e : TypeId} (ht : P.underlying t = some (.array 4 e)) (he : P.underlying e = some (.int .u32)) (hc : P.cellsOf e = 1) (hct : P.cellsOf t = 4)
    (hv : Value.okWide P w r b0 t v) (h : DataW.Trod enc P w base spare held t v d p) : ∃ s, v = stV s := by
  obtain ⟨cs, rfl, hsz⟩ := okWide_array ht hv
  rw [hct] at hsz
  obtain ⟨fuel, hf⟩ := h
  obtain ⟨xs, m, rfl, hx, hlen, hn, hel⟩ := DataW.trod_array ht hf
  rw [hc] at hel
  have key : ∀ i, i < 4 → ∃ x : Reg, (Value.agg cs).cells.toList[i]? = some (u32v x) := by
    intro i hi
    have hxi : i < xs.length := by omega
    have h1 := hel i hi
    rw [Nat.mul_one, List.getElem?_eq_getElem hxi] at h1
    obtain ⟨k, e1, e2, hw⟩ := DataW.trod_int he h1
    refine ⟨BitVec.ofInt 32 k, ?_⟩
    have h4 : (((Value.agg cs).cells.toList.drop i).take 1)[0]? = some (Value.int .u32 k) := by rw [e1]; rfl
    rw [List.getElem?_take, if_pos (by omega), List.getElem?_drop, Nat.add_zero] at h4
    rw [h4, u32v_of hw]
  obtain ⟨x0, k0⟩ := key 0 (by omega)
  obtain ⟨x1, k1⟩ := key 1 (by omega)
  obtain ⟨x2, k2⟩ := key 2 (by omega)
  obtain ⟨x3, k3⟩ := key 3 (by omega)
  have hcs : (Value.agg cs).cells = cs := rfl
  rw [hcs] at k0 k1 k2 k3
  refine ⟨⟨x0, x1, x2, x3⟩, ?_⟩
  congr 1
  apply Array.ext
  · rw [hsz]; rfl
  · intro i h1 h2
    have hi : i < 4 := by omega
    rw [Array.getElem?_toList] at k0 k1 k2 k3
    match i, hi with
    | 0, _ => rw [Array.getElem?_eq_getElem h1] at k0; exact Option.some.inj k0
    | 1, _ => rw [Array.getElem?_eq_getElem h1] at k1; exact Option.some.inj k1
    | 2, _ => rw [Array.getElem?_eq_getElem h1] at k2; exact Option.some.inj k2
    | 3, _ => rw [Array.getElem?_eq_getElem h1] at k3; exact Option.some.inj k3
end
theorem own : ownKnob Tryd.prog.godebug = none := by kernel_rfl
theorem laidOut : laidOutB Tryd.prog = true := by kernel_rfl
theorem cells5 : Tryd.prog.cellsOf 5 = 1 := by kernel_rfl
theorem cells22 : Tryd.prog.cellsOf 22 = 1 := by kernel_rfl
theorem cells24 : Tryd.prog.cellsOf 24 = 4 := by kernel_rfl
theorem bytes5 : Tryd.prog.bytesOf 5 = 1 := by kernel_rfl
theorem cells3 : Tryd.prog.cellsOf 3 = 1 := by kernel_rfl
theorem gTab : Tryd.prog.globalNamed "tansy/perm.turns" = some 0 := by kernel_rfl
theorem tTab : (Tryd.prog.globals[0]?).map (·.type) = some 48 := by kernel_rfl
/-- What the row lists. -/
def laidL : List (String × DataW Unit) := [("tansy/perm.turns", Rows.laid_tansy_perm_turns)]

theorem door_met (os : Os) (args : Array Value) : laidMetH Tryd.prog laidL ((World.doorLaid Tryd.prog 14 os).forCall (fun _ _ => 0) ⟨#[], args, []⟩).memory :=
  laidMetH_of_parts3 (fuel := 8) (laidMet_of_run' 8 (by kernel_rfl) (by kernel_rfl)) (by kernel_rfl) (by kernel_rfl)

theorem tab_of_laid {W : World} (h : laidMetH Tryd.prog laidL W) : Tab W := by
  rw [MakeChecks.laidMetH_plain _ _ _ (by kernel_rfl)] at h
  obtain ⟨ps, ⟨g0, t0, cs0, f0, p0, q0, hg0, ht0, hv0, hd0, _, _⟩, _, _⟩ := h
  obtain rfl := Option.some.inj (gTab.symm.trans hg0)
  obtain rfl := Option.some.inj (tTab.symm.trans ht0)
  obtain ⟨xs, m1, rfl, hx1, hlen, hn3, hel⟩ := DataW.trod_array Tryd.underlying48 hd0
  simp only [Prod.mk.injEq] at hx1
  have c3 := cells3
  let L : List Int := [16, 12, 8, 7]
  have hlist : (Rows.laid_tansy_perm_turns : DataW Unit) = .agg (L.map fun n : Int => DataW.lit (Lit.int .i64 n)) := by rfl
  have hx := hlist.symm.trans hx1.1
  injection hx with hx
  have key : ∀ i (hi : i < 4), W.cell? ⟨0, i, none⟩ = some (.int .i64 (L[i]'hi)) := by
    intro i hi
    have hxi : i < xs.length := by omega
    have h1 := hel i hi
    rw [c3, Nat.mul_one, List.getElem?_eq_getElem hxi] at h1
    obtain ⟨k, e1, e2, _⟩ := DataW.trod_int Tryd.underlying3 h1
    have htl : i < L.length := hi
    have h2 : (xs.map (·.1))[i]? = some (DataW.lit (Lit.int .i64 (L[i]'hi))) := by
      rw [← hx, List.getElem?_map, List.getElem?_eq_getElem htl]
      rfl
    rw [List.getElem?_map, List.getElem?_eq_getElem hxi, e2] at h2
    have hk : k = L[i]'hi := by simpa using h2
    have hv := World.var?_cell hg0 hv0 i
    rw [hv]
    have h3 : cs0.toList[i]? = some (.int .i64 k) := by
      have h4 : ((cs0.toList.drop i).take 1)[0]? = some (Value.int .i64 k) := by rw [e1]; rfl
      rw [List.getElem?_take, if_pos (by omega), List.getElem?_drop, Nat.add_zero] at h4
      exact h4
    rw [Array.getElem?_toList] at h3
    rw [h3, hk]
  have k0 := key 0 (by omega)
  exact ⟨World.block_lt_of_cell? W _ k0, k0, key 1 (by omega), key 2 (by omega), key 3 (by omega)⟩
end Go.Proofs.YtjjamplgecioaaaDoor
