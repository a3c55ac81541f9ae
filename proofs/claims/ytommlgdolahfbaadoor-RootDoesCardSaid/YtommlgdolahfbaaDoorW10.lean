import Derived.Test.YtommlgdolahfbaaDoorW6
import Derived.Test.YtommlgdolahfbaaDoorW2
import Derived.Lib.Bytes
namespace Go.Proofs.YtommlgdolahfbaaDoor
set_option maxRecDepth 100000
open Go.RowKit

theorem info5b : (Tryd.prog.info? 5).map (fun i => (i.zero, i.size, i.bytes)) = some (some (.int .u8 0), 1, 1) := by kernel_rfl

/-- What New answers. -/
def newD (n : Int) : Dk × Int := if 1 ≤ n ∧ n ≤ 8192 then (⟨List.replicate (n.toNat * 32) 0, [], -1⟩, 0) else (⟨[], [], 0⟩, 1)

set_option maxHeartbeats 1000000 in
theorem new_bad (n : Int) (w : World) (h : ¬ (1 ≤ n ∧ n ≤ 8192)) : Calls Tryd.prog 26 #[.int .i64 n] w fun e w' => e = .returned (.tuple #[.agg #[.slice none 0 0, .slice none 0 0, .int .i64 0], .int .i64 1]) ∧ Below w.heap.size w w' := by
  rcases (show n < 1 ∨ 1 ≤ n by omega) with h1 | h1
  · clear h
    go_enter Tryd.func26, Tryd.ntmps26
    go_wp2
    refine ret_disk2 rfl w.heap.size #[.slice none 0 0, .slice none 0 0, .int .i64 0] rfl (.int .i64 1) rfl rfl (Blk.new rfl) rfl ⟨rfl, ?_⟩
    (repeat (first | with_reducible exact Below.refl _ _ | with_reducible assumption | with_reducible refine Below.drew ?_ | with_reducible refine bl_alloc ?_ _ | with_reducible refine bl_call ?_ (by assumption) | (focus (with_reducible refine Below.setCell ?_ ?_ _; rotate_left; focus (first | omega | (simp <;> omega)))) | fail))
  · have h2 : 8192 < n := by omega
    clear h
    go_enter Tryd.func26, Tryd.ntmps26
    go_wp2
    refine ret_disk2 rfl w.heap.size #[.slice none 0 0, .slice none 0 0, .int .i64 0] rfl (.int .i64 1) rfl rfl (Blk.new rfl) rfl ⟨rfl, ?_⟩
    (repeat (first | with_reducible exact Below.refl _ _ | with_reducible assumption | with_reducible refine Below.drew ?_ | with_reducible refine bl_alloc ?_ _ | with_reducible refine bl_call ?_ (by assumption) | (focus (with_reducible refine Below.setCell ?_ ?_ _; rotate_left; focus (first | omega | (simp <;> omega)))) | fail))

set_option maxHeartbeats 1000000 in
theorem new_good (n : Nat) (w : World) (h1 : 1 ≤ n) (h2 : n ≤ 8192) : Calls Tryd.prog 26 #[.int .i64 n] w fun e w' => ∃ v', e = .returned (.tuple #[v', .int .i64 0]) ∧ Dsk w.heap.size w'.heap.size w' v' ⟨List.replicate (n * 32) 0, [], -1⟩ ∧ Below w.heap.size w w' := by
  obtain ⟨i1, hi1, hy0, hy1, hy2⟩ := info_parts info5b
  obtain ⟨Z, hZ⟩ : ∃ Z, Z = madeCells (Value.int .u8 0).cells (n * 32 * 1) := ⟨_, rfl⟩
  have hmk := run_mk (P := Tryd.prog) 28 5 i1 _ 1 Tryd.underlying28 hi1 hy0 hy1 (n * 32) (by rw [hy2]; omega) (by omega)
  rw [← hZ] at hmk
  simp only [Int.natCast_mul, Int.cast_ofNat_Int] at hmk
  replace hZ := hide hZ
  have i1 : (1 : Int) ≤ (n : Int) := by omega
  have i2 : (n : Int) ≤ 8192 := by omega
  go_enter Tryd.func26, Tryd.ntmps26
  go_wp2_with fail
  have G : Blk _ (w.heap.size + 1) 5 Z := Blk.new (w := w.alloc (.cells #[.slice (some ⟨w.heap.size + 1, 0, none⟩) (n * 32) (n * 32), .slice none 0 0, .int .i64 (-1)] 31)) (by simp)
  refine ret_disk2 rfl w.heap.size #[.slice (some ⟨w.heap.size + 1, 0, none⟩) (n * 32) (n * 32), .slice none 0 0, .int .i64 (-1)] rfl (.int .i64 0) rfl rfl ((Blk.new rfl).alloc _) rfl ⟨_, rfl, ?_, by (repeat (first | with_reducible exact Below.refl _ _ | with_reducible assumption | with_reducible refine Below.drew ?_ | with_reducible refine bl_alloc ?_ _ | with_reducible refine bl_call ?_ (by assumption) | (focus (with_reducible refine Below.setCell ?_ ?_ _; rotate_left; focus (first | omega | (simp <;> omega)))) | fail))⟩
  refine ⟨_, _, rfl, ⟨_, n * 32, by simp, by simp, by omega, fun _ => ⟨w.heap.size + 1, 0, rfl, by omega, G.lt, fun i hi => ?_⟩⟩, ⟨none, 0, rfl, by simp, by omega, fun h0 => by simp at h0, fun b off e => by cases e⟩⟩
  rw [Nat.zero_add, G.cell, unhide hZ]
  have hi' : i < n * 32 := by simpa using hi
  have hz : (madeCells (Value.int .u8 0).cells (n * 32 * 1)).toList = List.replicate (n * 32 * 1) (.int .u8 0) := toList_madeCells_one _ _
  rw [← Array.getElem?_toList, hz, List.getElem?_replicate, if_pos (by omega)]
  simp [u8v]

theorem new_any (n : Int) (w : World) : Calls Tryd.prog 26 #[.int .i64 n] w fun e w' => ∃ v' E, e = .returned (.tuple #[v', .int .i64 E]) ∧ Dsk w.heap.size w'.heap.size w' v' (newD n).1 ∧ E = (newD n).2 ∧ Below w.heap.size w w' := by
  by_cases h : 1 ≤ n ∧ n ≤ 8192
  · obtain ⟨m, rfl⟩ := Int.eq_ofNat_of_zero_le (show 0 ≤ n by omega)
    refine (new_good m w (by omega) (by omega)).mono ?_
    rintro e w' ⟨v', rfl, hd, hb⟩
    have : newD (m : Int) = (⟨List.replicate (m * 32) 0, [], -1⟩, 0) := by simp [newD]; omega
    exact ⟨v', 0, rfl, by rw [this]; exact hd, by rw [this], hb⟩
  · refine (new_bad n w h).mono ?_
    rintro e w' ⟨rfl, hb⟩
    have : newD n = (⟨[], [], 0⟩, 1) := by simp [newD, h]
    exact ⟨_, 1, rfl, by rw [this]; exact ⟨_, _, rfl, ⟨none, 0, rfl, by simp, by omega, fun h0 => by simp at h0⟩, ⟨none, 0, rfl, by simp, by omega, fun h0 => by simp at h0, fun b off e => by cases e⟩⟩, by rw [this], hb⟩

/-- The string of bytes. -/
def strU (l : List UInt8) : ByteArray := strOfNums (l.map fun x => (x.toNat : Int))

theorem Bs.convert {lo hi : Nat} {w : World} {v : Value} {l : List UInt8} (h : Bs lo hi w v l) : (convert 28 9 v).run Tryd.prog w = .ok (.string (strU l)) w := by
  obtain ⟨A, c, rfl, h1, h2, h3⟩ := h
  rcases Nat.eq_zero_or_pos l.length with h0 | h0
  · obtain rfl : l = [] := List.eq_nil_of_length_eq_zero h0
    rw [run_convert_bytes_string w 28 9 5 _ _ c Tryd.underlying28 Tryd.underlying5 Tryd.underlying9]
    cases A <;> simp [Conv.bytesToString, loadCells, loadCellsFrom, strU, strOfNums]
    all_goals rfl
  · obtain ⟨b, o, rfl, _, _, hc⟩ := h3 h0
    exact run_convert_bytes_arg (P := Tryd.prog) w 28 5 Tryd.underlying28 Tryd.underlying5 b o l.length c (l.map fun x => (x.toNat : Int)) (by simp) (fun i hi => by rw [hc i (by simpa using hi)]; simp [u8v, List.getD, List.getElem?_eq_getElem (show i < l.length by simpa using hi)]) 9 Tryd.underlying9

theorem strU_toList (l : List UInt8) : (strU l).toList = l := by
  have h := Lib.strOfNums_toList (l.map fun x => (x.toNat : Int))
  have e : Lib.bytesOf (l.map fun x => (x.toNat : Int)) = l := by
    unfold Lib.bytesOf
    rw [List.map_map]
    conv => rhs; rw [← List.map_id l]
    apply List.map_congr_left
    intro x _
    simp
  exact h.trans e

set_option maxHeartbeats 400000 in
theorem sameb_any (lo hi lo' hi' : Nat) (v1 v2 : Value) (a b : List UInt8) (w : World) (h1 : Bs lo hi w v1 a) (h2 : Bs lo' hi' w v2 b) : Calls Tryd.prog 19 #[v1, v2] w fun e w' => e = .returned (.bool (decide (a = b))) ∧ w = w' := by
  have c1 := h1.convert
  have c2 := h2.convert
  clear h1 h2
  have hs : ((strU a).toList == (strU b).toList) = decide (a = b) := by
    have e1 : (strU a).toList = a := strU_toList a
    have e2 : (strU b).toList = b := strU_toList b
    rw [e1, e2, Bool.eq_iff_iff]; simp
  go_enter Tryd.func19, Tryd.ntmps19
  go_wp2
  go_ret
  exact ⟨rfl, rfl⟩

end Go.Proofs.YtommlgdolahfbaaDoor
