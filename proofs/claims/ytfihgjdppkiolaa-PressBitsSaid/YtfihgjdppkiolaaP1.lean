import Derived.Test.YtfihgjdppkiolaaCG
import Derived.Test.YtfihgjdppkiolaaMC
import Derived.Test.YtfihgjdppkiolaaE2
namespace Go.Proofs.Ytfihgjdppkiolaa
set_option maxRecDepth 100000
open Go.RowKit

theorem octs_len (b : List UInt8) : (octs b).length = b.length := by simp [octs]
theorem octs_byc (b : List UInt8) : (octs b).flatMap byc = b.map M.u8v := by
  induction b with
  | nil => rfl
  | cons x r ih =>
    have e : (octs (x :: r)).flatMap byc = byc (x.toNat : Int) ++ (octs r).flatMap byc := by simp [octs]
    rw [e, ih]
    rfl
theorem octs_get (b : List UInt8) (i : Nat) (h : i < b.length) : (octs b)[i]'(by rw [octs_len]; exact h) = (b[i].toNat : Int) := by simp [octs]
theorem octs_inj {a b : List UInt8} (h : octs a = octs b) : a = b := by
  unfold octs at h
  exact List.map_inj_right (fun x y e => UInt8.toNat_inj.1 (by omega)) |>.1 h
/-- Bytes, read as numbers. -/
theorem os_of {lo hi : Nat} {w : World} {v : Value} {b : List UInt8} (h : M.Bs lo hi w v b) : Os lo hi w v (octs b) := by
  obtain ⟨A, c, rfl, h1, h2, h3⟩ := h
  refine ⟨A, c, by rw [octs_len], by rw [octs_len]; exact h1, h2, fun h0 => ?_⟩
  rw [octs_len] at h0
  obtain ⟨g, o, rfl, g1, g2, g3⟩ := h3 h0
  refine ⟨g, o, rfl, g1, g2, fun i hi j u hu => ?_⟩
  have hi' : i < b.length := by rw [octs_len] at hi; exact hi
  rw [octs_get b i hi'] at hu
  have hj : j = 0 := by
    have := (List.getElem?_eq_some_iff.1 hu).1
    simp [byc] at this; exact this
  subst hj
  simp [byc] at hu
  subst hu
  simpa [M.u8v, M.n8] using g3 i hi'
theorem bs_of {lo hi : Nat} {w : World} {v : Value} {b : List UInt8} (h : Os lo hi w v (octs b)) : M.Bs lo hi w v b := by
  obtain ⟨A, c, rfl, h1, h2, h3⟩ := h
  rw [octs_len] at h1
  refine ⟨A, c, by rw [octs_len], h1, h2, fun h0 => ?_⟩
  obtain ⟨g, o, rfl, g1, g2, g3⟩ := h3 (by rw [octs_len]; exact h0)
  refine ⟨g, o, rfl, g1, g2, fun i hi => ?_⟩
  have := g3 i (by rw [octs_len]; exact hi) 0 (M.u8v b[i]) (by rw [octs_get b i hi]; rfl)
  simpa using this
theorem own_octs {w : World} {base n : Nat} {v : Value} {b : List UInt8} (h : w.ownsRow base 5 1 v n (b.map M.u8v)) : w.ownsRow base 5 1 v n ((octs b).flatMap byc) := by rw [octs_byc]; exact h

/-! ### four octets of a number -/
def oct4 (n : Int) : Nat → Array Value
  | 0 => #[.int .u8 0, .int .u8 0, .int .u8 0, .int .u8 0]
  | 1 => #[.int .u8 (n % 256), .int .u8 0, .int .u8 0, .int .u8 0]
  | 2 => #[.int .u8 (n % 256), .int .u8 (n / 256 % 256), .int .u8 0, .int .u8 0]
  | 3 => #[.int .u8 (n % 256), .int .u8 (n / 256 % 256), .int .u8 (n / 65536 % 256), .int .u8 0]
  | _ => #[.int .u8 (n % 256), .int .u8 (n / 256 % 256), .int .u8 (n / 65536 % 256), .int .u8 (n / 16777216 % 256)]
theorem mk4 (W : World) : (Instr.makeSlice 23 (.int .i64 4) (.int .i64 4)).run Try.prog W = .ok (.slice (some ⟨W.heap.size, 0, none⟩) 4 4) (W.alloc (.cells (oct4 0 0) 5)) := by
  obtain ⟨i5, hi5, iz0, iz1, iz2⟩ := info5'
  have := run_mk (P := Try.prog) 23 5 i5 _ 1 Try.underlying23 hi5 iz0 iz1 4 (by rw [iz2]; omega) (by omega) W
  have hz : (madeCells (Value.int .u8 0).cells (4 * 1)).toList = List.replicate (4 * 1) (.int .u8 0) := toList_madeCells_one _ _
  have hz' : madeCells (Value.int .u8 0).cells (4 * 1) = oct4 0 0 := by rw [← Array.toArray_toList (xs := madeCells (Value.int .u8 0).cells (4 * 1)), hz]; rfl
  rw [hz'] at this
  exact this

theorem own_le4 {w : World} {base g : Nat} {n : Int} (h : Blk w g 5 (oct4 n 4)) (hb : base ≤ g) : w.ownsRow base 5 1 (.slice (some ⟨g, 0, none⟩) 4 4) 4 ((le4 n).flatMap byc) :=
  ⟨rfl, .inr ⟨g, 4, _, rfl, hb, h, Nat.le_refl _, by simp [maxLen], rfl, rfl⟩⟩

set_option maxHeartbeats 1000000 in
theorem octets_any (n : Int) (h0 : 0 ≤ n) (h : n < 4294967296) (w : World) :
    Calls Try.prog 27 #[.int .i64 n] w fun e w' => ∃ g, e = .returned (.slice (some ⟨g, 0, none⟩) 4 4) ∧ w'.ownsRow w.heap.size 5 1 (.slice (some ⟨g, 0, none⟩) 4 4) 4 ((le4 n).flatMap byc) ∧ Below w.heap.size w w' := by
  have hmk := mk4
  obtain ⟨g, hg⟩ : ∃ g, g = w.heap.size := ⟨_, rfl⟩
  go_enter Try.func27, Try.ntmps27
  go_wp2_with (first | fail)
  rw [← hg]
  clear hmk
  replace hg := hide hg
  go_loopw [6] (fun i wr => ∃ (k : Nat), k ≤ 4 ∧ i = .int .i64 k ∧ Hid (Below w.heap.size w wr) ∧ Hid (Blk wr g 5 (oct4 n k))) (fun i _ => 4 - (intOf i).toNat)
  case atStart => exact ⟨0, by omega, rfl, hide (by (repeat (first | with_reducible exact Below.refl _ _ | with_reducible assumption | with_reducible refine Below.drew ?_ | with_reducible refine bl_alloc ?_ _ | with_reducible refine bl_call ?_ (by assumption) | (focus (with_reducible refine Below.setCell ?_ ?_ _; rotate_left; focus (first | omega | (simp <;> omega)))) | fail))), hide (Blk.new (unhide hg))⟩
  case round =>
    obtain ⟨k, hk, rfl, hB, hK⟩ := hrel
    have kk := (unhide hK).lt
    rcases (show k = 0 ∨ k = 1 ∨ k = 2 ∨ k = 3 ∨ k = 4 by omega) with rfl | rfl | rfl | rfl | rfl
    · have q := (unhide hK).cell 0
      have f := (unhide hK).frozen 0
      simp [oct4] at q
      go_wp2_with fail
      go_roundw
      case rel => exact ⟨1, by omega, rfl, hide ((unhide hB).setCell (by rw [unhide hg]; exact Nat.le_refl _) _), hide ((unhide hK).set 0 _)⟩
      case measure => decide
    · have q := (unhide hK).cell 1
      have f := (unhide hK).frozen 1
      simp [oct4] at q
      go_wp2_with fail
      go_roundw
      case rel => exact ⟨2, by omega, rfl, hide ((unhide hB).setCell (by rw [unhide hg]; exact Nat.le_refl _) _), hide ((unhide hK).set 1 _)⟩
      case measure => decide
    · have q := (unhide hK).cell 2
      have f := (unhide hK).frozen 2
      simp [oct4] at q
      go_wp2_with fail
      go_roundw
      case rel => exact ⟨3, by omega, rfl, hide ((unhide hB).setCell (by rw [unhide hg]; exact Nat.le_refl _) _), hide ((unhide hK).set 2 _)⟩
      case measure => decide
    · have q := (unhide hK).cell 3
      have f := (unhide hK).frozen 3
      simp [oct4] at q
      go_wp2_with fail
      go_roundw
      case rel => exact ⟨4, by omega, rfl, hide ((unhide hB).setCell (by rw [unhide hg]; exact Nat.le_refl _) _), hide (by rw [show oct4 n (3 + 1) = (oct4 n 3).setIfInBounds 3 (.int .u8 (n / 16777216)) from by simp [oct4]; omega]; exact (unhide hK).set 3 _)⟩
      case measure => decide
    · go_wp2_with fail
      go_ret
      exact ⟨_, rfl, own_le4 (unhide hK) (by rw [unhide hg]; exact Nat.le_refl _), unhide hB⟩
end Go.Proofs.Ytfihgjdppkiolaa
