import Derived.Test.YtommlgdolahfbaaDoorR42
import Derived.Test.YtommlgdolahfbaaDoorR41
namespace Go.Proofs.YtommlgdolahfbaaDoor
set_option maxRecDepth 100000
open Go.RowKit

theorem bit_walk2 (m : UInt8) (k : Nat) : (((m.toNat : Int) / 2 ^ k).tmod 2 == 1) = bitOf m k := by
  have e1 : ((m.toNat : Int) / 2 ^ k) = ((m.toNat / 2 ^ k : Nat) : Int) := by simp
  rw [e1]
  unfold bitOf
  generalize m.toNat / 2 ^ k = q
  rw [Bool.eq_iff_iff, Int.tmod_eq_emod_of_nonneg (by omega)]
  simp
  omega
theorem crAt_min (dry : List UInt8) (wet : List Pg) (ms : List UInt8) : crAt dry wet ms wet.length = crAt dry wet ms (min wet.length ms.length) := by
  rcases Nat.le_total wet.length ms.length with h | h
  · rw [Nat.min_eq_left h]
  · rw [Nat.min_eq_right h]
    have : ∀ j, ms.length ≤ j → crAt dry wet ms j = crAt dry wet ms ms.length := by
      intro j hj
      induction j with
      | zero => rw [Nat.le_zero.1 hj]
      | succ j ih =>
        rcases Nat.lt_or_ge j ms.length with h1 | h1
        · rw [show j + 1 = ms.length by omega]
        · rw [← ih h1]
          simp only [crAt, List.getElem?_eq_none h1]
          cases wet[j]? <;> rfl
    exact this _ h
theorem crAt_past {dry : List UInt8} {wet : List Pg} {ms : List UInt8} {k : Nat} (h : ms.length ≤ k) : crAt dry wet ms (k + 1) = crAt dry wet ms k := by
  simp only [crAt, List.getElem?_eq_none h]
  cases wet[k]? <;> rfl
theorem Only.refl (g : Nat) (w : World) : Only g w w := ⟨rfl, rfl, rfl, rfl, fun _ _ => rfl⟩
theorem Only.trans {g : Nat} {a b c : World} (h : Only g a b) (k : Only g b c) : Only g a c := ⟨k.os.trans h.os, k.tape.trans h.tape, k.output.trans h.output, k.size.trans h.size, fun j hj => (k.block j hj).trans (h.block j hj)⟩
theorem Only.drew {g : Nat} {a b : World} (h : Only g a b) : Only g a.drew b := ⟨h.os, h.tape, h.output, h.size, h.block⟩


theorem elem22 : Tryd.prog.underlying 28 = some (.slice (Tryd.prog.elem 28)) := by kernel_rfl
theorem size5e : ∀ W, (sizeOf (Tryd.prog.elem 28)).run Tryd.prog W = .ok 1 W := fun W => by kernel_rfl
theorem addk (g o k : Nat) : (⟨g, o, none⟩ : Addr).add k = ⟨g, o + k, none⟩ := by
  unfold Addr.add
  split
  · rename_i h; subst h; rfl
  · rfl
theorem dslice_l (g n c i : Nat) (hi : i ≤ n) (hc : c ≠ i) (W : World) :
    (Instr.slice 28 (.slice (some ⟨g, 0, none⟩) n c) (some (.int .i64 (i : Int))) none none).run Tryd.prog W = .ok (.slice (some ⟨g, i, none⟩) (n - i) (c - i)) W := by
  rw [run_slice_l (P := Tryd.prog) W 28 (some ⟨g, 0, none⟩) n c elem22 .i64 i (by omega) (by omega), size5e]
  simp only [Result.andThen, sliced, Int.toNat_natCast]
  rw [if_neg hc]
  simp only [Option.map_some, Nat.mul_one, addk, Nat.zero_add]
theorem dslice_lh (g o n c i j : Nat) (hij : i ≤ j) (hj : j ≤ c) (hc : c ≠ i) (W : World) :
    (Instr.slice 28 (.slice (some ⟨g, o, none⟩) n c) (some (.int .i64 (i : Int))) (some (.int .i64 (j : Int))) none).run Tryd.prog W = .ok (.slice (some ⟨g, o + i, none⟩) (j - i) (c - i)) W := by
  rw [run_slice_lh (P := Tryd.prog) W 28 (some ⟨g, o, none⟩) n c elem22 .i64 .i64 i j (by omega) (by omega) (by omega), size5e]
  simp only [Result.andThen, sliced, Int.toNat_natCast]
  rw [if_neg hc]
  simp only [Option.map_some, Nat.mul_one, addk]

end Go.Proofs.YtommlgdolahfbaaDoor
