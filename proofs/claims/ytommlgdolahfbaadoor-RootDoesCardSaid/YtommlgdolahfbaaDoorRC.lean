import Derived.Test.YtommlgdolahfbaaDoorRBb
namespace Go.Proofs.YtommlgdolahfbaaDoor
set_option maxRecDepth 100000
open Go.RowKit

/-! ### a sector's cells, by places -/
def contV (c : Nat → UInt8) : List Value := (List.range 32).map fun p => u8v (c p)
def cont (c : Nat → UInt8) : Array Value := (contV c).toArray
theorem cont_get (c : Nat → UInt8) {p : Nat} (h : p < 32) : (cont c)[p]? = some (u8v (c p)) := by simp [cont, contV, h]
theorem cont_size (c : Nat → UInt8) : (cont c).size = 32 := by simp [cont, contV]
theorem cont_congr {c c' : Nat → UInt8} (h : ∀ p, p < 32 → c p = c' p) : cont c = cont c' := by
  unfold cont contV
  congr 1
  exact List.map_congr_left fun p hp => by rw [h p (List.mem_range.1 hp)]
theorem cont_set (c c' : Nat → UInt8) (p : Nat) (x : UInt8) (_hp : p < 32) (hx : c' p = x) (h : ∀ q, q < 32 → q ≠ p → c' q = c q) : (cont c).setIfInBounds p (u8v x) = cont c' := by
  apply Array.ext
  · rw [Array.size_setIfInBounds, cont_size, cont_size]
  · intro i h1 h2
    have hi : i < 32 := by rw [cont_size] at h2; exact h2
    rw [Array.getElem_setIfInBounds (by rw [cont_size]; exact hi)]
    have e2 := cont_get c' hi
    have e1 := cont_get c hi
    rw [Array.getElem?_eq_getElem h2] at e2
    rw [Array.getElem?_eq_getElem (by rw [cont_size]; exact hi)] at e1
    injection e2 with e2
    injection e1 with e1
    rw [e2]
    split
    · rename_i hh; subst hh; rw [hx]
    · rename_i hh; rw [e1, h i hi (fun e => hh e.symm)]
/-- Stamps of the first k groups. -/
def stF (x : UInt8) (k p : Nat) : UInt8 := if p % 4 = 0 ∧ p < 4 * k then x else 0
/-- Stamps, and the first i octets that are told. -/
def ocF (r : Rt) (i p : Nat) : UInt8 := if p % 4 = 0 then oct r.gen 0 else if p / 4 * 3 + p % 4 - 1 < i then told r (p / 4 * 3 + p % 4 - 1) else 0
theorem st_zero (x : UInt8) : cont (stF x 0) = (List.replicate 32 (Value.int .u8 0)).toArray := by
  have : cont (stF x 0) = cont (fun _ => 0) := cont_congr fun p _ => by unfold stF; rw [if_neg (by omega)]
  rw [this]; rfl
theorem st_succ (x : UInt8) {k : Nat} (h : k < 8) : (cont (stF x k)).setIfInBounds (k * 4) (u8v x) = cont (stF x (k + 1)) :=
  cont_set _ _ _ _ (by omega) (by unfold stF; rw [if_pos (by omega)]) fun q _ hq => by
    unfold stF
    by_cases h4 : q % 4 = 0 ∧ q < 4 * k
    · rw [if_pos h4, if_pos (by omega)]
    · rw [if_neg h4, if_neg (by omega)]
theorem st_full (r : Rt) : cont (stF (oct r.gen 0) 8) = cont (ocF r 0) := cont_congr fun p hp => by
  unfold stF ocF
  by_cases h4 : p % 4 = 0
  · rw [if_pos (by omega), if_pos h4]
  · rw [if_neg (by omega), if_neg h4, if_neg (by omega)]
theorem oc_succ (r : Rt) {i : Nat} (h : i < 24) : (cont (ocF r i)).setIfInBounds (place i) (u8v (told r i)) = cont (ocF r (i + 1)) :=
  cont_set _ _ _ _ (place_lt h) (by unfold ocF; rw [if_neg (place_mod i), place_back, if_pos (by omega)]) fun q _ hq => by
    unfold ocF
    by_cases h4 : q % 4 = 0
    · rw [if_pos h4, if_pos h4]
    · rw [if_neg h4, if_neg h4]
      have : q / 4 * 3 + q % 4 - 1 ≠ i := fun e => hq (by rw [← e, place_of h4])
      by_cases hlt : q / 4 * 3 + q % 4 - 1 < i
      · rw [if_pos hlt, if_pos (by omega)]
      · rw [if_neg hlt, if_neg (by omega)]
theorem oc_full (r : Rt) : cont (ocF r 24) = ((octs r).map u8v).toArray := by
  have h : cont (ocF r 24) = cont (octP r) := cont_congr fun p hp => by
    unfold ocF octP
    by_cases h4 : p % 4 = 0
    · rw [if_pos h4, if_pos h4]
    · rw [if_neg h4, if_neg h4, if_pos (by omega)]
  rw [h]
  unfold cont contV octs
  rw [List.map_map]
  rfl
/-- The table of how wide numbers are. -/
def Tab (w : World) : Prop := 0 < w.heap.size ∧ ∀ k, k < 7 → w.cell? ⟨0, k, none⟩ = some (.int .i64 (wd k : Nat))
theorem Tab.below {w w' : World} {B : Nat} (h : Tab w) (hb : Below B w w') (hB : w.heap.size ≤ B) : Tab w' :=
  ⟨Nat.lt_of_lt_of_le h.1 hb.size, fun k hk => (hb.cell (p := ⟨0, k, none⟩) (Nat.lt_of_lt_of_le h.1 hB)).trans (h.2 k hk)⟩
theorem numV_at (f : Nat → Nat) {k : Nat} (h : k < 7) (W : World) : (Instr.index 59 (numV f) (.int .i64 (k : Nat))).run Tryd.prog W = .ok (.int .u64 (f k : Nat)) W := by
  match k, h with
  | 0, _ => rfl
  | 1, _ => rfl
  | 2, _ => rfl
  | 3, _ => rfl
  | 4, _ => rfl
  | 5, _ => rfl
  | 6, _ => rfl
end Go.Proofs.YtommlgdolahfbaaDoor
