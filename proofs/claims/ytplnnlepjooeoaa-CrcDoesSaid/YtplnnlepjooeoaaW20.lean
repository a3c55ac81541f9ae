import Derived.Test.YtplnnlepjooeoaaW19
import Derived.OneCell
namespace Go.Proofs.Ytplnnlepjooeoaa
open Go.RowKit

/-- How many octets Open tells. -/
def cntO (l : List UInt8) : Nat := if l.length < 4 then 0 else if okO l (l.length - 4) then l.length - 4 else 0
/-- Open's error. -/
def erO (l : List UInt8) : Int := if l.length < 4 then 2 else if okO l (l.length - 4) then 0 else 7
/-- What Open tells. -/
def textO (l : List UInt8) : List UInt8 := l.take (cntO l)
theorem textO_len (l : List UInt8) : (textO l).length = cntO l := by
  unfold textO cntO
  rw [List.length_take]
  split
  · omega
  · split <;> omega

theorem open8_all (lo : Nat) (v : Value) (l : List UInt8) (w : World) (h : Bs lo w.heap.size w v l) (hL : l.length ≤ 900000) :
    Calls Try.prog 8 #[v] w fun e w' => ∃ A c, e = .returned (.tuple #[.slice A (textO l).length c, .int .i64 (erO l)]) ∧
      w'.ownsRow w.heap.size 5 1 (.slice A (textO l).length c) (textO l).length ((textO l).map u8v) ∧ Below w.heap.size w w' := by
  rcases Nat.lt_or_ge l.length 4 with h4 | h4
  · obtain ⟨A, c, rfl, _⟩ := h
    have e1 : erO l = 2 := by rw [erO, if_pos h4]
    have e2 : textO l = [] := by rw [textO, cntO, if_pos h4]; rfl
    refine (open_short A l.length c w h4).mono fun e w' hh => ?_
    obtain ⟨rfl, rfl⟩ := hh
    rw [e1, e2]
    exact ⟨none, 0, rfl, World.ownsRow_nil _ _ _ _, Below.refl _ _⟩
  · obtain ⟨m, hm⟩ : ∃ m, l.length = m + 4 := ⟨l.length - 4, by omega⟩
    have e0 : l.length - 4 = m := by omega
    have e1 : erO l = if okO l m then 0 else 7 := by rw [erO, if_neg (by omega), e0]
    have e3 : cntO l = if okO l m then m else 0 := by rw [cntO, if_neg (by omega), e0]
    have e2 : textO l = l.take (if okO l m then m else 0) := by rw [textO, e3]
    rw [textO_len, e1, e2, e3]
    refine (open_any lo m v l w h hm (by omega)).mono fun e w' hh => ?_
    obtain ⟨A, c, er, h1, rfl, h2, h3⟩ := hh
    exact ⟨A, c, h1, h2, h3⟩
theorem open9_all (lo : Nat) (v : Value) (l : List UInt8) (w : World) (h : Bs lo w.heap.size w v l) (hL : l.length ≤ 900000) :
    Calls Try.prog 9 #[v] w fun e w' => ∃ A c, e = .returned (.tuple #[.slice A (textO l).length c, .int .i64 (erO l)]) ∧
      w'.ownsRow w.heap.size 5 1 (.slice A (textO l).length c) (textO l).length ((textO l).map u8v) ∧ Below w.heap.size w w' := by
  rcases Nat.lt_or_ge l.length 4 with h4 | h4
  · obtain ⟨A, c, rfl, _⟩ := h
    have e1 : erO l = 2 := by rw [erO, if_pos h4]
    have e2 : textO l = [] := by rw [textO, cntO, if_pos h4]; rfl
    refine (ropen_short A l.length c w h4).mono fun e w' hh => ?_
    obtain ⟨rfl, rfl⟩ := hh
    rw [e1, e2]
    exact ⟨none, 0, rfl, World.ownsRow_nil _ _ _ _, Below.refl _ _⟩
  · obtain ⟨m, hm⟩ : ∃ m, l.length = m + 4 := ⟨l.length - 4, by omega⟩
    have e0 : l.length - 4 = m := by omega
    have e1 : erO l = if okO l m then 0 else 7 := by rw [erO, if_neg (by omega), e0]
    have e3 : cntO l = if okO l m then m else 0 := by rw [cntO, if_neg (by omega), e0]
    have e2 : textO l = l.take (if okO l m then m else 0) := by rw [textO, e3]
    rw [textO_len, e1, e2, e3]
    refine (ropen_any lo m v l w h hm (by omega)).mono fun e w' hh => ?_
    obtain ⟨A, c, er, h1, rfl, h2, h3⟩ := hh
    exact ⟨A, c, h1, h2, h3⟩

theorem n8_succ (y : UInt8) : IntKind.u8.wrap (n8 y + 1) = n8 (y + 1) := by
  unfold n8
  have h : (y + 1).toNat = (y.toNat + 1) % 256 := by simp [UInt8.toNat_add]
  rw [IntKind.wrap_u8', h]
  omega
theorem own_cell {w : World} {base g n c k : Nat} {l : List UInt8} (h : w.ownsRow base 5 1 (.slice (some ⟨g, 0, none⟩) n c) n (l.map u8v)) (hk : k < n) :
    w.cell? ⟨g, k, none⟩ = some (.int .u8 (n8 (l.getD k 0))) ∧ w.frozen? ⟨g, k, none⟩ = false ∧ base ≤ g ∧ l.length = n := by
  have hn : l.length = n := by have := ownsRow_len h; simpa using this
  obtain ⟨g', cur, e, hb, hB, _, hc⟩ := own_pos h (by omega)
  cases e
  refine ⟨(hB.cell k).trans ((hc k hk).trans ?_), hB.frozen k, hb, hn⟩
  rw [List.getElem?_map, List.getElem?_eq_getElem (show k < l.length by omega), List.getD_eq_getElem?_getD, List.getElem?_eq_getElem (show k < l.length by omega)]
  rfl
theorem own_inc {w : World} {base g n c k : Nat} {l : List UInt8} (h : w.ownsRow base 5 1 (.slice (some ⟨g, 0, none⟩) n c) n (l.map u8v)) (y : UInt8) :
    (w.setCell ⟨g, k, none⟩ (.int .u8 (n8 y))).ownsRow base 5 1 (.slice (some ⟨g, 0, none⟩) n c) n ((l.set k y).map u8v) := by
  have := own_put (k := k) h (.int .u8 (n8 y))
  rw [List.map_set]
  exact this
end Go.Proofs.Ytplnnlepjooeoaa
