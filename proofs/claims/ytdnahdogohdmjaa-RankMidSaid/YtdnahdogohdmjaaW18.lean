import Derived.Test.YtdnahdogohdmjaaW17
namespace Go.Proofs.Ytdnahdogohdmjaa
open Go.RowKit
set_option maxRecDepth 100000

def fLe (a b : Nat) : Bool := fLt a b || fEq a b
theorem m_le (a b : Nat) : (fLt a b || fEq a b) = fLe a b := rfl
theorem le_iff {a b : Nat} (na : nanB a = false) (nb : nanB b = false) : fLe a b = true ↔ sr a ≤ sr b := by
  unfold fLe
  rw [Bool.or_eq_true, lt_iff, eq_iff, na, nb]
  simp only [true_and]
  omega
def minF (a b : Nat) : Nat := if fLt a b then a else if fLt b a then b else if sgn a then a else b
def maxF (a b : Nat) : Nat := if fLt a b then b else if fLt b a then a else if sgn a then b else a
theorem decode_neg (a : Nat) (h : nanB a = false) : (FloatKind.f64.decode a).neg = sgn a := by
  have h1 := nan_iff'.1 h
  change (Ieee.double.read a).neg = _
  rcases Nat.lt_or_ge (rng a) infR with h2 | h2
  · rw [read_num h2]; rfl
  · rw [read_inf (by simp only [infR] at *; omega)]; rfl
theorem ord_of (a b : Nat) (na : nanB a = false) (nb : nanB b = false) : FloatKind.f64.format.order a b = some (if fLt a b then .lt else if fLt b a then .gt else .eq) := by
  rcases ord_cases a b with ⟨_, _, h⟩ | ⟨h, _⟩
  · change Ieee.double.order a b = _
    rw [h, cmp_int]
    unfold fLt
    rw [na, nb]
    by_cases h1 : sr a < sr b
    · simp [h1]
    · by_cases h2 : sr b < sr a <;> simp [h1, h2]
  · rcases h with h | h
    · rw [na] at h; cases h
    · rw [nb] at h; cases h
theorem run_min_f {P : Program} (ts : Array TypeId) (t : TypeId) (a b : Nat) (na : nanB a = false) (nb : nanB b = false) (W : World) : (Builtin.min_ ts t #[.float .f64 a, .float .f64 b]).run P W = .ok (.float .f64 (minF a b)) W := by
  have ho := ord_of a b na nb
  have hn := decode_neg a na
  unfold minF
  simp only [Builtin.min_, List.foldlM_cons, List.foldlM_nil, Builtin.min2]
  rw [ho]
  by_cases h1 : fLt a b = true
  · simp [h1]
  · by_cases h2 : fLt b a = true
    · simp [h1, h2]
    · simp [h1, h2, hn]
theorem run_max_f {P : Program} (ts : Array TypeId) (t : TypeId) (a b : Nat) (na : nanB a = false) (nb : nanB b = false) (W : World) : (Builtin.max_ ts t #[.float .f64 a, .float .f64 b]).run P W = .ok (.float .f64 (maxF a b)) W := by
  have ho := ord_of a b na nb
  have hn := decode_neg a na
  unfold maxF
  simp only [Builtin.max_, List.foldlM_cons, List.foldlM_nil, Builtin.max2]
  rw [ho]
  by_cases h1 : fLt a b = true
  · simp [h1]
  · by_cases h2 : fLt b a = true
    · simp [h1, h2]
    · simp [h1, h2, hn]
theorem min_max {a b : Nat} (na : nanB a = false) (nb : nanB b = false) : nanB (minF a b) = false ∧ nanB (maxF a b) = false ∧ (sr a ≤ sr b → sr (minF a b) = sr a ∧ sr (maxF a b) = sr b) ∧ (sr b ≤ sr a → sr (minF a b) = sr b ∧ sr (maxF a b) = sr a) := by
  have h1 : fLt a b = true ↔ sr a < sr b := by rw [lt_iff, na, nb]; simp
  have h2 : fLt b a = true ↔ sr b < sr a := by rw [lt_iff, na, nb]; simp
  unfold minF maxF
  by_cases q1 : fLt a b = true
  · rw [if_pos q1, if_pos q1]
    have := h1.1 q1
    exact ⟨na, nb, fun _ => ⟨rfl, rfl⟩, fun _ => by omega⟩
  · rw [if_neg q1, if_neg q1]
    have q1' := fun h => q1 (h1.2 h)
    by_cases q2 : fLt b a = true
    · rw [if_pos q2, if_pos q2]
      have := h2.1 q2
      exact ⟨nb, na, fun _ => by omega, fun _ => ⟨rfl, rfl⟩⟩
    · rw [if_neg q2, if_neg q2]
      have q2' := fun h => q2 (h2.2 h)
      have e : sr a = sr b := Int.le_antisymm (Int.not_lt.1 q2') (Int.not_lt.1 q1')
      split
      · exact ⟨na, nb, fun _ => ⟨rfl, rfl⟩, fun _ => ⟨e, e.symm⟩⟩
      · exact ⟨nb, na, fun _ => ⟨e.symm, e⟩, fun _ => ⟨rfl, rfl⟩⟩
/-- A middle of what is 0, or not too small, of which one at most is an infinity. -/
theorem mid_bet {a b : Nat} (ha : a < 18446744073709551616) (hb : b < 18446744073709551616) (na : nanB a = false) (nb : nanB b = false) (hi : ¬ (rng a = infR ∧ rng b = infR)) (sa : rng a = 0 ∨ 103582791429521408 ≤ rng a) (sb : rng b = 0 ∨ 103582791429521408 ≤ rng b) :
    fLe (minF a b) (midF a b) = true ∧ fLe (midF a b) (maxF a b) = true := by
  obtain ⟨n1, n2, n3, n4⟩ := min_max na nb
  have la := nan_iff'.1 na
  have lb := nan_iff'.1 nb
  have key : nanB (midF a b) = false ∧ (sr a ≤ sr b → sr a ≤ sr (midF a b) ∧ sr (midF a b) ≤ sr b) ∧ (sr b ≤ sr a → sr b ≤ sr (midF a b) ∧ sr (midF a b) ≤ sr a) := by
    rcases mid_ref ha hb with ⟨h, _⟩ | ⟨_, _, ⟨i1, i2, _⟩ | ⟨i1, i2, e⟩ | ⟨i1, i2, e⟩ | ⟨i1, i2, _⟩⟩
    · rw [na, nb] at h; rcases h with h | h <;> cases h
    · exact absurd ⟨i1, i2⟩ hi
    · rw [e]; exact ⟨na, fun h => ⟨Int.le_refl _, h⟩, fun h => ⟨h, Int.le_refl _⟩⟩
    · rw [e]; exact ⟨nb, fun h => ⟨h, Int.le_refl _⟩, fun h => ⟨Int.le_refl _, h⟩⟩
    · have fa : rng a < infR := by simp only [infR] at *; omega
      have fb : rng b < infR := by simp only [infR] at *; omega
      obtain ⟨_, _, c, _, _, _, _, hm, _, hr, _⟩ := midF_num fa fb
      refine ⟨not_nan (by rw [hm]; exact hr), fun h => mid_in fa fb sa sb h, fun h => ?_⟩
      rw [midF_comm]; exact mid_in fb fa sb sa h
  obtain ⟨k1, k2, k3⟩ := key
  rw [le_iff n1 k1, le_iff k1 n2]
  rcases Int.le_total (sr a) (sr b) with h | h
  · have := n3 h; have := k2 h; omega
  · have := n4 h; have := k3 h; omega
theorem zero_is {a : Nat} (ha : a < 18446744073709551616) (na : nanB a = false) : fEq a 0 = decide (rng a = 0) := by
  have h0 : sr 0 = 0 := by decide
  have n0 : nanB 0 = false := by decide
  rw [Bool.eq_iff_iff, eq_iff, decide_eq_true_eq, na, n0, h0]
  simp only [true_and]
  rcases bcase ha with ⟨h1, h2, _, h4⟩ | ⟨h1, h2, _, h4⟩ <;> omega
theorem small_is {a : Nat} (na : nanB a = false) : fLt (rng a) 103582791429521408 = decide (rng a < 103582791429521408) := by
  have h0 : sr 103582791429521408 = 103582791429521408 := by decide
  have n0 : nanB 103582791429521408 = false := by decide
  have n1 : nanB (rng a) = false := by unfold nanB at *; rw [rng_rng]; exact na
  rw [Bool.eq_iff_iff, lt_iff, decide_eq_true_eq, n1, n0, h0]
  simp only [true_and]
  have := rng_lt a
  rcases bcase (rng_u64 a) with ⟨h1, h2, _, h4⟩ | ⟨h1, _⟩
  · rw [h4]; omega
  · omega
end Go.Proofs.Ytdnahdogohdmjaa
