import Derived.Test.YtnjepbehfioclaaA2
namespace Go.Proofs.Ytnjepbehfioclaa

abbrev nanC : Nat := 9221120237041090561
def ofB (k : Nat) : Nat := if 9223372036854775808 ≤ k then k - 9223372036854775808 else 18446744073709551615 - k
def ofF (k : Nat) : Nat := if k = 18446744073709551615 then nanC else if nanB (ofB k) then 0 else ofB k
def ofE (k : Nat) : Int := if k = 18446744073709551615 then 0 else if nanB (ofB k) then 2 else 0
theorem of_cases {k : Nat} (h : k < 18446744073709551616) : ofF k < 18446744073709551616 ∧
    ((k = 18446744073709551615 ∧ ofF k = nanC ∧ ofE k = 0) ∨ (k ≠ 18446744073709551615 ∧ nanB (ofB k) = true ∧ ofF k = 0 ∧ ofE k = 2) ∨ (k ≠ 18446744073709551615 ∧ nanB (ofB k) = false ∧ ofF k = ofB k ∧ ofE k = 0 ∧ ofB k < 18446744073709551616)) := by
  have hb : ofB k < 18446744073709551616 := by unfold ofB; split <;> omega
  by_cases h1 : k = 18446744073709551615
  · have e1 : ofF k = nanC := by unfold ofF; rw [if_pos h1]
    have e2 : ofE k = 0 := by unfold ofE; rw [if_pos h1]
    exact ⟨by rw [e1]; decide, .inl ⟨h1, e1, e2⟩⟩
  · cases hn : nanB (ofB k)
    · have e1 : ofF k = ofB k := by unfold ofF; rw [if_neg h1, hn]; rfl
      have e2 : ofE k = 0 := by unfold ofE; rw [if_neg h1, hn]; rfl
      exact ⟨by rw [e1]; exact hb, .inr (.inr ⟨h1, rfl, e1, e2, hb⟩)⟩
    · have e1 : ofF k = 0 := by unfold ofF; rw [if_neg h1, hn]; rfl
      have e2 : ofE k = 2 := by unfold ofE; rw [if_neg h1, hn]; rfl
      exact ⟨by rw [e1]; decide, .inr (.inl ⟨h1, rfl, e1, e2⟩)⟩
/-- The key of a key's number. -/
theorem key_of {k : Nat} (h : k < 18446744073709551616) (he : ofE k = 0) : keyF (ofF k) = k := by
  obtain ⟨_, ⟨h1, h2, _⟩ | ⟨_, _, _, h2⟩ | ⟨h1, h2, h3, _, h5⟩⟩ := of_cases h
  · rw [h2, h1]; decide
  · omega
  · rw [h3]
    have eb : ofB k = if 9223372036854775808 ≤ k then k - 9223372036854775808 else 18446744073709551615 - k := rfl
    rcases key_cases h5 with ⟨e, _⟩ | ⟨_, h6⟩
    · rw [e] at h2; cases h2
    · generalize ofB k = o at *
      split at eb <;> omega
/-- The number of a number's key. -/
theorem of_key {b : Nat} (h : b < 18446744073709551616) : ofE (keyF b) = 0 ∧ (nanB b = false → ofF (keyF b) = b) ∧ (nanB b = true → ofF (keyF b) = nanC) := by
  rcases key_cases h with ⟨e, e2⟩ | ⟨e, h2⟩
  · rw [e2]
    exact ⟨by decide, fun h => by rw [e] at h; (cases h), fun _ => by decide⟩
  · have hk : keyF b ≠ 18446744073709551615 := by omega
    have hb : ofB (keyF b) = b := by unfold ofB; split <;> omega
    refine ⟨?_, fun _ => ?_, fun h => by rw [e] at h; cases h⟩
    · unfold ofE; rw [if_neg hk, hb, e]; rfl
    · unfold ofF; rw [if_neg hk, hb, e]; rfl
theorem nan_key_iff {b : Nat} (h : b < 18446744073709551616) : nanB b = decide (keyF b = 18446744073709551615) := by
  rcases key_cases h with ⟨e, e2⟩ | ⟨e, h2⟩
  · rw [e, e2]; rfl
  · have hk : keyF b ≠ 18446744073709551615 := by omega
    rw [e]; simp [hk]
theorem nan_nanC : nanB nanC = true := by decide

end Go.Proofs.Ytnjepbehfioclaa
