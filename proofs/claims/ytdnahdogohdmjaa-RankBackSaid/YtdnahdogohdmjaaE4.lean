import Derived.Test.YtdnahdogohdmjaaE3
namespace Go.Proofs.Ytdnahdogohdmjaa

/-! ### keys -/
def keyF (b : Nat) : Nat := if nanB b then 18446744073709551615 else if b < 9223372036854775808 then b + 9223372036854775808 else 18446744073709551615 - b
def ofB (k : Nat) : Nat := if 9223372036854775808 ≤ k then k - 9223372036854775808 else 18446744073709551615 - k
def ofF (k : Nat) : Nat := if k = 18446744073709551615 then nanC else if nanB (ofB k) then 0 else ofB k
def ofE (k : Nat) : Int := if k = 18446744073709551615 then 0 else if nanB (ofB k) then 2 else 0
def cmpN (x y : Nat) : Int := if x < y then -1 else if y < x then 1 else 0
theorem bcase {b : Nat} (h : b < 18446744073709551616) : (b < 9223372036854775808 ∧ rng b = b ∧ sgn b = false ∧ sr b = b) ∨ (9223372036854775808 ≤ b ∧ rng b = b - 9223372036854775808 ∧ sgn b = true ∧ sr b = -((b - 9223372036854775808 : Nat) : Int)) := by
  rcases Nat.lt_or_ge b 9223372036854775808 with h1 | h1
  · have e1 : rng b = b := by unfold rng; omega
    have e2 : sgn b = false := by unfold sgn; rw [show b / 9223372036854775808 = 0 by omega]; rfl
    exact .inl ⟨h1, e1, e2, by unfold sr sg; rw [e1, e2]; simp⟩
  · have e1 : rng b = b - 9223372036854775808 := by unfold rng; omega
    have e2 : sgn b = true := by unfold sgn; rw [show b / 9223372036854775808 = 1 by omega]; rfl
    exact .inr ⟨h1, e1, e2, by unfold sr sg; rw [e1, e2]; simp⟩
theorem nan_iff {b : Nat} : nanB b = true ↔ 9218868437227405312 < rng b := by unfold nanB; simp [infR]
theorem nan_iff' {b : Nat} : nanB b = false ↔ rng b ≤ 9218868437227405312 := by unfold nanB; simp [infR]
theorem key_lt (b : Nat) : keyF b ≤ 18446744073709551615 ∨ 18446744073709551616 ≤ b := by unfold keyF; split <;> (try split) <;> omega
theorem key_bound (b : Nat) : keyF b < 18446744073709551616 := by unfold keyF; split <;> (try split) <;> omega
theorem nan_key {b : Nat} (h : nanB b = true) : keyF b = 18446744073709551615 := by unfold keyF; rw [if_pos h]
/-- What a key is, in omega's words. -/
theorem key_cases {b : Nat} (h : b < 18446744073709551616) : (nanB b = true ∧ keyF b = 18446744073709551615) ∨
    (nanB b = false ∧ (b < 9223372036854775808 ∧ sr b = b ∧ b ≤ 9218868437227405312 ∧ keyF b = b + 9223372036854775808 ∨
      9223372036854775808 ≤ b ∧ sr b = 9223372036854775808 - (b : Int) ∧ b ≤ 18442240474082181120 ∧ keyF b + b = 18446744073709551615)) := by
  cases hn : nanB b
  · refine .inr ⟨rfl, ?_⟩
    have := nan_iff'.1 hn
    have e : keyF b = if b < 9223372036854775808 then b + 9223372036854775808 else 18446744073709551615 - b := by unfold keyF; rw [hn]; rfl
    rcases bcase h with ⟨h1, h2, _, h4⟩ | ⟨h1, h2, _, h4⟩
    · rw [if_pos h1] at e; exact .inl ⟨h1, h4, by omega, e⟩
    · rw [if_neg (by omega)] at e; exact .inr ⟨h1, by omega, by omega, by omega⟩
  · exact .inl ⟨rfl, nan_key hn⟩
theorem lt_iff {a b : Nat} : fLt a b = true ↔ nanB a = false ∧ nanB b = false ∧ sr a < sr b := by unfold fLt; simp; exact and_assoc
theorem eq_iff {a b : Nat} : fEq a b = true ↔ nanB a = false ∧ nanB b = false ∧ sr a = sr b := by unfold fEq; simp; exact and_assoc
theorem eq_self (a : Nat) : fEq a a = !nanB a := by unfold fEq; cases nanB a <;> simp

theorem of_cases {k : Nat} (h : k < 18446744073709551616) : ofF k < 18446744073709551616 ∧
    ((k = 18446744073709551615 ∧ ofF k = nanC ∧ ofE k = 0) ∨ (k ≠ 18446744073709551615 ∧ nanB (ofB k) = true ∧ ofF k = 0 ∧ ofE k = 2) ∨ (k ≠ 18446744073709551615 ∧ nanB (ofB k) = false ∧ ofF k = ofB k ∧ ofE k = 0 ∧ ofB k < 18446744073709551616)) := by
  have hb : ofB k < 18446744073709551616 := by unfold ofB; split <;> omega
  by_cases h1 : k = 18446744073709551615
  · have e1 : ofF k = nanC := by unfold ofF; rw [if_pos h1]
    have e2 : ofE k = 0 := by unfold ofE; rw [if_pos h1]
    exact ⟨by rw [e1]; decide, .inl ⟨h1, e1, e2⟩⟩
  · cases hn : nanB (ofB k)
    · have e1 : ofF k = ofB k := by unfold ofF; rw [if_neg h1, hn]; rfl
      have e2 : ofE k = 0 := by unfold ofE; rw [if_neg h1, hn]; rfl
      exact ⟨by rw [e1]; exact hb, .inr (.inr ⟨h1, rfl, e1, e2, hb⟩)⟩
    · have e1 : ofF k = 0 := by unfold ofF; rw [if_neg h1, hn]; rfl
      have e2 : ofE k = 2 := by unfold ofE; rw [if_neg h1, hn]; rfl
      exact ⟨by rw [e1]; decide, .inr (.inl ⟨h1, rfl, e1, e2⟩)⟩
/-- The key of a key's number. -/
theorem key_of {k : Nat} (h : k < 18446744073709551616) (he : ofE k = 0) : keyF (ofF k) = k := by
  obtain ⟨_, ⟨h1, h2, _⟩ | ⟨_, _, _, h2⟩ | ⟨h1, h2, h3, _, h5⟩⟩ := of_cases h
  · rw [h2, h1]; decide
  · omega
  · rw [h3]
    have eb : ofB k = if 9223372036854775808 ≤ k then k - 9223372036854775808 else 18446744073709551615 - k := rfl
    rcases key_cases h5 with ⟨e, _⟩ | ⟨_, h6⟩
    · rw [e] at h2; cases h2
    · generalize ofB k = o at *
      split at eb <;> omega
/-- The number of a number's key. -/
theorem of_key {b : Nat} (h : b < 18446744073709551616) : ofE (keyF b) = 0 ∧ (nanB b = false → ofF (keyF b) = b) ∧ (nanB b = true → ofF (keyF b) = nanC) := by
  rcases key_cases h with ⟨e, e2⟩ | ⟨e, h2⟩
  · rw [e2]
    exact ⟨by decide, fun h => by rw [e] at h; (cases h), fun _ => by decide⟩
  · have hk : keyF b ≠ 18446744073709551615 := by omega
    have hb : ofB (keyF b) = b := by unfold ofB; split <;> omega
    refine ⟨?_, fun _ => ?_, fun h => by rw [e] at h; cases h⟩
    · unfold ofE; rw [if_neg hk, hb, e]; rfl
    · unfold ofF; rw [if_neg hk, hb, e]; rfl
theorem nan_key_iff {b : Nat} (h : b < 18446744073709551616) : nanB b = decide (keyF b = 18446744073709551615) := by
  rcases key_cases h with ⟨e, e2⟩ | ⟨e, h2⟩
  · rw [e, e2]; rfl
  · have hk : keyF b ≠ 18446744073709551615 := by omega
    rw [e]; simp [hk]
theorem nan_nanC : nanB nanC = true := by decide

/-! ### turned about -/
def ngF (b : Nat) : Nat := b ^^^ 9223372036854775808
theorem xor_lo {b : Nat} (h : b < 9223372036854775808) : b ^^^ 9223372036854775808 = 9223372036854775808 + b := by
  have e : (9223372036854775808 : Nat) = 2 ^ 63 := by decide
  rw [e] at *
  apply Nat.eq_of_testBit_eq
  intro i
  rw [Nat.testBit_xor, Nat.testBit_two_pow]
  rcases Nat.lt_trichotomy i 63 with h1 | h1 | h1
  · have hd : decide (63 = i) = false := decide_eq_false (by omega)
    rw [Nat.testBit_two_pow_add_gt h1, hd, Bool.xor_false]
  · subst h1
    rw [Nat.testBit_two_pow_add_eq, Nat.testBit_lt_two_pow h]; simp
  · have a0 : 2 ^ 64 ≤ 2 ^ i := Nat.pow_le_pow_right (show 2 > 0 by decide) (by omega)
    have a1 : b < 2 ^ i := by omega
    have a2 : 2 ^ 63 + b < 2 ^ i := by omega
    have hd : decide (63 = i) = false := decide_eq_false (by omega)
    rw [Nat.testBit_lt_two_pow a1, Nat.testBit_lt_two_pow a2, hd]; rfl
theorem ng_is {b : Nat} (h : b < 18446744073709551616) : ngF b = if b < 9223372036854775808 then b + 9223372036854775808 else b - 9223372036854775808 := by
  unfold ngF
  split
  · rename_i h1; rw [xor_lo h1]; omega
  · rename_i h1
    have e := xor_lo (b := b - 9223372036854775808) (by omega)
    have e2 : b = (b - 9223372036854775808) ^^^ 9223372036854775808 := by rw [e]; omega
    conv => lhs; rw [e2]
    rw [Nat.xor_assoc, Nat.xor_self, Nat.xor_zero]
theorem ng_all {b : Nat} (h : b < 18446744073709551616) : ngF b < 18446744073709551616 ∧ rng (ngF b) = rng b ∧ nanB (ngF b) = nanB b ∧ sr (ngF b) = -sr b := by
  have e := ng_is h
  have h1 : ngF b < 18446744073709551616 := by rw [e]; split <;> omega
  rcases bcase h with ⟨a1, a2, _, a4⟩ | ⟨a1, a2, _, a4⟩
  · rw [if_pos a1] at e
    rcases bcase h1 with ⟨b1, b2, _, b4⟩ | ⟨b1, b2, _, b4⟩
    · omega
    · have hr : rng (ngF b) = rng b := by omega
      exact ⟨h1, hr, by unfold nanB; rw [hr], by omega⟩
  · rw [if_neg (by omega)] at e
    rcases bcase h1 with ⟨b1, b2, _, b4⟩ | ⟨b1, b2, _, b4⟩
    · have hr : rng (ngF b) = rng b := by omega
      exact ⟨h1, hr, by unfold nanB; rw [hr], by omega⟩
    · omega
theorem key_flip {b : Nat} (h : b < 18446744073709551616) (hn : nanB b = false) : keyF b + keyF (ngF b) = 18446744073709551615 := by
  obtain ⟨h1, _, h3, _⟩ := ng_all h
  have e := ng_is h
  rw [hn] at h3
  rcases key_cases h with ⟨e1, _⟩ | ⟨_, h2⟩
  · rw [hn] at e1; cases e1
  · rcases key_cases h1 with ⟨e1, _⟩ | ⟨_, h4⟩
    · rw [h3] at e1; cases e1
    · split at e <;> omega
theorem cmp_flip {a b : Nat} (ha : a < 18446744073709551616) (hb : b < 18446744073709551616) (na : nanB a = false) (nb : nanB b = false) : cmpN (keyF a) (keyF b) = -cmpN (keyF (ngF a)) (keyF (ngF b)) := by
  have h1 := key_flip ha na
  have h2 := key_flip hb nb
  unfold cmpN
  split <;> split <;> (try split) <;> (try split) <;> omega
end Go.Proofs.Ytdnahdogohdmjaa
