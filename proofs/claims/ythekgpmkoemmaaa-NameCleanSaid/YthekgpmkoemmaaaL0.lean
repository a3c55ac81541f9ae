import Derived.Test.YthekgpmkoemmaaaC6
namespace Go.Proofs.Ythekgpmkoemmaaa

/-! ### texts held against one another -/
theorem cb_self (a : List UInt8) : Lib.compareBytes a a = 0 := by
  induction a with
  | nil => rfl
  | cons x a ih =>
    have h := UInt8.lt_irrefl x
    rw [Lib.compareBytes, if_neg h, if_neg h, ih]
theorem cb_anti : ∀ (a b : List UInt8), Lib.compareBytes b a = - Lib.compareBytes a b
  | [], [] => rfl
  | [], _ :: _ => rfl
  | _ :: _, [] => rfl
  | x :: a, y :: b => by
    have ih := cb_anti a b
    rw [Lib.compareBytes, Lib.compareBytes]
    by_cases h1 : x < y
    · have h2 : ¬ y < x := UInt8.not_lt.2 (UInt8.le_of_lt h1)
      rw [if_neg h2, if_pos h1, if_pos h1]; rfl
    · by_cases h2 : y < x
      · rw [if_pos h2, if_neg h1, if_pos h2]
      · rw [if_neg h2, if_neg h1, if_neg h1, if_neg h2, ih]
theorem cb_zero : ∀ (a b : List UInt8), Lib.compareBytes a b = 0 → a = b
  | [], [], _ => rfl
  | [], _ :: _, h => by simp [Lib.compareBytes] at h
  | _ :: _, [], h => by simp [Lib.compareBytes] at h
  | x :: a, y :: b, h => by
    rw [Lib.compareBytes] at h
    split at h
    · simp at h
    · rename_i h1
      split at h
      · simp at h
      · rename_i h2
        have e : x = y := UInt8.le_antisymm (UInt8.not_lt.1 h2) (UInt8.not_lt.1 h1)
        rw [e, cb_zero a b h]
theorem cb_range : ∀ (a b : List UInt8), Lib.compareBytes a b = -1 ∨ Lib.compareBytes a b = 0 ∨ Lib.compareBytes a b = 1
  | [], [] => .inr (.inl rfl)
  | [], _ :: _ => .inl rfl
  | _ :: _, [] => .inr (.inr rfl)
  | x :: a, y :: b => by
    rw [Lib.compareBytes]
    split
    · exact .inl rfl
    · split
      · exact .inr (.inr rfl)
      · exact cb_range a b
theorem cb_trans : ∀ (a b c : List UInt8), Lib.compareBytes a b < 0 → Lib.compareBytes b c < 0 → Lib.compareBytes a c < 0
  | [], [], _, h, _ => by simp [Lib.compareBytes] at h
  | _, _ :: _, [], _, h => by simp [Lib.compareBytes] at h
  | _ :: _, [], _, h, _ => by simp [Lib.compareBytes] at h
  | [], _ :: _, _ :: _, _, _ => by simp [Lib.compareBytes]
  | x :: a, y :: b, z :: c, h1, h2 => by
    rw [Lib.compareBytes] at h1 h2 ⊢
    by_cases xy : x < y
    · by_cases yz : y < z
      · rw [if_pos (UInt8.lt_trans xy yz)]; decide
      · rw [if_neg yz] at h2
        by_cases zy : z < y
        · rw [if_pos zy] at h2; simp at h2
        · have e : y = z := UInt8.le_antisymm (UInt8.not_lt.1 zy) (UInt8.not_lt.1 yz)
          rw [← e, if_pos xy]; decide
    · rw [if_neg xy] at h1
      by_cases yx : y < x
      · rw [if_pos yx] at h1; simp at h1
      · have e : x = y := UInt8.le_antisymm (UInt8.not_lt.1 yx) (UInt8.not_lt.1 xy)
        subst e
        rw [if_neg yx] at h1
        by_cases yz : x < z
        · rw [if_pos yz]; decide
        · rw [if_neg yz] at h2 ⊢
          by_cases zy : z < x
          · rw [if_pos zy] at h2; simp at h2
          · rw [if_neg zy] at h2 ⊢
            exact cb_trans a b c h1 h2

/-! ### parts held against one another -/
theorem lex_self (a : List (List UInt8)) : lex a a = 0 := by
  induction a with
  | nil => rfl
  | cons x a ih => rw [lex, if_neg (by rw [cb_self]; simp), ih]
theorem lex_anti : ∀ (a b : List (List UInt8)), lex b a = - lex a b
  | [], [] => rfl
  | [], _ :: _ => rfl
  | _ :: _, [] => rfl
  | x :: a, y :: b => by
    have ih := lex_anti a b
    have h := cb_anti x y
    rw [lex, lex, h]
    by_cases hz : Lib.compareBytes x y = 0
    · rw [hz]; simpa using ih
    · rw [if_pos (by omega), if_pos hz]
theorem lex_zero : ∀ (a b : List (List UInt8)), lex a b = 0 → a = b
  | [], [], _ => rfl
  | [], _ :: _, h => by simp [lex] at h
  | _ :: _, [], h => by simp [lex] at h
  | x :: a, y :: b, h => by
    rw [lex] at h
    by_cases hz : Lib.compareBytes x y = 0
    · rw [if_neg (by rw [hz]; simp)] at h
      rw [cb_zero x y hz, lex_zero a b h]
    · rw [if_pos hz] at h
      exact absurd h hz
theorem lex_range : ∀ (a b : List (List UInt8)), lex a b = -1 ∨ lex a b = 0 ∨ lex a b = 1
  | [], [] => .inr (.inl rfl)
  | [], _ :: _ => .inl rfl
  | _ :: _, [] => .inr (.inr rfl)
  | x :: a, y :: b => by
    rw [lex]
    split
    · exact cb_range x y
    · exact lex_range a b
theorem lex_trans : ∀ (a b c : List (List UInt8)), lex a b < 0 → lex b c < 0 → lex a c < 0
  | [], [], _, h, _ => by simp [lex] at h
  | _, _ :: _, [], _, h => by simp [lex] at h
  | _ :: _, [], _, h, _ => by simp [lex] at h
  | [], _ :: _, _ :: _, _, _ => by simp [lex]
  | x :: a, y :: b, z :: c, h1, h2 => by
    rw [lex] at h1 h2 ⊢
    have rx := cb_range x y
    have ry := cb_range y z
    by_cases hxy : Lib.compareBytes x y = 0
    · rw [if_neg (by rw [hxy]; simp)] at h1
      have e := cb_zero x y hxy
      subst e
      by_cases hyz : Lib.compareBytes x z = 0
      · rw [if_neg (by rw [hyz]; simp)] at h2 ⊢
        exact lex_trans a b c h1 h2
      · rw [if_pos hyz] at h2 ⊢
        exact h2
    · rw [if_pos hxy] at h1
      by_cases hyz : Lib.compareBytes y z = 0
      · have e := cb_zero y z hyz
        subst e
        rw [if_pos hxy]; exact h1
      · rw [if_pos hyz] at h2
        have := cb_trans x y z h1 h2
        rw [if_pos (by omega)]
        exact this
theorem lex_longer (d x : List (List UInt8)) (hx : x ≠ []) : lex d (d ++ x) = -1 := by
  induction d with
  | nil =>
    cases x with
    | nil => exact absurd rfl hx
    | cons y ys => rfl
  | cons p d ih => rw [List.cons_append, lex, if_neg (by rw [cb_self]; simp), ih]
theorem lex_between : ∀ (d x y b : List (List UInt8)), x ≠ [] → lex (d ++ x) b ≤ 0 → lex b (d ++ y) ≤ 0 → ∃ z, z ≠ [] ∧ b = d ++ z
  | [], x, y, b, hx, h1, _ => by
    refine ⟨b, ?_, rfl⟩
    rintro rfl
    cases x with
    | nil => exact hx rfl
    | cons p ps => simp [lex] at h1
  | p :: d, x, y, [], hx, h1, _ => by simp [lex] at h1
  | p :: d, x, y, q :: b, hx, h1, h2 => by
    rw [List.cons_append, lex] at h1 h2
    have ha := cb_anti p q
    have hz : Lib.compareBytes p q = 0 := by
      by_cases hz : Lib.compareBytes p q = 0
      · exact hz
      · rw [if_pos hz] at h1
        rw [if_pos (by omega)] at h2
        omega
    rw [if_neg (by omega)] at h1 h2
    obtain ⟨z, hz', e⟩ := lex_between d x y b hx h1 h2
    exact ⟨z, hz', by rw [e, cb_zero p q hz]; rfl⟩
theorem cmpP_lex : ∀ (ps qs : List (List UInt8)), (∀ p ∈ ps, p ≠ []) → (∀ q ∈ qs, q ≠ [] ∧ 47 ∉ q) → cmpP ps (jn qs) = lex ps qs
  | [], [], _, _ => rfl
  | [], q :: qs, _, h => by
    have hq := (h q (by simp)).1
    cases q with
    | nil => exact absurd rfl hq
    | cons c q => rfl
  | p :: ps, [], h, _ => by
    have hp := h p (by simp)
    cases p with
    | nil => exact absurd rfl hp
    | cons c p => rfl
  | p :: ps, q :: qs, hp, hq => by
    have ih := cmpP_lex ps qs (fun x hx => hp x (by simp [hx])) (fun x hx => hq x (by simp [hx]))
    have hno := (hq q (by simp)).2
    have e : hd (jn (q :: qs)) = q ∧ tl (jn (q :: qs)) = jn qs := by
      cases qs with
      | nil =>
        have e0 : jn [q] = q := by simp [jn, tailJ]
        have hs : hasS q = false := by
          cases h : hasS q with
          | false => rfl
          | true => simp [hasS] at h; exact absurd h hno
        rw [e0]
        exact cut_not q hs
      | cons r rs =>
        have e0 : jn (q :: r :: rs) = q ++ 47 :: jn (r :: rs) := by simp [jn, tailJ]
        rw [e0]
        exact hd_tl_of q _ hno
    rw [cmpP, e.1, e.2, ih, lex]
    by_cases hz : Lib.compareBytes p q = 0
    · rw [if_pos hz, if_neg (by rw [hz]; simp)]
    · rw [if_neg hz, if_pos hz]
end Go.Proofs.Ythekgpmkoemmaaa
