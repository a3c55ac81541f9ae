import Derived.Test.YteokimebfbnlkaaA3
namespace Go.Proofs.Yteokimebfbnlkaa

/-- The last extent, one sector longer. -/
def bump (l : List Ex) : List Ex := match l.getLast? with | some s => l.dropLast ++ [⟨s.at_, s.len + 1⟩] | none => l
/-- Is the sector ahead of this one free? -/
def prevB (f : Nat → Bool) : Nat → Bool
  | 0 => false
  | i + 1 => f i
/-- The extents of the first i sectors. -/
def runs (f : Nat → Bool) : Nat → List Ex
  | 0 => []
  | i + 1 => if f i then (if prevB f i then bump (runs f i) else runs f i ++ [⟨i, 1⟩]) else runs f i

theorem bump_snoc (p : List Ex) (s : Ex) : bump (p ++ [s]) = p ++ [⟨s.at_, s.len + 1⟩] := by simp [bump]

theorem runs_inv (f : Nat → Bool) (n i : Nat) (hi : i ≤ n) : okF n (-1) (runs f i) = true ∧ (∀ t : Int, mem (runs f i) t ↔ ∃ u : Nat, t = u ∧ u < i ∧ f u = true) ∧
    (prevB f i = true → ∃ (p : List Ex) (s : Ex), runs f i = p ++ [s] ∧ s.at_ + s.len = (i : Int)) ∧ (prevB f i = false → lastE (-1) (runs f i) < (i : Int)) := by
  induction i with
  | zero => exact ⟨rfl, fun t => ⟨fun h => absurd h mem_nil, fun ⟨u, _, h, _⟩ => absurd h (Nat.not_lt_zero _)⟩, (fun h => by cases h), fun _ => by simp [runs, lastE]⟩
  | succ i ih =>
    obtain ⟨h1, h2, h3, h4⟩ := ih (by omega)
    cases hf : f i with
    | false =>
      have e : runs f (i + 1) = runs f i := by simp [runs, hf]
      rw [e]
      refine ⟨h1, fun t => (h2 t).trans ⟨fun ⟨u, a, b, c⟩ => ⟨u, a, by omega, c⟩, fun ⟨u, a, b, c⟩ => ⟨u, a, ?_, c⟩⟩, (fun h => ?_), fun _ => ?_⟩
      · rcases Nat.lt_or_ge u i with h | h
        · exact h
        · obtain rfl : u = i := by omega
          rw [hf] at c; cases c
      · simp [prevB, hf] at h
      · cases hp : prevB f i with
        | false => have := h4 hp; omega
        | true =>
          obtain ⟨p, s, e2, e3⟩ := h3 hp
          rw [e2]
          have : lastE (-1) (p ++ [s]) = s.at_ + s.len := by
            clear e2 h1 h2 h3 h4 e
            generalize (-1 : Int) = a
            induction p generalizing a with
            | nil => rfl
            | cons q r ih => exact ih (q.at_ + q.len)
          rw [this]; omega
    | true =>
      cases hp : prevB f i with
      | false =>
        have e : runs f (i + 1) = runs f i ++ [⟨i, 1⟩] := by simp [runs, hf, hp]
        have hl := h4 hp
        rw [e]
        refine ⟨?_, fun t => ?_, fun _ => ⟨_, _, rfl, by simp⟩, fun h => by simp [prevB, hf] at h⟩
        · rw [okF_append]
          refine ⟨h1, okF_cons.2 ⟨⟨by simp, by simp, by simp; omega⟩, hl, rfl⟩⟩
        · rw [mem_append, h2 t, mem_cons]
          constructor
          · rintro (⟨u, a, b, c⟩ | ⟨a, b⟩ | h)
            · exact ⟨u, a, by omega, c⟩
            · exact ⟨i, by simp at a b; omega, by omega, hf⟩
            · exact absurd h mem_nil
          · rintro ⟨u, a, b, c⟩
            rcases Nat.lt_or_ge u i with h | h
            · exact .inl ⟨u, a, h, c⟩
            · obtain rfl : u = i := by omega
              exact .inr (.inl ⟨by simp; omega, by simp; omega⟩)
      | true =>
        obtain ⟨p, s, e2, e3⟩ := h3 hp
        have e : runs f (i + 1) = p ++ [⟨s.at_, s.len + 1⟩] := by simp [runs, hf, hp, e2, bump_snoc]
        rw [e2] at h1 h2
        rw [e]
        obtain ⟨k1, k2, k3, k4, k5, k6⟩ := okF_at h1
        refine ⟨?_, fun t => ?_, fun _ => ⟨_, _, rfl, by simp; omega⟩, fun h => by simp [prevB, hf] at h⟩
        · rw [okF_append]
          exact ⟨k1, okF_cons.2 ⟨⟨k3, by simp; omega, by simp; omega⟩, k2, rfl⟩⟩
        · have h2' := h2 t
          rw [mem_append, mem_cons] at h2' ⊢
          constructor
          · rintro (h | ⟨a, b⟩ | h)
            · obtain ⟨u, a, b, c⟩ := h2'.1 (.inl h)
              exact ⟨u, a, by omega, c⟩
            · by_cases ht : t < s.at_ + s.len
              · obtain ⟨u, a, b, c⟩ := h2'.1 (.inr (.inl ⟨a, ht⟩))
                exact ⟨u, a, by omega, c⟩
              · exact ⟨i, by simp at a b; omega, by omega, hf⟩
            · exact absurd h mem_nil
          · rintro ⟨u, a, b, c⟩
            rcases Nat.lt_or_ge u i with h | h
            · rcases h2'.2 ⟨u, a, h, c⟩ with h | ⟨x, y⟩ | h
              · exact .inl h
              · exact .inr (.inl ⟨x, by simp at y ⊢; omega⟩)
              · exact absurd h mem_nil
            · obtain rfl : u = i := by omega
              exact .inr (.inl ⟨by simp; omega, by simp; omega⟩)

/-- The extents of sectors are the one list whose extents may be, and which has just those sectors. -/
theorem runs_uniq {f : Nat → Bool} {n : Nat} {l : List Ex} (h : okF n (-1) l = true) (hm : ∀ u : Nat, u < n → (f u = true ↔ mem l u)) : runs f n = l := by
  obtain ⟨h1, h2, _⟩ := runs_inv f n n (Nat.le_refl _)
  refine okF_ext h1 h fun t => (h2 t).trans ⟨fun ⟨u, a, b, c⟩ => by rw [a]; exact (hm u b).1 c, fun ht => ?_⟩
  obtain ⟨k1, k2⟩ := mem_hi h ht
  exact ⟨t.toNat, by omega, by omega, (hm _ (by omega)).2 (by rw [show ((t.toNat : Nat) : Int) = t by omega]; exact ht)⟩
end Go.Proofs.Yteokimebfbnlkaa
