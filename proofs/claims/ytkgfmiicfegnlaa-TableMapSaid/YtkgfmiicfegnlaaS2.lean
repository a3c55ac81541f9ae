import Derived.Test.YtkgfmiicfegnlaaS1
namespace Go.Proofs.Ytkgfmiicfegnlaa

/-- Each stretch of so many goes up by itself. -/
def Bk (bs n : Nat) (d : Array Fl) : Prop := ∀ u, Srt d (u * bs) (min (u * bs + bs) n)
/-- The first stretches do. -/
def D1 (bs t : Nat) (d : Array Fl) : Prop := ∀ u, u < t → Srt d (u * bs) (u * bs + bs)
theorem D1.zero (bs : Nat) (d : Array Fl) : D1 bs 0 d := fun _ h => absurd h (Nat.not_lt_zero _)
theorem mul_mono {u t bs : Nat} (h : u < t) : u * bs + bs ≤ t * bs := by
  have := Nat.mul_le_mul_right bs (show u + 1 ≤ t by omega)
  rwa [Nat.add_mul, Nat.one_mul] at this
theorem D1.succ {bs t : Nat} {d e : Array Fl} (h : D1 bs t d) (m : Mix (t * bs) (t * bs + bs) d e) (s : Srt e (t * bs) (t * bs + bs)) : D1 bs (t + 1) e := fun u hu => by
  rcases Nat.lt_or_ge u t with h1 | h1
  · exact (h u h1).out m (.inl (mul_mono h1))
  · rw [show u = t by omega]; exact s
theorem D1.done {bs t n : Nat} {d e : Array Fl} (h : D1 bs t d) (m : Mix (t * bs) n d e) (s : Srt e (t * bs) n) (hn : n ≤ t * bs + bs) : Bk bs n e := fun u => by
  rcases Nat.lt_trichotomy u t with h1 | h1 | h1
  · exact ((h u h1).out m (.inl (mul_mono h1))).sub (Nat.le_refl _) (Nat.min_le_left _ _)
  · subst h1; exact s.sub (Nat.le_refl _) (Nat.min_le_right _ _)
  · have := mul_mono (bs := bs) h1
    exact Srt.short _ (by omega)
/-- The stretches from the 't'th pair on still do. -/
def R2 (bs t n : Nat) (d : Array Fl) : Prop := ∀ u, 2 * t ≤ u → Srt d (u * bs) (min (u * bs + bs) n)
theorem Bk.rest {bs n : Nat} {d : Array Fl} (h : Bk bs n d) : R2 bs 0 n d := fun u _ => h u
theorem two_mul_bs (t bs : Nat) : 2 * t * bs = t * (2 * bs) := by rw [Nat.mul_comm 2 t, Nat.mul_assoc]
theorem R2.one {bs t n : Nat} {d : Array Fl} (h : R2 bs t n d) : Srt d (t * (2 * bs)) (min (t * (2 * bs) + bs) n) := by
  have := h (2 * t) (Nat.le_refl _)
  rwa [two_mul_bs] at this
theorem R2.two {bs t n : Nat} {d : Array Fl} (h : R2 bs t n d) : Srt d (t * (2 * bs) + bs) (min (t * (2 * bs) + bs + bs) n) := by
  have := h (2 * t + 1) (Nat.le_succ _)
  rwa [Nat.add_mul, Nat.one_mul, two_mul_bs] at this
theorem R2.next {bs t n : Nat} {d e : Array Fl} (h : R2 bs t n d) (m : Mix (t * (2 * bs)) (t * (2 * bs) + 2 * bs) d e) : R2 bs (t + 1) n e := fun u hu => by
  refine (h u (by omega)).out m (.inr ?_)
  have := Nat.mul_le_mul_right bs hu
  rw [two_mul_bs, Nat.add_mul, Nat.one_mul] at this
  exact this
theorem Bk.all {bs n : Nat} {d : Array Fl} (h : Bk bs n d) (hb : n ≤ bs) : Srt d 0 n := by
  have := h 0
  rw [Nat.zero_mul, Nat.zero_add, Nat.min_eq_right hb] at this
  exact this
end Go.Proofs.Ytkgfmiicfegnlaa
