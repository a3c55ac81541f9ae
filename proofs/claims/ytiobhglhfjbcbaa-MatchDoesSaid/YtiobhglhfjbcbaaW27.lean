import Derived.Test.YtiobhglhfjbcbaaW25
namespace Go.Proofs.Ytiobhglhfjbcbaa
open Go.RowKit

theorem elem29 : Try.prog.underlying 29 = some (.slice (Try.prog.elem 29)) := by kernel_rfl
theorem size25 : ∀ W, (sizeOf (Try.prog.elem 29)).run Try.prog W = .ok 3 W := fun W => by kernel_rfl
theorem elem22 : Try.prog.underlying 22 = some (.slice (Try.prog.elem 22)) := by kernel_rfl
theorem size5 : ∀ W, (sizeOf (Try.prog.elem 22)).run Try.prog W = .ok 1 W := fun W => by kernel_rfl
theorem sliced0 (A : Option Addr) (j c s : Nat) : sliced A 0 j c s = .slice A j c := by
  unfold sliced
  rw [Nat.sub_zero, Nat.sub_zero, Nat.zero_mul]
  have : A.map (·.add 0) = A := by cases A <;> rfl
  rw [this, ite_self]
theorem slice_t (A : Option Addr) (n c : Nat) (J : Int) (j : Nat) (hJ : J = (j : Int)) (hj : j ≤ c) (W : World) :
    (Instr.slice 29 (.slice A n c) none (some (.int .i64 J)) none).run Try.prog W = .ok (.slice A j c) W := by
  subst hJ
  rw [run_slice_h (P := Try.prog) W 29 A n c elem29 .i64 j (by omega) (by omega), size25, Int.toNat_natCast]
  simp only [Result.andThen]
  rw [sliced0]
theorem slice_b (A : Option Addr) (n c : Nat) (J : Int) (j : Nat) (hJ : J = (j : Int)) (hj : j ≤ c) (W : World) :
    (Instr.slice 22 (.slice A n c) none (some (.int .i64 J)) none).run Try.prog W = .ok (.slice A j c) W := by
  subst hJ
  rw [run_slice_h (P := Try.prog) W 22 A n c elem22 .i64 j (by omega) (by omega), size5, Int.toNat_natCast]
  simp only [Result.andThen]
  rw [sliced0]
theorem Tks.pre {lo hi : Nat} {w : World} {A : Option Addr} {n c : Nat} {l : List Tok} (h : Tks lo hi w (.slice A n c) l) (j : Nat) (hj : j ≤ l.length) : Tks lo hi w (.slice A j c) (l.take j) := by
  obtain ⟨A', c', e, h1, h2, h3⟩ := h.open
  injection e with e1 e2 e3
  subst e1 e2 e3
  have hlen : (l.take j).length = j := by rw [List.length_take]; omega
  rcases Nat.eq_zero_or_pos j with h0 | h0
  · subst h0
    exact ⟨A, c, rfl, by simp, h2, fun h => absurd h (by simp), fun _ _ _ k hk => absurd hk (by simp)⟩
  · obtain ⟨b, off, rfl, q1, q2, _⟩ := h3 0 (by omega)
    have := Tks.make (lo := lo) (hi := hi) (w := w) (l := l.take j) (b := b) (off := off) (c := c) (by omega) h2 q1 q2 fun k hk => by
      rw [hlen] at hk
      obtain ⟨b', off', e, _, _, c0, c1, c2⟩ := h3 k (by omega)
      injection e with e
      injection e with e1 e2
      subst e1 e2
      rw [List.getElem_take]
      exact ⟨c0, c1, c2⟩
    rwa [hlen] at this
theorem Bs.pre {lo hi : Nat} {w : World} {A : Option Addr} {n c : Nat} {l : List UInt8} (h : Bs lo hi w (.slice A n c) l) (j : Nat) (hj : j ≤ l.length) : Bs lo hi w (.slice A j c) (l.take j) := by
  obtain ⟨A', c', e, h1, h2, h3⟩ := h
  injection e with e1 e2 e3
  subst e1 e2 e3
  have hlen : (l.take j).length = j := by rw [List.length_take]; omega
  refine ⟨A, c, by rw [hlen], by omega, h2, fun h0 => ?_⟩
  obtain ⟨b, off, rfl, q1, q2, hc⟩ := h3 (by omega)
  refine ⟨b, off, rfl, q1, q2, fun i hi => ?_⟩
  rw [List.getElem_take]
  exact hc i (by omega)

/-- What a list's beginnings tell. -/
theorem parts_pre {l : List Tok} {k : Nat} (hk : k < l.length) : ∃ p q, tellT (textF [] (l.take k)) l[k] = textF [] (l.take k) ++ p ∧ textF [] l = tellT (textF [] (l.take k)) l[k] ++ q := by
  obtain ⟨p, hp⟩ := tellT_pre (textF [] (l.take k)) l[k]
  obtain ⟨q, hq⟩ := textF_pre (tellT (textF [] (l.take k)) l[k]) (l.drop (k + 1))
  refine ⟨p, q, hp, ?_⟩
  rw [← hq]
  conv => lhs; rw [← List.take_append_drop (k + 1) l]
  rw [textF_append, textF_snoc hk]
/-- The place, out of any number. -/
theorem rem_pos (cut : Int) (n : Nat) (hn : 0 < n) : -(n : Int) < cut.tmod n ∧ cut.tmod n < n := by
  have h1 := Int.tmod_lt_of_pos cut (b := (n : Int)) (by omega)
  have h2 := Int.lt_tmod_of_pos cut (b := (n : Int)) (by omega)
  omega
end Go.Proofs.Ytiobhglhfjbcbaa
