import Derived.Test.YteokimebfbnlkaaW21
namespace Go.Proofs.Yteokimebfbnlkaa
open Go.RowKit

theorem take_ex (x : Xs) (n : Int) : ∃ s y er, TakeOut x n s y er := by
  by_cases h0 : okX x = true ∧ 1 ≤ n
  · rcases firstI_cases (fun f => decide (n ≤ f.len)) x.free with hn | ⟨p, f, q, hpq, hp, hf⟩
    · exact ⟨⟨0, 0⟩, noX, 6, .inr (.inl ⟨h0.1, h0.2, fun f hf => by have := hn f hf; simp at this; omega, rfl, rfl, rfl⟩)⟩
    · have hp' : ∀ g ∈ p, g.len < n := fun g hg => by have := hp g hg; simp at this; omega
      have hf' : n ≤ f.len := by simpa using hf
      obtain ⟨x1, x2, x3⟩ := okX_iff.1 h0.1
      rw [hpq] at x3
      obtain ⟨g1, g2⟩ := cut_ok (s := ⟨f.at_, n⟩) x3 (Int.le_refl _) (by simp only []; omega) h0.2
      exact ⟨⟨f.at_, n⟩, ⟨x.size, p ++ (pieces f ⟨f.at_, n⟩ ++ q)⟩, 0, .inr (.inr ⟨h0.1, h0.2, rfl, ⟨p, f, q, hpq, hp', hf', rfl⟩, rfl, okX_iff.2 ⟨x1, x2, g1⟩, fun i => by rw [g2 i, hpq]⟩)⟩
  · exact ⟨⟨0, 0⟩, noX, 1, .inl ⟨h0, rfl, rfl, rfl⟩⟩
theorem take_uniq {x y y' : Xs} {n : Int} {s s' : Ex} {er er' : Int} (h : TakeOut x n s y er) (h' : TakeOut x n s' y' er') : s' = s ∧ y' = y ∧ er' = er := by
  rcases h with ⟨a, rfl, rfl, rfl⟩ | ⟨a1, a2, a3, rfl, rfl, rfl⟩ | ⟨a1, a2, rfl, ⟨p, f, q, e1, e2, e3, rfl⟩, a5, a6, a7⟩ <;> rcases h' with ⟨b, rfl, rfl, rfl⟩ | ⟨b1, b2, b3, rfl, rfl, rfl⟩ | ⟨b1, b2, rfl, ⟨p', f', q', d1, d2, d3, rfl⟩, b5, b6, b7⟩
  · exact ⟨rfl, rfl, rfl⟩
  · exact absurd ⟨b1, b2⟩ a
  · exact absurd ⟨b1, b2⟩ a
  · exact absurd ⟨a1, a2⟩ b
  · exact ⟨rfl, rfl, rfl⟩
  · have := a3 f' (by rw [d1]; simp); omega
  · exact absurd ⟨a1, a2⟩ b
  · have := b3 f (by rw [e1]; simp); omega
  · have hff := first_uniq (e1.symm.trans d1) e2 e3 d2 d3
    subst hff
    exact ⟨rfl, okX_ext b6 a6 (by rw [b5, a5]) fun i => by rw [b7, a7], rfl⟩
theorem take_at {x y : Xs} {n : Int} {s : Ex} {er : Int} (h : TakeOut x n s y er) (hr : Rgs x.free) : ∀ lo v W, XsR lo W.heap.size W v x → Calls Try.prog 11 #[v, .int .i64 n] W fun e w' => ∃ A c, e = .returned (.tuple #[.agg #[.int .i64 s.at_, .int .i64 s.len], .agg #[.int .i64 y.size, .slice A y.free.length c], .int .i64 er]) ∧
      XsR W.heap.size w'.heap.size w' (.agg #[.int .i64 y.size, .slice A y.free.length c]) y ∧ Below W.heap.size W w' := fun lo v W hx =>
  (take_any lo v x n W hx hr).mono fun e w' ⟨A, c, s', y', er', he, ho, hy, hb⟩ => by
    obtain ⟨rfl, rfl, rfl⟩ := take_uniq h ho
    exact ⟨A, c, he, hy, hb⟩
theorem take_er {x y : Xs} {n : Int} {s : Ex} {er : Int} (h : TakeOut x n s y er) : er = 0 ∨ er = 1 ∨ er = 6 := by
  rcases h with ⟨_, h, _⟩ | ⟨_, _, _, h, _⟩ | ⟨_, _, h, _⟩ <;> omega
theorem keep_er {x y : Xs} {s : Ex} {er : Int} (h : KeepOut x s y er) : er = 0 ∨ (er ≠ 0 ∧ y = noX) := by
  rcases h with ⟨_, h, h2⟩ | ⟨_, _, _, h, h2⟩ | ⟨_, _, _, h, _⟩
  · exact .inr ⟨by omega, h2⟩
  · exact .inr ⟨by omega, h2⟩
  · exact .inl h
/-- What was kept, and what giving it back does. -/
theorem back_keep {x y : Xs} {s : Ex} {er : Int} (h : KeepOut x s y er) (h0 : er = 0) : GiveOut y s x 0 ∧ GiveOut x s noX 5 ∧ okX x = true ∧ okX y = true ∧ KeepOut y s noX 4 := by
  rcases h with ⟨_, r, _⟩ | ⟨_, _, _, r, _⟩ | ⟨ok, hs, hm, _, ys, yk, ym⟩
  · omega
  · omega
  · have hs' := isOfB_iff.1 hs
    have hin : inE s s.at_ := by unfold inE; omega
    refine ⟨.inr (.inr ⟨yk, by rw [ys]; exact hs, fun i hi hy => ((ym i).1 hy).2 hi, rfl, ys.symm, ok, fun i => ?_⟩), .inr (.inl ⟨ok, hs, fun h => h _ hin (hm _ hin), rfl, rfl⟩), ok, yk, .inr (.inl ⟨yk, by rw [ys]; exact hs, fun h => ((ym _).1 (h _ hin)).2 hin, rfl, rfl⟩)⟩
    rw [ym i]
    constructor
    · intro hx
      rcases Classical.em (inE s i) with h | h
      · exact .inr h
      · exact .inl ⟨hx, h⟩
    · rintro (h | h)
      · exact h.1
      · exact hm i h
/-- What was taken is what is kept there. -/
theorem back_take {x y : Xs} {n : Int} {a : Ex} {er : Int} (h : TakeOut x n a y er) (h0 : er = 0) : KeepOut x a y 0 ∧ sumE x.free = sumE y.free + n ∧ a.len = n ∧ 0 ≤ sumE y.free ∧ sumE x.free ≤ 8192000000 ∧ 1 ≤ n := by
  rcases h with ⟨_, r, _⟩ | ⟨_, _, _, r, _⟩ | ⟨ok, hn, _, ⟨p, f, q, e1, e2, e3, rfl⟩, ys, yk, ym⟩
  · omega
  · omega
  · obtain ⟨x1, x2, x3⟩ := okX_iff.1 ok
    have x3' := x3
    rw [e1] at x3'
    obtain ⟨_, _, f0, f1, f2, _⟩ := okF_at x3'
    have hs : isOfB ⟨f.at_, n⟩ x.size = true := isOfB_iff.2 ⟨f0, hn, by simp only []; omega⟩
    obtain ⟨g1, g2⟩ := cut_ok (s := ⟨f.at_, n⟩) x3' (Int.le_refl _) (by simp only []; omega) hn
    have hy : y = ⟨x.size, p ++ (pieces f ⟨f.at_, n⟩ ++ q)⟩ := okX_ext yk (okX_iff.2 ⟨x1, x2, g1⟩) ys fun i => by rw [ym, g2, e1]
    have hsum : sumE x.free = sumE y.free + n := by
      rw [hy, e1]
      simp only [sumE_append, sumE, pieces]
      rw [sumE_piece _ _ (by omega), sumE_piece _ _ (by omega)]
      omega
    have hnn : ∀ l : List Ex, (∀ f ∈ l, 0 ≤ f.at_ ∧ 1 ≤ f.len ∧ f.at_ + f.len ≤ 8192) → 0 ≤ sumE l ∧ sumE l ≤ 8192 * l.length := fun l => by
      induction l with
      | nil => intro _; simp [sumE]
      | cons g r ih =>
        intro h
        have h1 := ih fun f hf => h f (List.mem_cons_of_mem _ hf)
        have h2 := h g List.mem_cons_self
        simp only [sumE, List.length_cons]
        omega
    have hx := hnn _ (okX_each ok)
    have hyy := hnn _ (okX_each yk)
    have hl := okX_len ok
    refine ⟨.inr (.inr ⟨ok, hs, fun i hi => ⟨f, by rw [e1]; simp, ?_⟩, rfl, ys, yk, ym⟩), hsum, rfl, hyy.1, by omega, hn⟩
    unfold inE at hi ⊢
    simp only [] at hi
    omega
end Go.Proofs.Yteokimebfbnlkaa
