import Derived.Test.YteokimebfbnlkaaA8
import Derived.Test.YteokimebfbnlkaaW22
namespace Go.Proofs.Yteokimebfbnlkaa

theorem inB_iff {s : Ex} {t : Nat} : inB s s.len t = true ↔ inE s t := by simp [inB, inE]
theorem runs_of {x y : Xs} {f : Nat → Bool} (hx : okX x = true) (hs : y.size = x.size) (hy : okX y = true) (hm : ∀ u : Nat, f u = true ↔ mem y.free u) : (⟨x.size, runs f x.size.toNat⟩ : Xs) = y := by
  obtain ⟨x1, x2, _⟩ := okX_iff.1 hx
  obtain ⟨_, _, y3⟩ := okX_iff.1 hy
  obtain ⟨sz, fr⟩ := y
  simp only [] at hs y3 hm
  subst hs
  congr 1
  refine runs_uniq (n := x.size.toNat) ?_ fun u _ => hm u
  rw [show ((x.size.toNat : Nat) : Int) = x.size by omega]
  exact y3
theorem ref_keep {x y y' : Xs} {s : Ex} {er z : Int} (h : KeepOut x s y er) (h' : RefOut false 4 x s y' z) : y' = y ∧ z = er := by
  rcases h with ⟨a, rfl, rfl⟩ | ⟨a1, a2, a3, rfl, rfl⟩ | ⟨a1, a2, a3, rfl, a5, a6, a7⟩ <;> rcases h' with ⟨b, rfl, rfl⟩ | ⟨b1, b2, ⟨rfl, b3, rfl⟩ | ⟨rfl, rfl, t, b3, b4⟩⟩
  · exact ⟨rfl, rfl⟩
  · exact absurd ⟨b1, b2⟩ a
  · exact absurd ⟨b1, b2⟩ a
  · simp [a1, a2] at b
  · refine absurd (fun i hi => ?_) a3
    have h0 := (isOfB_iff.1 a2).1
    have h1 := b3 i.toNat (inB_iff.2 (by unfold inE at hi ⊢; omega))
    have h2 := freeB_iff.1 (by simpa using h1)
    unfold inE at hi
    rwa [show ((i.toNat : Nat) : Int) = i by omega] at h2
  · exact ⟨rfl, rfl⟩
  · simp [a1, a2] at b
  · refine ⟨runs_of a1 a5 a6 fun u => ?_, rfl⟩
    rw [a7]
    unfold setB
    by_cases hu : inB s s.len u = true
    · rw [if_pos hu]; simp [inB_iff.1 hu]
    · rw [if_neg hu, freeB_iff]
      exact ⟨fun h => ⟨h, fun h' => hu (inB_iff.2 h')⟩, fun h => h.1⟩
  · have := freeB_iff.2 (a3 t (inB_iff.1 b3))
    rw [b4] at this; cases this
theorem ref_give {x y y' : Xs} {s : Ex} {er z : Int} (h : GiveOut x s y er) (h' : RefOut true 5 x s y' z) : y' = y ∧ z = er := by
  rcases h with ⟨a, rfl, rfl⟩ | ⟨a1, a2, a3, rfl, rfl⟩ | ⟨a1, a2, a3, rfl, a5, a6, a7⟩ <;> rcases h' with ⟨b, rfl, rfl⟩ | ⟨b1, b2, ⟨rfl, b3, rfl⟩ | ⟨rfl, rfl, t, b3, b4⟩⟩
  · exact ⟨rfl, rfl⟩
  · exact absurd ⟨b1, b2⟩ a
  · exact absurd ⟨b1, b2⟩ a
  · simp [a1, a2] at b
  · refine absurd (fun i hi hm => ?_) a3
    have h0 := (isOfB_iff.1 a2).1
    have h1 := b3 i.toNat (inB_iff.2 (by unfold inE at hi ⊢; omega))
    have h2 : freeB x.free i.toNat = true := freeB_iff.2 (by unfold inE at hi; rwa [show ((i.toNat : Nat) : Int) = i by omega])
    rw [h2] at h1; cases h1
  · exact ⟨rfl, rfl⟩
  · simp [a1, a2] at b
  · refine ⟨runs_of a1 a5 a6 fun u => ?_, rfl⟩
    rw [a7]
    unfold setB
    by_cases hu : inB s s.len u = true
    · rw [if_pos hu]; simp [inB_iff.1 hu]
    · rw [if_neg hu, freeB_iff]
      exact ⟨fun h => .inl h, fun h => h.resolve_right fun h' => hu (inB_iff.2 h')⟩
  · exact absurd (freeB_iff.1 b4) (a3 t (inB_iff.1 b3))
/-- What the reference's Keep does of the first that has so many. -/
theorem ref_take {x y : Xs} {n z : Int} {p q : List Ex} {f : Ex} (ok : okX x = true) (hn : 1 ≤ n) (e : x.free = p ++ f :: q) (hp : ∀ g ∈ p, g.len < n) (hf : n ≤ f.len) (h' : RefOut false 4 x ⟨f.at_, n⟩ y z) : TakeOut x n ⟨f.at_, n⟩ y 0 := by
  obtain ⟨x1, x2, x3⟩ := okX_iff.1 ok
  rw [e] at x3
  obtain ⟨b1, b2, b3, b4, b5, b6⟩ := okF_at x3
  obtain ⟨g1, g2⟩ := cut_ok (s := ⟨f.at_, n⟩) x3 (Int.le_refl _) (by simp only []; omega) hn
  have hk : KeepOut x ⟨f.at_, n⟩ ⟨x.size, p ++ (pieces f ⟨f.at_, n⟩ ++ q)⟩ 0 := .inr (.inr ⟨ok, isOfB_iff.2 ⟨by simp only []; omega, by simp only []; omega, by simp only []; omega⟩, fun i hi => ⟨f, by rw [e]; simp, by unfold inE at hi ⊢; simp only [] at hi; omega⟩, rfl, rfl, okX_iff.2 ⟨x1, x2, g1⟩, fun i => by rw [g2 i, e]⟩)
  obtain ⟨rfl, _⟩ := ref_keep hk h'
  exact .inr (.inr ⟨ok, hn, rfl, ⟨p, f, q, e, hp, hf, rfl⟩, rfl, okX_iff.2 ⟨x1, x2, g1⟩, fun i => by rw [g2 i, e]⟩)
theorem ref_new {n : Int} (h : sizeB n = true) : newX n = ⟨n, runs (fun _ => true) n.toNat⟩ := by
  have h1 : 0 ≤ n ∧ n ≤ 8192 := by simpa [sizeB] using h
  have hy : okX (newX n) = true := by
    unfold newX
    split
    · exact okX_iff.2 ⟨h1.1, h1.2, okF_cons.2 ⟨⟨by simp, by simp only []; omega, by simp⟩, by simp, rfl⟩⟩
    · exact okX_iff.2 ⟨h1.1, h1.2, rfl⟩
  by_cases h0 : 0 < n
  · obtain ⟨_, _, y3⟩ := okX_iff.1 hy
    unfold newX at y3 ⊢
    rw [if_pos h0] at y3 ⊢
    congr 1
    refine (runs_uniq (n := n.toNat) (by rw [show ((n.toNat : Nat) : Int) = n by omega]; exact y3) fun u hu => ⟨fun _ => mem_cons.2 (.inl ⟨by simp, by simp only []; omega⟩), fun _ => rfl⟩).symm
  · obtain rfl : n = 0 := by omega
    rfl

/-- How many of the first sectors are free. -/
def cntB (f : Nat → Bool) : Nat → Int
  | 0 => 0
  | k + 1 => cntB f k + if f k then 1 else 0
theorem cntB_le (f : Nat → Bool) (k : Nat) : 0 ≤ cntB f k ∧ cntB f k ≤ k := by
  induction k with
  | zero => simp [cntB]
  | succ k ih => simp only [cntB]; split <;> omega
theorem cntB_inB (s : Ex) (J : Int) (h0 : 0 ≤ s.at_) (hJ : 0 ≤ J) (k : Nat) : cntB (inB s J) k = if (k : Int) ≤ s.at_ then 0 else if (k : Int) ≤ s.at_ + J then k - s.at_ else J := by
  induction k with
  | zero => simp [cntB, h0]
  | succ k ih =>
    simp only [cntB, ih, inB, Bool.and_eq_true, decide_eq_true_eq]
    split <;> split <;> split <;> (try split) <;> omega
theorem cntB_or (f g : Nat → Bool) (k : Nat) (h : ∀ t, t < k → ¬ (f t = true ∧ g t = true)) : cntB (fun t => f t || g t) k = cntB f k + cntB g k := by
  induction k with
  | zero => simp [cntB]
  | succ k ih =>
    simp only [cntB, ih fun t ht => h t (by omega)]
    have := h k (by omega)
    by_cases hf : f k = true <;> by_cases hg : g k = true <;> simp [hf, hg] at this ⊢ <;> omega
theorem cntB_free {n : Nat} {l : List Ex} : ∀ {a : Int}, okF n a l = true → cntB (freeB l) n = sumE l := by
  induction l with
  | nil =>
    intro a _
    have : ∀ k, cntB (freeB []) k = 0 := fun k => by induction k with
      | zero => rfl
      | succ k ih => simp [cntB, ih, freeB]
    rw [this]; rfl
  | cons f r ih =>
    intro a h
    obtain ⟨⟨b1, b2, b3⟩, b4, b5⟩ := okF_cons.1 h
    have e : freeB (f :: r) = fun t => inB f f.len t || freeB r t := by funext t; simp [freeB]
    rw [e, cntB_or _ _ _ fun t _ ⟨h1, h2⟩ => by
      have h3 := mem_low b5 (freeB_iff.1 h2)
      have h4 := inB_iff.1 h1
      unfold inE at h4; omega]
    rw [ih b5, cntB_inB f f.len b1 (by omega), sumE]
    rw [if_neg (by omega)]
    split <;> omega
end Go.Proofs.Yteokimebfbnlkaa
