import Derived.Test.YteokimebfbnlkaaW17
namespace Go.Proofs.Yteokimebfbnlkaa
open Go.RowKit

/-- In whatever order two are kept. -/
theorem keep_two {x p q s t : Xs} {a b : Ex} {e f g h : Int} (h1 : KeepOut x a p e) (h2 : KeepOut x b q f) (h3 : KeepOut p b s g) (h4 : KeepOut q a t h) (e0 : e = 0) (f0 : f = 0) :
    g = h ∧ (g = 0 ∨ g = 4) ∧ s = t := by
  rcases h1 with ⟨_, r, _⟩ | ⟨_, _, _, r, _⟩ | ⟨ok, ha, fa, _, ps, pk, pm⟩
  · omega
  · omega
  rcases h2 with ⟨_, r, _⟩ | ⟨_, _, _, r, _⟩ | ⟨_, hb, fb, _, qs, qk, qm⟩
  · omega
  · omega
  have hbp : isOfB b p.size = true := by rw [ps]; exact hb
  have haq : isOfB a q.size = true := by rw [qs]; exact ha
  have key : (∀ i, inE b i → mem p.free i) ↔ (∀ i, inE a i → mem q.free i) := by
    constructor
    · intro hall i hi
      refine (qm i).2 ⟨fa i hi, fun hbi => ?_⟩
      exact ((pm i).1 (hall i hbi)).2 hi
    · intro hall i hi
      refine (pm i).2 ⟨fb i hi, fun hai => ?_⟩
      exact ((qm i).1 (hall i hai)).2 hi
  rcases h3 with ⟨r, _⟩ | ⟨_, _, r, g0, s0⟩ | ⟨_, _, r, g0, ss, sk, sm⟩
  · exact absurd ⟨pk, hbp⟩ r
  · rcases h4 with ⟨r', _⟩ | ⟨_, _, r', h0, t0⟩ | ⟨_, _, r', h0, ts, tk, tm⟩
    · exact absurd ⟨qk, haq⟩ r'
    · exact ⟨by rw [g0, h0], .inr g0, by rw [s0, t0]⟩
    · exact absurd (key.2 r') r
  · rcases h4 with ⟨r', _⟩ | ⟨_, _, r', h0, t0⟩ | ⟨_, _, r', h0, ts, tk, tm⟩
    · exact absurd ⟨qk, haq⟩ r'
    · exact absurd (key.1 r) r'
    · refine ⟨by rw [g0, h0], .inl g0, okX_ext sk tk (by rw [ss, ts, ps, qs]) fun i => ?_⟩
      rw [sm, tm, pm, qm]
      constructor
      · rintro ⟨⟨a1, a2⟩, a3⟩; exact ⟨⟨a1, a3⟩, a2⟩
      · rintro ⟨⟨a1, a2⟩, a3⟩; exact ⟨⟨a1, a3⟩, a2⟩
end Go.Proofs.Yteokimebfbnlkaa
