import Derived.Test.YtcgfcdbchcehmaaS57
namespace Go.Proofs.Ytcgfcdbchcehmaa
open Go.RowKit

theorem refwrite_any (lo : Nat) (v bb : Value) (d : Dk) (at_ : Int) (b : List UInt8) (w : World) (h : Dsk lo w.heap.size w v d) (hb : Bs lo w.heap.size w bb b) (hL : d.dry.length ≤ 1000000) (hW : d.wet.length ≤ 1000) :
    Calls Try.prog 13 #[v, .int .i64 at_, bb] w fun e w' => ∃ v' E, e = .returned (.tuple #[v', .int .i64 E]) ∧ Dsk w.heap.size w'.heap.size w' v' (wrD d at_ b).1 ∧ E = (wrD d at_ b).2 ∧ Below w.heap.size w w' := by
  have hb' := hb
  obtain ⟨A, c, rfl, x1, x2, _⟩ := hb'
  cases hq : wrB d at_ b.length
  · refine (refwrite_bad lo v d at_ A b.length c w h (by omega) hq).mono ?_
    rintro e w' ⟨rfl, hb1⟩
    have : wrD d at_ b = (noDk, 1) := by simp [wrD, hq]
    exact ⟨_, _, rfl, by rw [this]; exact noDk_dsk _ _ _, by rw [this], hb1⟩
  · have hq' := hq
    unfold wrB at hq'
    simp only [Bool.and_eq_true, decide_eq_true_eq] at hq'
    obtain ⟨⟨h1, h2⟩, h3⟩ := hq'
    rw [h3] at hb ⊢
    by_cases h0 : d.left = 0
    · refine (refwrite_dead lo v d at_ A c w h (by rw [h1, h2]; rfl) h0).mono ?_
      rintro e w' ⟨rfl, hb1⟩
      have : wrD d at_ b = (noDk, 11) := by simp [wrD, hq, h0]
      exact ⟨_, _, rfl, by rw [this]; exact noDk_dsk _ _ _, by rw [this], hb1⟩
    · refine (refwrite_good lo v d at_ A c b w h hb h3 h1 h2 h0 hL hW).mono ?_
      rintro e w' ⟨v', rfl, hd, hb1⟩
      have : wrD d at_ b = (⟨d.dry, wrPg d.wet at_ b, less d.left⟩, 0) := by simp [wrD, hq, h0]
      exact ⟨_, _, rfl, by rw [this]; exact hd, by rw [this], hb1⟩
end Go.Proofs.Ytcgfcdbchcehmaa
