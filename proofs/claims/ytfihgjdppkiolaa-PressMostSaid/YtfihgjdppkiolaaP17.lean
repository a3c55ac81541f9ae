import Derived.Test.YtfihgjdppkiolaaP16
namespace Go.Proofs.Ytfihgjdppkiolaa
set_option maxRecDepth 100000
open Go.RowKit

/-- Unpack, its answer's parts given. -/
theorem Unpack_is (lo : Nat) (t : List Int) (most : Int) (ht : okB t) (hl : t.length ≤ 1000000) (bs : List UInt8) (er : Int) (hu : unpackR t most = (bs, er)) (v : Value) (w : World) (hv : Os lo w.heap.size w v t) :
    Calls Try.prog 18 #[v, .int .i64 most] w fun e w' => ∃ A c, e = .returned (.tuple #[.slice A bs.length c, .int .i64 er]) ∧ w'.ownsRow w.heap.size 5 1 (.slice A bs.length c) bs.length (bs.map M.u8v) ∧ Below w.heap.size w w' :=
  (Unpack_any lo v t most w hv ht hl).mono fun e w' ⟨A, n, c, h1, h2, h3⟩ => by
    rw [hu] at h1 h2
    have hn : n = bs.length := by have := ownsRow_len h2; simp at this; omega
    subst hn
    exact ⟨A, c, h1, h2, h3⟩
theorem longR_err (t : List Int) : (longR t).2 = 0 ∨ (longR t).2 = 2 := by
  unfold longR; split
  · exact .inr rfl
  · exact .inl rfl

set_option maxHeartbeats 2000000 in
theorem most_any (lo : Nat) (v : Value) (b : List UInt8) (most : Int) (w : World) (h : M.Bs lo w.heap.size w v b) :
    Calls Try.prog 6 #[v, .int .i64 most] w fun e w' => e = .returned (.bool true) ∧ Below w.heap.size w w' := by
  have hv := os_of h
  have ht := octs_ok b
  have hlen := octs_len b
  clear h
  have hL := fun W => live_any W
  have hLg := fun (W : World) (k : Os lo W.heap.size W v (octs b)) => Long_any lo v (octs b) W k ht
  have hU := fun (hl : (octs b).length ≤ 1000000) (bs : List UInt8) (er : Int) (hu : unpackR (octs b) most = (bs, er)) (W : World) (k : Os lo W.heap.size W v (octs b)) => Unpack_is lo (octs b) most ht hl bs er hu v W k
  have hmo := unpack_most (most := most) ht
  have herr := longR_err (octs b)
  generalize octs b = T at *
  obtain ⟨A, c, rfl, x1, x2, _⟩ := hv.open
  rw [hlen] at hLg hU x1 hv
  rw [hlen]
  replace hL := hide hL; replace hLg := hide hLg; replace hv := hide hv
  generalize b.length = m at *
  clear hlen
  obtain ⟨⟨N, E⟩, hNE⟩ : ∃ X : Int × Int, X = longR T := ⟨_, rfl⟩
  rw [← hNE] at hLg hmo herr
  simp only [] at hLg hmo herr
  by_cases hg : 300 < m
  · have hg' : (300 : Int) < (m : Int) := by omega
    clear hmo herr hU
    go_enter Try.func6, Try.ntmps6
    go_wp2_with (first
    | (go_at_call 9; refine (unhide hL _).mono ?_; rintro e w1 ⟨rfl, hb1⟩; have v1 := hide ((unhide hv).grow hb1); replace hb1 := hide hb1) | (go_at_call 14; refine (unhide hLg _ (unhide v1)).mono ?_; rintro e w2 ⟨rfl, hb2⟩; have v2 := hide ((unhide v1).grow hb2); replace hb2 := hide (bl_call (unhide hb1) hb2))
    | fail)
    go_ret
    exact ⟨rfl, unhide hb2⟩
  obtain ⟨⟨bs, er⟩, hbe⟩ : ∃ X : List UInt8 × Int, X = unpackR T most := ⟨_, rfl⟩
  have hA := hU (by omega) bs er hbe.symm
  rw [← hbe] at hmo
  simp only [] at hmo
  have hm3 : ¬ (300 : Int) < (m : Int) := by omega
  replace hA := hide hA
  clear hU hbe hNE hg
  rcases herr with rfl | rfl
  · by_cases hN : 2000 < N
    · clear hmo
      go_enter Try.func6, Try.ntmps6
      go_wp2_with (first
      | (go_at_call 9; refine (unhide hL _).mono ?_; rintro e w1 ⟨rfl, hb1⟩; have v1 := hide ((unhide hv).grow hb1); replace hb1 := hide hb1) | (go_at_call 14; refine (unhide hLg _ (unhide v1)).mono ?_; rintro e w2 ⟨rfl, hb2⟩; have v2 := hide ((unhide v1).grow hb2); replace hb2 := hide (bl_call (unhide hb1) hb2))
      | fail)
      go_ret
      exact ⟨rfl, unhide hb2⟩
    · rcases hmo with ⟨rfl, _, h2, h3⟩ | ⟨rfl, h1⟩
      · generalize bs.length = n at *
        subst h2
        go_enter Try.func6, Try.ntmps6
        go_wp2_with (first
        | (go_at_call 9; refine (unhide hL _).mono ?_; rintro e w1 ⟨rfl, hb1⟩; have v1 := hide ((unhide hv).grow hb1); replace hb1 := hide hb1) | (go_at_call 14; refine (unhide hLg _ (unhide v1)).mono ?_; rintro e w2 ⟨rfl, hb2⟩; have v2 := hide ((unhide v1).grow hb2); replace hb2 := hide (bl_call (unhide hb1) hb2))
        | (go_at_call 18; refine (unhide hA _ (unhide v2)).mono ?_; rintro e w3 ⟨A3, c3, rfl, _, hb3⟩)
        | fail)
        go_ret
        exact ⟨rfl, bl_call (unhide hb2) hb3⟩
      · rcases h1 with rfl | ⟨rfl, _, h2⟩ | ⟨rfl, h2⟩
        all_goals (
          go_enter Try.func6, Try.ntmps6
          go_wp2_with (first
          | (go_at_call 9; refine (unhide hL _).mono ?_; rintro e w1 ⟨rfl, hb1⟩; have v1 := hide ((unhide hv).grow hb1); replace hb1 := hide hb1) | (go_at_call 14; refine (unhide hLg _ (unhide v1)).mono ?_; rintro e w2 ⟨rfl, hb2⟩; have v2 := hide ((unhide v1).grow hb2); replace hb2 := hide (bl_call (unhide hb1) hb2))
          | (go_at_call 18; refine (unhide hA _ (unhide v2)).mono ?_; rintro e w3 ⟨A3, c3, rfl, _, hb3⟩)
          | fail)
          go_ret
          exact ⟨rfl, bl_call (unhide hb2) hb3⟩)
  · rcases hmo with ⟨_, h1, _⟩ | ⟨rfl, h1⟩
    · exact absurd h1 (by decide)
    · rcases h1 with rfl | ⟨_, h1, _⟩ | ⟨rfl, h2⟩
      rotate_left
      · exact absurd h1 (by decide)
      all_goals (
        go_enter Try.func6, Try.ntmps6
        go_wp2_with (first
        | (go_at_call 9; refine (unhide hL _).mono ?_; rintro e w1 ⟨rfl, hb1⟩; have v1 := hide ((unhide hv).grow hb1); replace hb1 := hide hb1) | (go_at_call 14; refine (unhide hLg _ (unhide v1)).mono ?_; rintro e w2 ⟨rfl, hb2⟩; have v2 := hide ((unhide v1).grow hb2); replace hb2 := hide (bl_call (unhide hb1) hb2))
        | (go_at_call 18; refine (unhide hA _ (unhide v2)).mono ?_; rintro e w3 ⟨A3, c3, rfl, _, hb3⟩)
        | fail)
        go_ret
        exact ⟨rfl, bl_call (unhide hb2) hb3⟩)
end Go.Proofs.Ytfihgjdppkiolaa
