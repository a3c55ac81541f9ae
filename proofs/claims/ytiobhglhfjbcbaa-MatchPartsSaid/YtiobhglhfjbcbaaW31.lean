import Derived.Test.YtiobhglhfjbcbaaW29
import Derived.Test.YtiobhglhfjbcbaaW30
namespace Go.Proofs.Ytiobhglhfjbcbaa
open Go.RowKit

theorem textR_ok {l : List Tok} (h : okL 0 l = true) (hl : l.length ≤ 200) : textR l 65536 = (textF [] l, 0) := by
  have s := okL_sum h
  have hok : okB l = true := okB_iff.2 ⟨by omega, h⟩
  rw [textR, if_neg (by rw [hok]; decide), if_neg (by omega), if_pos ⟨by omega, by omega⟩]

theorem parts_any (lo : Nat) (v : Value) (l : List Tok) (cut : Int) (w : World) (h : Tks lo w.heap.size w v l) :
    Calls Try.prog 7 #[v, .int .i64 cut] w fun e w' => e = .returned (.bool true) ∧ Below w.heap.size w w' := by
  by_cases hg : 200 < l.length ∨ l.length = 0
  · exact parts_gate lo v l cut w h hg
  · have hl : l.length ≤ 200 := by omega
    have h0 : 0 < l.length := by omega
    cases hok : okB l with
    | false => exact parts_bad lo v l cut w h h0 hl hok
    | true =>
      have hL := (okB_iff.1 hok).2
      have e1 := Int.emod_nonneg (cut.tmod l.length) (b := (l.length : Int)) (by omega)
      have e2 := Int.emod_lt_of_pos (cut.tmod l.length) (b := (l.length : Int)) (by omega)
      obtain ⟨k, hk⟩ : ∃ k : Nat, cut.tmod l.length % l.length = (k : Int) := ⟨_, (Int.toNat_of_nonneg e1).symm⟩
      have hkl : k < l.length := by omega
      obtain ⟨A, c, rfl, _, _, _⟩ := h.open
      have t1 := okL_take k hL
      have t2 := okL_take (k + 1) hL
      have l1 : (l.take k).length ≤ 200 := by rw [List.length_take]; omega
      have l2 : (l.take (k + 1)).length ≤ 200 := by rw [List.length_take]; omega
      have n0 := textF_len (b := []) hL
      have n1 := textF_len (b := []) t1
      have s0 := okL_sum hL
      simp only [List.length_nil] at n0 n1
      obtain ⟨ok1, ok2⟩ := okL_get hkl hL
      have hlen := tellT_len (b := textF [] (l.take k)) ok1
      have hsz := okT_size ok1
      obtain ⟨P2, Q2, hQ, hR⟩ := parts_pre hkl
      have hsn := textF_snoc (b := []) hkl
      have hQl : (textF [] (l.take (k + 1))).length = (textF [] (l.take k)).length + P2.length := by rw [hsn, hQ, List.length_append]
      have hRl : (textF [] l).length = (textF [] (l.take (k + 1))).length + Q2.length := by rw [hR, hsn, List.length_append]
      have hQR : (textF [] l).take (textF [] (l.take (k + 1))).length = textF [] (l.take (k + 1)) := by
        rw [hsn]
        conv => lhs; rw [hR]
        exact List.take_left' rfl
      have hPQ : (textF [] (l.take (k + 1))).take (textF [] (l.take k)).length = textF [] (l.take k) := by
        rw [hsn, hQ]; exact List.take_left' rfl
      rw [← hsn] at hlen
      by_cases hz : l[k].len = 0
      · refine parts_lit lo A c l cut k l[k] _ _ _ _ _ _ w h hkl hl hk rfl rfl rfl rfl (textR_ok t1 l1) (textR_ok t2 l2) (textR_ok hL hl) hQR hPQ (by omega) (by omega) (by omega) hz ?_ ?_
        · have : sizeT l[k] = 1 := by simp [sizeT, hz]
          omega
        · rw [hsn, tellT, if_pos hz, List.getD_eq_getElem?_getD, List.getElem?_append_right (Nat.le_refl _), Nat.sub_self]
          rfl
      · obtain ⟨_, k1, k2, k3, k4⟩ := okT_len ok1 hz
        have hs : sizeT l[k] = l[k].len := by simp [sizeT, hz]
        refine parts_rep lo A c l cut k l[k] _ _ _ _ _ _ w h hkl hl hk rfl rfl rfl rfl (textR_ok t1 l1) (textR_ok t2 l2) (textR_ok hL hl) hQR hPQ (by omega) (by omega) (by omega) k1 k2 k3 (by omega) (by omega) ?_
        intro i hi1 hi2
        rw [hsn, tellT, if_neg hz]
        exact tellN_get hi1 (by omega) (by omega) (by omega)
end Go.Proofs.Ytiobhglhfjbcbaa
