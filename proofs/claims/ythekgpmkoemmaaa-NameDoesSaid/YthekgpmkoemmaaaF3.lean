import Derived.Test.YthekgpmkoemmaaaF2
import Derived.Test.YthekgpmkoemmaaaC5
namespace Go.Proofs.Ythekgpmkoemmaaa
open Go.RowKit
attribute [local go_sem] bz_size bz_toList

/-! ### the reference's join -/
theorem jn_take_succ {k : List (List UInt8)} {i : Nat} (hi : i < k.length) : jn (k.take (i + 1)) = if i = 0 then k[i] else jn (k.take i) ++ 47 :: k[i] := by
  rw [List.take_succ_eq_append_getElem hi]
  by_cases h : i = 0
  · subst h; simp [jn, tailJ]
  · rw [if_neg h, jn_snoc _ _ (by intro e; have := congrArg List.length e; rw [List.length_take, List.length_nil] at this; omega)]
theorem jn_take_le (k : List (List UInt8)) (i : Nat) : (jn (k.take i)).length ≤ (jn k).length := by
  by_cases h : k.take i = []
  · rw [h]; simp [jn]
  · conv => rhs; rw [← List.take_append_drop i k]
    rw [jn_append _ _ h]; simp

set_option maxHeartbeats 1000000 in
theorem refJoin_any (lo hi : Nat) (v : Value) (k : List (List UInt8)) (w : World) (h : Ss lo hi w v k) (hk : k.length ≤ 1000) (hlen : (jn k).length ≤ 1000) :
    Calls Try.prog 28 #[v] w fun e w' => e = .returned (.string (bz (jn k))) ∧ w = w' := by
  obtain ⟨A, c, rfl, h1, h2, h3⟩ := h.open
  clear h
  replace h3 := hide h3
  have HL := hide hlen
  clear hlen
  go_enter Try.func28, Try.ntmps28
  go_wp2
  go_loop [3, 8] (fun s i => ∃ (j : Nat) (t : List UInt8), j ≤ k.length ∧ s = .string (bz t) ∧ i = .int .i64 j ∧ Hid (t = jn (k.take j))) (fun _ i => k.length - (intOf i).toNat)
  case atStart => exact ⟨0, [], Nat.zero_le _, rfl, rfl, hide rfl⟩
  case round =>
    obtain ⟨j, t, hj, rfl, rfl, ht⟩ := hrel
    by_cases hlt : j < k.length
    · obtain ⟨b, off, rfl, _, _, hc⟩ := unhide h3 j hlt
      have hs := jn_take_succ hlt
      have l1 := jn_take_le k j
      have l2 := jn_take_le k (j + 1)
      have l3 := unhide HL
      have ht' := unhide ht
      by_cases hj0 : j = 0
      · subst hj0
        obtain rfl : t = [] := ht'
        rw [if_pos rfl] at hs
        have hl0 : (k[0]).length ≤ 1000 := by rw [← hs]; omega
        obtain ⟨x, hx⟩ : ∃ x, x = k[0] := ⟨_, rfl⟩
        rw [← hx] at hc hs hl0
        rw [Nat.add_zero] at hc
        clear hx l1 l2 l3 h3 ht
        have e1 : bz [] ++ bz x = bz x := bz_add [] x
        replace e1 := hide e1
        replace hs := hide hs
        go_wp2
        go_round
        case rel => exact ⟨1, x, by omega, by rw [unhide e1], by go_num, hide (unhide hs).symm⟩
        case measure => simp [intOf]; omega
      · rw [if_neg hj0] at hs
        obtain ⟨x, hx⟩ : ∃ x, x = k[j] := ⟨_, rfl⟩
        rw [← hx] at hc hs
        rw [← ht'] at hs l1
        have hl2 : (t ++ 47 :: x).length ≤ 1000 := by rw [← hs]; omega
        have hlt2 : t.length + 1 + x.length ≤ 1000 := by simp at hl2; omega
        have hlt1 : t.length ≤ 1000 := by omega
        have hlx : x.length ≤ 1000 := by omega
        clear hx l1 l2 l3 h3 ht' ht hl2
        have e1 := bz_cat t x
        replace e1 := hide e1
        replace hs := hide hs
        have hjp : 0 < j := by omega
        have hji : (0 : Int) < (j : Int) := by omega
        go_wp2
        go_round
        case rel => exact ⟨j + 1, t ++ 47 :: x, by omega, by rw [← unhide e1], by go_num, hide (unhide hs).symm⟩
        case measure => simp [intOf]; omega
    · obtain rfl : j = k.length := by omega
      have ht' := unhide ht
      rw [List.take_length] at ht'
      clear ht h3
      replace ht' := hide ht'
      go_wp2
      go_ret
      refine ⟨?_, rfl⟩
      rw [unhide ht']
      rfl
end Go.Proofs.Ythekgpmkoemmaaa
