import Derived.Test.YtfihgjdppkiolaaP16
import Derived.Test.YtfihgjdppkiolaaMF
import Derived.Test.YtfihgjdppkiolaaCL
namespace Go.Proofs.Ytfihgjdppkiolaa
set_option maxRecDepth 100000
open Go.RowKit

set_option maxHeartbeats 1000000 in
theorem refNum_any (N k : Nat) (c : Int) (w : World) (hk : k ≤ 8) (hc : 0 ≤ c ∧ c ≤ 528) :
    Calls Try.prog 23 #[.int .i64 N, .int .i64 k, .int .i64 c] w fun e w' => ∃ A' c', e = .returned (.slice A' k c') ∧ w'.ownsRow w.heap.size 42 2 (.slice A' k c') k ((numB c N k 1).flatMap btc) ∧ Below w.heap.size w w' := by
  obtain ⟨i0, hi0, iz0, iz1, iz2⟩ := info_parts info51
  go_enter Try.func23, Try.ntmps23
  go_wp2_with fail
  go_loopw [7, 8, 9] (fun s7 s8 s9 wr => ∃ (j m c' : Nat) (K : Int) (A' : Option Addr) (lj : List Bit), j ≤ k ∧ s7 = .slice A' j c' ∧ s8 = .int .i64 m ∧ s9 = .int .i64 K ∧ K = (k : Int) - 1 - j ∧ Hid (m < 2 ^ (j + 1)) ∧ m < 1024 ∧ Hid (numB c N k 1 = lj ++ numB c N (k - j) m) ∧ Hid (wr.ownsRow w.heap.size 42 2 (.slice A' j c') j (lj.flatMap btc)) ∧ Hid (Below w.heap.size w wr)) (fun _ _ s9 _ => (intOf s9 + 1).toNat)
  case atStart => exact ⟨0, 1, 0, (k : Int) - 1, none, [], by omega, rfl, rfl, rfl, by omega, hide (by decide), by omega, hide rfl, hide (World.ownsRow_nil _ _ _ _), hide (Below.refl _ _)⟩
  case round =>
    obtain ⟨j, m, c', K, A', lj, hj, rfl, rfl, rfl, hK, hm, hm2, hl, ho, hB⟩ := hrel
    by_cases hlt : j < k
    · obtain ⟨J, hJ⟩ : ∃ J, J = k - 1 - j := ⟨_, rfl⟩
      have hKn : K = (J : Int) := by omega
      subst hKn
      have hnx := numB_step c N (k - (j + 1)) m
      rw [show k - (j + 1) + 1 = k - j by omega, show k - (j + 1) = J by omega] at hnx
      have hq : N / 2 ^ J % 2 = 0 ∨ N / 2 ^ J % 2 = 1 := by omega
      have hdv : ((N : Int) / 2 ^ J) = ((N / 2 ^ J : Nat) : Int) := by simp
      have hrm : ((N : Int) / 2 ^ J).tmod 2 = ((N / 2 ^ J % 2 : Nat) : Int) := by rw [hdv]; generalize N / 2 ^ J = Z; rw [Int.tmod_eq_emod_of_nonneg (by omega)]; omega
      clear hdv
      have u1 : j + 1 ≤ maxLen := by simp only [maxLen]; omega
      have u2 : (j + 1) * 16 ≤ 140737488355328 := by omega
      have hsz := (unhide hB).size
      have hJ8 : J ≤ 8 := by omega
      have hJk : J + j + 1 = k := by omega
      replace hJk := hide hJk
      clear hJ hK
      rcases hq with hq | hq
      · rw [hq] at hrm hnx
        replace hrm : ((N : Int) / 2 ^ J).tmod 2 = 0 := hrm
        rw [show ((0 : Nat) == 1) = false from rfl] at hnx
        have hm3 : 2 * m + 0 < 2 ^ (j + 1 + 1) := by rw [Nat.pow_succ]; have := unhide hm; omega
        have hm4 : 2 * m + 0 < 1024 := by
          have : 2 ^ (j + 1 + 1) ≤ 2 ^ 9 := Nat.pow_le_pow_right (by omega) (by omega)
          omega
        have hto := btc_one ⟨c + m, false⟩
        have hfl := bt_snoc lj ⟨c + m, false⟩
        have hl2 : numB c N k 1 = (lj ++ [⟨c + m, false⟩]) ++ numB c N (k - (j + 1)) (2 * m + 0) := by rw [unhide hl, hnx, show k - (j + 1) = J by have := unhide hJk; omega]; simp
        replace hl2 := hide hl2; replace hm3 := hide hm3; replace hto := hide hto; replace hfl := hide hfl; replace u1 := hide u1; replace u2 := hide u2; replace hsz := hide hsz
        clear hl hnx hq
        go_wp2_with (first
          | (at_builtin
             refine wpList_app _ rfl (.tmp 22) (.tmp 28) 25 rfl w.heap.size 42 i0 _ 2 16 Try.underlying25 hi0 iz0 iz1 iz2 rfl (Nat.succ_pos _) _ j (lj.flatMap btc) rfl ((unhide ho).alloc _) (some ⟨wr.heap.size, 0, none⟩) 1 1 (btc ⟨c + m, false⟩) rfl rfl (bt_src (x := ⟨c + m, false⟩) (Blk.new rfl)) (unhide hto) (unhide u1) (unhide u2) (by have := unhide hsz; simp; omega) ?_
             intro v2 w2 hown2 hg2
             obtain ⟨A2, c2, rfl⟩ := ownsRow_form hown2
             rw [unhide hfl] at hown2)
          | fail)
        go_roundw
        case rel => exact ⟨j + 1, 2 * m + 0, c2, (J : Int) - 1, A2, lj ++ [⟨c + m, false⟩], by omega, rfl, by go_num, rfl, by have := unhide hJk; omega, hm3, hm4, hl2, hide hown2, hide (bl_grown (bl_alloc (unhide hB) _) hg2 (own_base (unhide ho)))⟩
        case measure => simp [intOf]
      · rw [hq] at hrm hnx
        replace hrm : ((N : Int) / 2 ^ J).tmod 2 = 1 := hrm
        rw [show ((1 : Nat) == 1) = true from rfl] at hnx
        have hm3 : 2 * m + 1 < 2 ^ (j + 1 + 1) := by rw [Nat.pow_succ]; have := unhide hm; omega
        have hm4 : 2 * m + 1 < 1024 := by
          have : 2 ^ (j + 1 + 1) ≤ 2 ^ 9 := Nat.pow_le_pow_right (by omega) (by omega)
          omega
        have hto := btc_one ⟨c + m, true⟩
        have hfl := bt_snoc lj ⟨c + m, true⟩
        have hl2 : numB c N k 1 = (lj ++ [⟨c + m, true⟩]) ++ numB c N (k - (j + 1)) (2 * m + 1) := by rw [unhide hl, hnx, show k - (j + 1) = J by have := unhide hJk; omega]; simp
        replace hl2 := hide hl2; replace hm3 := hide hm3; replace hto := hide hto; replace hfl := hide hfl; replace u1 := hide u1; replace u2 := hide u2; replace hsz := hide hsz
        clear hl hnx hq
        go_wp2_with (first
          | (at_builtin
             refine wpList_app _ rfl (.tmp 22) (.tmp 28) 25 rfl w.heap.size 42 i0 _ 2 16 Try.underlying25 hi0 iz0 iz1 iz2 rfl (Nat.succ_pos _) _ j (lj.flatMap btc) rfl ((unhide ho).alloc _) (some ⟨wr.heap.size, 0, none⟩) 1 1 (btc ⟨c + m, true⟩) rfl rfl (bt_src (x := ⟨c + m, true⟩) (Blk.new rfl)) (unhide hto) (unhide u1) (unhide u2) (by have := unhide hsz; simp; omega) ?_
             intro v2 w2 hown2 hg2
             obtain ⟨A2, c2, rfl⟩ := ownsRow_form hown2
             rw [unhide hfl] at hown2)
          | fail)
        go_roundw
        case rel => exact ⟨j + 1, 2 * m + 1, c2, (J : Int) - 1, A2, lj ++ [⟨c + m, true⟩], by omega, rfl, by go_num, rfl, by have := unhide hJk; omega, hm3, hm4, hl2, hide hown2, hide (bl_grown (bl_alloc (unhide hB) _) hg2 (own_base (unhide ho)))⟩
        case measure => simp [intOf]
    · obtain rfl : j = k := by omega
      have e : numB c N j 1 = lj := by rw [unhide hl, Nat.sub_self]; simp [numB]
      have hKn : K = -1 := by omega
      subst hKn
      clear hl hlt hK
      replace e := hide e
      go_wp2_with fail
      go_ret
      rw [unhide e]
      exact ⟨_, _, rfl, unhide ho, unhide hB⟩
end Go.Proofs.Ytfihgjdppkiolaa
