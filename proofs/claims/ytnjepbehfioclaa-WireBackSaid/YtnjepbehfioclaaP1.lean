import Derived.Test.YtnjepbehfioclaaB1
namespace Go.Proofs.Ytnjepbehfioclaa
open Go.RowKit
attribute [local go_sem] bz_size bz_toList run_store_float
set_option maxRecDepth 100000

/-- Behind so many octets: what is put so far, and what is left. -/
theorem put_step (l : List UInt8) (k j q : Nat) (h : j < k) : l ++ putN (k - j) q = (l ++ [UInt8.ofNat q]) ++ putN (k - (j + 1)) (q / 256) := by
  obtain ⟨m, hm⟩ : ∃ m, k - j = m + 1 := ⟨k - j - 1, by omega⟩
  rw [hm, putN, show k - (j + 1) = m by omega]
  simp
set_option maxHeartbeats 1000000 in
theorem putNumber_any (base n c0 q k : Nat) (A : Option Addr) (l : List UInt8) (w : World) (h : w.ownsRow base 5 1 (.slice A n c0) n (l.flatMap bc)) (hb : base ≤ w.heap.size) (hk : k ≤ 8) (hn : n ≤ 1000000000) (hq : q < 18446744073709551616) :
    Calls Try.prog 22 #[.slice A n c0, .int .u64 (q : Int), .int .i64 (k : Int)] w fun e w' => ∃ A' c', e = .returned (.slice A' (n + k) c') ∧ w'.ownsRow base 5 1 (.slice A' (n + k) c') (n + k) ((l ++ putN k q).flatMap bc) ∧ Below base w w' ∧ Kept 5 w w' := by
  obtain ⟨i0, hi0, iz0, iz1, iz2⟩ := info_p info5
  replace hb := hide hb
  replace h := hide h
  go_enter Try.func22, Try.ntmps22
  go_wp2_with fail
  go_loopw [0, 1, 8] (fun s0 s1 i wr => ∃ (j n' c' p : Nat) (A' : Option Addr) (lj : List UInt8), j ≤ k ∧ s0 = .slice A' n' c' ∧ s1 = .int .u64 (p : Int) ∧ i = .int .i64 (j : Int) ∧ p < 18446744073709551616 ∧ n' = n + j ∧ Hid (l ++ putN k q = lj ++ putN (k - j) p) ∧ Hid (wr.ownsRow base 5 1 (.slice A' n' c') n' (lj.flatMap bc)) ∧ Hid (Below base w wr) ∧ Hid (Kept 5 w wr)) (fun _ _ i _ => 8 - (intOf i).toNat)
  case atStart => exact ⟨0, n, c0, q, A, l, by omega, rfl, rfl, rfl, hq, rfl, hide rfl, h, hide (Below.refl _ _), hide (Kept.refl _ _)⟩
  case round =>
    obtain ⟨j, n', c', p, A', lj, hj, rfl, rfl, rfl, hp, hn', hl, ho, hB, hE⟩ := hrel
    by_cases hlt : j < k
    · have x1 := n8_of p
      obtain ⟨p', hp'⟩ : ∃ p', p' = p / 256 := ⟨_, rfl⟩
      have x2 : (p : Int) / 256 = (p' : Int) := by omega
      have hl2 := (unhide hl).trans (put_step lj k j p hlt)
      rw [← hp'] at hl2
      have hp2 : p' < 18446744073709551616 := by omega
      obtain ⟨x, hx⟩ : ∃ x, x = UInt8.ofNat p := ⟨_, rfl⟩
      rw [← hx] at x1 hl2
      have u1 : n' + 1 ≤ maxLen := by simp only [maxLen]; omega
      have u2 : (n' + 1) * 1 ≤ 140737488355328 := by omega
      have hto := bc_one x
      have hfl := flat_snoc bc lj x
      have hsz := (unhide hB).size
      replace hl2 := hide hl2; replace hto := hide hto; replace hfl := hide hfl; replace u1 := hide u1; replace u2 := hide u2; replace hsz := hide hsz; replace hn' := hide hn'; replace hx := hide hx; replace hp' := hide hp'
      clear hl
      go_wp2_with (first
        | (at_builtin
           refine wpList_app _ rfl (.tmp 10) (.tmp 13) 27 rfl base 5 i0 _ 1 1 Try.underlying27 hi0 iz0 iz1 iz2 rfl (Nat.succ_pos _) _ n' (lj.flatMap bc) rfl ((unhide ho).alloc _) (some ⟨wr.heap.size, 0, none⟩) 1 1 (bc x) rfl rfl (one_src _ x) (unhide hto) (unhide u1) (unhide u2) (by have := unhide hsz; have := unhide hb; simp; omega) ?_
           intro v2 w2 hown2 hg2
           obtain ⟨A2, c2, rfl⟩ := ownsRow_form hown2
           rw [unhide hfl] at hown2)
        | fail)
      go_roundw
      case rel => exact ⟨j + 1, n' + 1, c2, p', A2, lj ++ [x], by omega, rfl, rfl, by go_num, hp2, by have := unhide hn'; omega, hl2, hide hown2, hide (below_app (unhide hB) (unhide hb) (unhide ho) hg2), hide (((unhide hE).alloc _).grown ((unhide ho).alloc _) hg2)⟩
      case measure => simp [intOf]; omega
    · obtain rfl : j = k := by omega
      have e : l ++ putN j q = lj := by rw [unhide hl, Nat.sub_self]; simp [putN]
      subst hn'
      clear hl hlt
      replace e := hide e
      go_wp2_with fail
      go_ret
      exact ⟨_, _, rfl, by rw [unhide e]; exact unhide ho, unhide hB, unhide hE⟩
end Go.Proofs.Ytnjepbehfioclaa
