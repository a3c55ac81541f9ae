import Derived.Test.YtnjepbehfioclaaP1
import Derived.Laws.Bits64b
namespace Go.Proofs.Ytnjepbehfioclaa
open Go.RowKit
attribute [local go_sem] bz_size bz_toList run_store_float
set_option maxRecDepth 100000

set_option maxHeartbeats 1000000 in
theorem refPut_any (q k : Nat) (w : World) (hk : k ≤ 8) (hq : q < 18446744073709551616) :
    Calls Try.prog 25 #[.int .u64 (q : Int), .int .i64 (k : Int)] w fun e w' => ∃ A' c', e = .returned (.slice A' k c') ∧ w'.ownsRow w.heap.size 5 1 (.slice A' k c') k ((putN k q).flatMap bc) ∧ Below w.heap.size w w' := by
  obtain ⟨i0, hi0, iz0, iz1, iz2⟩ := info_p info5
  have h : w.ownsRow w.heap.size 5 1 (.slice none 0 0) 0 (([] : List UInt8).flatMap bc) := World.ownsRow_nil _ _ _ _
  replace h := hide h
  go_enter Try.func25, Try.ntmps25
  go_wp2_with fail
  go_loopw [0, 5, 7] (fun s1 s0 i wr => ∃ (j c' p : Nat) (A' : Option Addr) (lj : List UInt8), j ≤ k ∧ s0 = .slice A' j c' ∧ s1 = .int .u64 (p : Int) ∧ i = .int .i64 (j : Int) ∧ p < 18446744073709551616 ∧ Hid (putN k q = lj ++ putN (k - j) p) ∧ Hid (wr.ownsRow w.heap.size 5 1 (.slice A' j c') j (lj.flatMap bc)) ∧ Hid (Below w.heap.size w wr)) (fun _ _ i _ => 8 - (intOf i).toNat)
  case atStart => exact ⟨0, 0, q, none, [], by omega, rfl, rfl, rfl, hq, hide rfl, h, hide (Below.refl _ _)⟩
  case round =>
    obtain ⟨j, c', p, A', lj, hj, rfl, rfl, rfl, hp, hl, ho, hB⟩ := hrel
    by_cases hlt : j < k
    · have x1 := n8_of p
      have x0 : (p : Int).tmod 256 = (p : Int) % 256 := Int.tmod_eq_emod_of_nonneg (by omega)
      have x0' : (p : Int).tdiv 256 = (p : Int) / 256 := Int.tdiv_eq_ediv_of_nonneg (by omega)
      obtain ⟨p', hp'⟩ : ∃ p', p' = p / 256 := ⟨_, rfl⟩
      have x2 : (p : Int) / 256 = (p' : Int) := by omega
      have hl2 := (unhide hl).trans (put_step lj k j p hlt)
      rw [← hp'] at hl2
      have hp2 : p' < 18446744073709551616 := by omega
      obtain ⟨x, hx⟩ : ∃ x, x = UInt8.ofNat p := ⟨_, rfl⟩
      rw [← hx] at x1 hl2
      rw [x1] at x0
      rw [x2] at x0'
      have x3 : n8 x % (256 : Int) = n8 x := by have := n8_lo x; have := n8_hi x; omega
      have u1 : j + 1 ≤ maxLen := by simp only [maxLen]; omega
      have u2 : (j + 1) * 1 ≤ 140737488355328 := by omega
      have hto := bc_one x
      have hfl := flat_snoc bc lj x
      have hsz := (unhide hB).size
      replace hl2 := hide hl2; replace hto := hide hto; replace hfl := hide hfl; replace u1 := hide u1; replace u2 := hide u2; replace hsz := hide hsz; replace hx := hide hx; replace hp' := hide hp'
      clear hl
      go_wp2_with (first
        | (at_builtin
           refine wpList_app _ rfl (.tmp 9) (.tmp 13) 27 rfl w.heap.size 5 i0 _ 1 1 Try.underlying27 hi0 iz0 iz1 iz2 rfl (Nat.succ_pos _) _ j (lj.flatMap bc) rfl ((unhide ho).alloc _) (some ⟨wr.heap.size, 0, none⟩) 1 1 (bc x) rfl rfl (one_src _ x) (unhide hto) (unhide u1) (unhide u2) (by have := unhide hsz; simp; omega) ?_
           intro v2 w2 hown2 hg2
           obtain ⟨A2, c2, rfl⟩ := ownsRow_form hown2
           rw [unhide hfl] at hown2)
        | fail)
      go_roundw
      case rel => exact ⟨j + 1, c2, p', A2, lj ++ [x], by omega, rfl, rfl, by go_num, hp2, hl2, hide hown2, hide (below_app (unhide hB) (Nat.le_refl _) (unhide ho) hg2)⟩
      case measure => simp [intOf]; omega
    · obtain rfl : j = k := by omega
      have e : putN j q = lj := by rw [unhide hl, Nat.sub_self]; simp [putN]
      clear hl hlt
      replace e := hide e
      go_wp2_with fail
      go_ret
      exact ⟨_, _, rfl, by rw [unhide e]; exact unhide ho, unhide hB⟩

/-- Octets joined. -/
theorem q_put (p k : Nat) (c : UInt8) (hk : k < 8) (hp : p < 256 ^ k) : bits .or .u64 (p : Int) (IntKind.u64.wrap (IntKind.u64.wrap (n8 c) * 2 ^ (8 * k))) = ((p + c.toNat * 256 ^ k : Nat) : Int) := by
  have hc := c.toNat_lt
  have h256 : (256 : Nat) ^ k = 2 ^ (8 * k) := by rw [show (256 : Nat) = 2 ^ 8 from rfl, ← Nat.pow_mul]
  have hle : 2 ^ (8 * k) ≤ 2 ^ 56 := Nat.pow_le_pow_right (by omega) (by omega)
  have hx : c.toNat * 2 ^ (8 * k) < 18446744073709551616 := by
    have : c.toNat * 2 ^ (8 * k) ≤ 255 * 2 ^ 56 := Nat.mul_le_mul (by omega) hle
    omega
  have e1 : IntKind.u64.wrap (n8 c) = (c.toNat : Int) := by rw [IntKind.wrap_u64]; unfold n8; omega
  have e2 : ((c.toNat : Int) * 2 ^ (8 * k)) = ((c.toNat * 2 ^ (8 * k) : Nat) : Int) := by rw [Int.natCast_mul, Int.natCast_pow]; rfl
  rw [e1, e2]
  rw [h256] at hp ⊢
  generalize hX : c.toNat * 2 ^ (8 * k) = X at *
  have e3 : IntKind.u64.wrap (X : Int) = (X : Int) := by rw [IntKind.wrap_u64]; omega
  rw [e3, bits_or_u64_nat p X (by omega) hx, Nat.or_comm, nat_join (8 * k) X p (by rw [← hX]; exact Nat.mul_mod_left _ _) hp, Nat.add_comm]
theorem take_snoc {l : List UInt8} {k : Nat} (h : k < l.length) : l.take (k + 1) = l.take k ++ [l[k]] := List.take_succ_eq_append_getElem h
theorem num_take {l : List UInt8} {k : Nat} (h : k < l.length) : numN (l.take (k + 1)) = numN (l.take k) + (l[k]).toNat * 256 ^ k := by
  rw [take_snoc h, num_snoc, List.length_take, Nat.min_eq_left (by omega)]
theorem num_take_lt (l : List UInt8) (k : Nat) : numN (l.take k) < 256 ^ k := by
  have h := numN_lt (l.take k)
  have : 256 ^ (l.take k).length ≤ 256 ^ k := Nat.pow_le_pow_right (by omega) (by rw [List.length_take]; omega)
  omega
set_option maxHeartbeats 1000000 in
theorem number_any (lo hi : Nat) (v : Value) (l : List UInt8) (w : World) (h : Bs lo hi w v l) (hl : l.length ≤ 8) :
    Calls Try.prog 53 #[v] w fun e w' => e = .returned (.int .u64 ((numN l : Nat) : Int)) ∧ w = w' := by
  obtain ⟨A, c, rfl, h1, h2, h3⟩ := h.openB
  obtain ⟨n, hn⟩ : ∃ n, n = l.length := ⟨_, rfl⟩
  have hs := fun k (hk : k < l.length) => num_take hk
  have hp := fun k => num_take_lt l k
  have he : numN (l.take n) = numN l := by rw [hn, List.take_length]
  have hz : numN (l.take 0) = 0 := rfl
  rw [← hn] at hl h1 ⊢
  replace hn := hide hn; replace h3 := hide h3; replace hs := hide hs; replace hp := hide hp; replace he := hide he; replace hz := hide hz
  clear h
  go_enter Try.func53, Try.ntmps53
  go_wp2
  go_loopw [3, 4, 5, 8] (fun s _ _ i wr => ∃ k p : Nat, k ≤ n ∧ s = .int .u64 (p : Int) ∧ Hid (p = numN (l.take k)) ∧ i = .int .i64 (k : Int) ∧ w = wr) (fun _ _ _ i _ => 8 - (intOf i).toNat)
  case atStart => exact ⟨0, 0, by omega, rfl, hide (unhide hz).symm, rfl, rfl⟩
  case round =>
    obtain ⟨k, p, hk, rfl, hpe, rfl, rfl⟩ := hrel
    by_cases hlt : k < n
    · have k1 : (k : Int) < n := by omega
      have hkl : k < l.length := by rw [← unhide hn]; exact hlt
      obtain ⟨b, off, rfl, _, _, hx⟩ := unhide h3 k hkl
      have hsk := unhide hs k hkl
      have hpk := unhide hp k
      rw [← unhide hpe] at hsk hpk
      generalize l[k] = q at *
      have hq := q_put p k q (by omega) hpk
      replace hsk := hide hsk; replace hpk := hide hpk; replace hq := hide hq
      go_wp2_with (fail)
      go_roundw
      case rel => exact ⟨k + 1, p + q.toNat * 256 ^ k, by omega, by rw [unhide hq], hide (unhide hsk).symm, by go_num, trivial⟩
      case measure => simp [intOf]; omega
    · obtain rfl : k = n := by omega
      go_wp2
      go_ret
      exact ⟨ret_i rfl (by rw [unhide hpe, unhide he]), rfl⟩
set_option maxHeartbeats 1000000 in
theorem refTake_any (lo hi : Nat) (v : Value) (l : List UInt8) (w : World) (h : Bs lo hi w v l) (hl : l.length ≤ 8) :
    Calls Try.prog 31 #[v] w fun e w' => e = .returned (.int .u64 ((numN l : Nat) : Int)) ∧ w = w' := by
  obtain ⟨A, c, rfl, h1, h2, h3⟩ := h.openB
  obtain ⟨n, hn⟩ : ∃ n, n = l.length := ⟨_, rfl⟩
  have hs : ∀ k (hk : k < l.length), numN (l.drop k) = (l[k]).toNat + 256 * numN (l.drop (k + 1)) := fun k hk => by rw [List.drop_eq_getElem_cons hk]; rfl
  have hp : ∀ k, k < l.length → 256 * numN (l.drop (k + 1)) ≤ 18446744073709551616 - 256 := fun k hk => by
    have h4 := numN_lt (l.drop (k + 1))
    have h5 : 256 ^ (l.drop (k + 1)).length ≤ 256 ^ 7 := Nat.pow_le_pow_right (by omega) (by rw [List.length_drop]; omega)
    omega
  have he : numN (l.drop n) = 0 := by rw [hn, List.drop_length]; rfl
  rw [← hn] at hl h1 ⊢
  replace hn := hide hn; replace h3 := hide h3; replace hs := hide hs; replace hp := hide hp; replace he := hide he
  clear h
  go_enter Try.func31, Try.ntmps31
  go_wp2
  go_loopw [3, 4] (fun s i wr => ∃ k p : Nat, k ≤ n ∧ s = .int .u64 (p : Int) ∧ Hid (p = numN (l.drop k)) ∧ i = .int .i64 ((k : Int) - 1) ∧ w = wr) (fun _ i _ => (intOf i + 1).toNat)
  case atStart => exact ⟨n, 0, by omega, rfl, hide (unhide he).symm, by go_num, rfl⟩
  case round =>
    obtain ⟨k, p, hk, rfl, hpe, rfl, rfl⟩ := hrel
    cases k with
    | zero =>
      go_wp2
      go_ret
      exact ⟨ret_i rfl (by rw [unhide hpe]; rfl), rfl⟩
    | succ k =>
      have hkl : k < l.length := by rw [← unhide hn]; omega
      obtain ⟨b, off, rfl, _, _, hx⟩ := unhide h3 k hkl
      have hsk := unhide hs k hkl
      have hpk := unhide hp k hkl
      rw [← unhide hpe] at hsk hpk
      generalize l[k] = q at *
      have ek : ((k + 1 : Nat) : Int) - 1 = (k : Int) := by omega
      rw [ek]
      have q0 := n8_lo q
      have q1 := n8_hi q
      have x1 : n8 q % (18446744073709551616 : Int) = n8 q := by omega
      have x2 : ((256 : Int) * (p : Int)) % (18446744073709551616 : Int) = 256 * (p : Int) := by omega
      have x3 : ((256 : Int) * (p : Int) + n8 q) % (18446744073709551616 : Int) = 256 * (p : Int) + n8 q := by omega
      have x4 : (256 : Int) * (p : Int) + n8 q = ((q.toNat + 256 * p : Nat) : Int) := by unfold n8; omega
      replace hsk := hide hsk; replace x4 := hide x4
      clear hpk q0 q1
      go_wp2_with (fail)
      go_roundw
      case rel => exact ⟨k, q.toNat + 256 * p, by omega, by rw [unhide x4], hide (unhide hsk).symm, by go_num, trivial⟩
      case measure => simp [intOf]
end Go.Proofs.Ytnjepbehfioclaa
