import Derived.Test.YtfihgjdppkiolaaP6
import Derived.Test.YtfihgjdppkiolaaE3
namespace Go.Proofs.Ytfihgjdppkiolaa
set_option maxRecDepth 100000
open Go.RowKit

/-- The reader 'g' holds 'r', which may be. -/
structure Rd1 (base g gc cc gt ct : Nat) (w : World) (r : Rdr) (t : List Int) : Prop where
  rd : Rdg base g gc cc gt ct w r t
  ok : OkR r
  used : r.used ≤ t.length
theorem nextR_next (t : List Int) (r : Rdr) (i : Int) (h : (nextR t r i).2.2 = 0) (c : Int) (k m : Nat) (hi : i = c + m) : treeR t c (k + 1) m r = treeR t c k (2 * m + (if (nextR t r i).1 then 1 else 0)) (nextR t r i).2.1 := by
  subst hi
  rw [treeR, if_pos h]
theorem nextR_stop (t : List Int) (r : Rdr) (i : Int) (h : (nextR t r i).2.2 ≠ 0) (c : Int) (k m : Nat) (hi : i = c + m) : treeR t c (k + 1) m r = none := by
  subst hi
  rw [treeR, if_neg h]

set_option maxHeartbeats 2000000 in
theorem readNum_any (base g gc cc gt ct k : Nat) (c : Int) (r : Rdr) (t : List Int) (w : World) (hW : Rd1 base g gc cc gt ct w r t) (ht : okB t) (hl : t.length ≤ 1000000) (hk : k ≤ 8) (hc : 0 ≤ c ∧ c ≤ 528) :
    Calls Try.prog 75 #[.pointer (some ⟨g, 0, none⟩), .int .i64 k, .int .i64 c] w fun e w' =>
      ((∃ m r', treeR t c k 1 r = some (m, r') ∧ e = .returned (.tuple #[.int .i64 ((m : Int) - 2 ^ k), .int .i64 0]) ∧ Rd1 base g gc cc gt ct w' r' t) ∨
       (treeR t c k 1 r = none ∧ ∃ er : Int, er ≠ 0 ∧ e = .returned (.tuple #[.int .i64 0, .int .i64 er]))) ∧ But [g, gc] w w' := by
  have hN := fun (i : Int) (r : Rdr) (W : World) (h : Rd1 base g gc cc gt ct W r t) => Next_any base g gc cc gt ct i r t W h.rd h.ok ht hl h.used
  replace hN := hide hN
  replace hW := hide hW
  have hk2 : (1 : Int) * 2 ^ k ≤ 256 := by
    have : 2 ^ k ≤ 2 ^ 8 := Nat.pow_le_pow_right (by omega) hk
    have h2 : ((2 ^ k : Nat) : Int) ≤ 256 := by omega
    simpa using h2
  go_enter Try.func75, Try.ntmps75
  go_wp2_with fail
  go_loopw [8, 12] (fun s8 i wr => ∃ (j m : Nat) (r1 : Rdr), j ≤ k ∧ s8 = .int .i64 m ∧ i = .int .i64 j ∧ Hid (m < 2 ^ (j + 1)) ∧ 1 ≤ m ∧ m < 1024 ∧ Hid (treeR t c k 1 r = treeR t c (k - j) m r1) ∧ Hid (Rd1 base g gc cc gt ct wr r1 t) ∧ Hid (But [g, gc] w wr)) (fun _ i _ => 8 - (intOf i).toNat)
  case atStart => exact ⟨0, 1, r, by omega, rfl, rfl, hide (by decide), by omega, by omega, hide rfl, hW, hide (But.refl _ _)⟩
  case round =>
    obtain ⟨j, m, r1, hj, rfl, rfl, hm, hm1, hm2, hq, hR, hB⟩ := hrel
    by_cases hlt : j < k
    · have hN1 := unhide hN (c + m) r1 wr (unhide hR)
      have ha := fun h => nextR_next t r1 (c + m) h c (k - (j + 1)) m rfl
      have hb := fun h => nextR_stop t r1 (c + m) h c (k - (j + 1)) m rfl
      rw [show k - (j + 1) + 1 = k - j by omega] at ha hb
      have ho := nextR_ok (i := c + m) ht (unhide hR).ok
      have hu := nextR_used (i := c + m) (unhide hR).used
      generalize nextR t r1 (c + m) = X at *
      obtain ⟨b, r2, er⟩ := X
      simp only [] at hN1 ha hb ho hu
      replace hN1 := hide hN1
      replace ho := hide ho; replace hu := hide hu
      by_cases h0 : er = 0
      · subst h0
        replace ha := hide (ha rfl)
        clear hb
        cases b with
        | true =>
          have hor : bits .or .i64 ((m : Int) * 2) 1 = (m : Int) * 2 + 1 := i64_join 1 (by omega) _ _ (by omega) (by omega) (by omega) (by omega) (by omega)
          have hm3 : 2 * m + 1 < 2 ^ (j + 1 + 1) := by rw [Nat.pow_succ]; have := unhide hm; omega
          have hm4 : 2 * m + 1 < 1024 := by
            have : 2 ^ (j + 1 + 1) ≤ 2 ^ 9 := Nat.pow_le_pow_right (by omega) (by omega)
            omega
          replace hm3 := hide hm3
          go_wp2_with (first
            | (go_at_call 73; refine (unhide hN1).mono ?_; rintro e w1 ⟨rfl, hr, hbt⟩)
            | fail)
          go_roundw
          case rel => exact ⟨j + 1, 2 * m + 1, r2, by omega, by go_num, by go_num, hm3, by omega, hm4, hide (by rw [unhide hq, unhide ha]; rfl), hide ⟨hr, unhide ho, unhide hu⟩, hide ((unhide hB).trans hbt)⟩
          case measure => simp [intOf]; omega
        | false =>
          have hm3 : 2 * m + 0 < 2 ^ (j + 1 + 1) := by rw [Nat.pow_succ]; have := unhide hm; omega
          have hm4 : 2 * m + 0 < 1024 := by
            have : 2 ^ (j + 1 + 1) ≤ 2 ^ 9 := Nat.pow_le_pow_right (by omega) (by omega)
            omega
          replace hm3 := hide hm3
          go_wp2_with (first
            | (go_at_call 73; refine (unhide hN1).mono ?_; rintro e w1 ⟨rfl, hr, hbt⟩)
            | fail)
          go_roundw
          case rel => exact ⟨j + 1, 2 * m + 0, r2, by omega, by go_num, by go_num, hm3, by omega, hm4, hide (by rw [unhide hq, unhide ha]; rfl), hide ⟨hr, unhide ho, unhide hu⟩, hide ((unhide hB).trans hbt)⟩
          case measure => simp [intOf]; omega
      · replace hb := hide (hb h0)
        clear ha
        have h0' : (er == 0) = false := by simpa using h0
        go_wp2_with (first
          | (go_at_call 73; refine (unhide hN1).mono ?_; rintro e w1 ⟨rfl, hr, hbt⟩)
          | fail)
        go_ret2
        exact ⟨.inr ⟨by rw [unhide hq]; exact unhide hb, er, h0, rfl⟩, (unhide hB).trans hbt⟩
    · obtain rfl : j = k := by omega
      have hq2 : treeR t c j 1 r = some (m, r1) := by rw [unhide hq, Nat.sub_self]; rfl
      replace hq2 := hide hq2
      have hj8 : (j : Int) ≤ 8 := by omega
      clear hq hlt hm
      go_wp2_with fail
      have p0 : (0 : Int) ≤ 2 ^ j := Int.pow_nonneg (by omega)
      have p1 : wrap64 ((2 : Int) ^ j) = 2 ^ j := IntWalk.wrap64_in _ (by omega)
      have p2 : wrap64 ((m : Int) - 2 ^ j) = (m : Int) - 2 ^ j := IntWalk.wrap64_in _ (by omega)
      go_ret2
      exact ⟨.inl ⟨m, r1, unhide hq2, ret_ii rfl rfl (by rw [p1, p2]) rfl, unhide hR⟩, unhide hB⟩

theorem readNum_some (base g gc cc gt ct k : Nat) (c : Int) (r : Rdr) (t : List Int) (m : Nat) (r' : Rdr) (h : treeR t c k 1 r = some (m, r')) (w : World) (hW : Rd1 base g gc cc gt ct w r t) (ht : okB t) (hl : t.length ≤ 1000000) (hk : k ≤ 8) (hc : 0 ≤ c ∧ c ≤ 528) :
    Calls Try.prog 75 #[.pointer (some ⟨g, 0, none⟩), .int .i64 k, .int .i64 c] w fun e w' => e = .returned (.tuple #[.int .i64 ((m : Int) - 2 ^ k), .int .i64 0]) ∧ Rd1 base g gc cc gt ct w' r' t ∧ But [g, gc] w w' :=
  (readNum_any base g gc cc gt ct k c r t w hW ht hl hk hc).mono fun e w' ⟨ho, hb⟩ => by
    rcases ho with ⟨m', r2, h1, h2, h3⟩ | ⟨h1, _⟩
    · rw [h] at h1
      injection h1 with h1
      injection h1 with e1 e2
      subst e1 e2
      exact ⟨h2, h3, hb⟩
    · rw [h] at h1; cases h1
theorem readNum_none (base g gc cc gt ct k : Nat) (c : Int) (r : Rdr) (t : List Int) (h : treeR t c k 1 r = none) (w : World) (hW : Rd1 base g gc cc gt ct w r t) (ht : okB t) (hl : t.length ≤ 1000000) (hk : k ≤ 8) (hc : 0 ≤ c ∧ c ≤ 528) :
    Calls Try.prog 75 #[.pointer (some ⟨g, 0, none⟩), .int .i64 k, .int .i64 c] w fun e w' => ∃ er : Int, (er == 0) = false ∧ e = .returned (.tuple #[.int .i64 0, .int .i64 er]) ∧ But [g, gc] w w' :=
  (readNum_any base g gc cc gt ct k c r t w hW ht hl hk hc).mono fun e w' ⟨ho, hb⟩ => by
    rcases ho with ⟨m', r2, h1, h2, h3⟩ | ⟨_, er, h1, h2⟩
    · rw [h] at h1; cases h1
    · exact ⟨er, by simpa using h1, h2, hb⟩
end Go.Proofs.Ytfihgjdppkiolaa
