import Derived.Test.YtfihgjdppkiolaaP3
namespace Go.Proofs.Ytfihgjdppkiolaa
set_option maxRecDepth 100000
open Go.RowKit

theorem bitsF_snoc {l : List Tok} {k : Nat} (h : k < l.length) : bitsF (l.take (k + 1)) = bitsF (l.take k) ++ tokB l[k] := by
  rw [List.take_succ_eq_append_getElem h, bitsF_append]; simp [bitsF]
theorem bitsF_take_len {l : List Tok} (h : okL 0 l = true) (hl : l.length ≤ 65536) (k : Nat) : (bitsF (l.take k)).length ≤ 900000 := by
  have ho := okL_take k h
  rw [bitsF_cnt ho]
  have h1 : ∀ m : List Tok, (m.map fun t => 9 + (if 0 < t.len then 4 else 0)).sum ≤ 13 * m.length := by
    intro m
    induction m with
    | nil => simp
    | cons t r ih => simp; split <;> omega
  have h2 := h1 (l.take k)
  have h3 : (l.take k).length ≤ l.length := by rw [List.length_take]; exact Nat.min_le_right _ _
  omega
/-- What Bits answers. -/
def bitsT (l : List Tok) : List Bit := if M.okB l then bitsF l else []
theorem badE_eq (b : Bool) : M.badE b = if b then 0 else 1 := rfl

set_option maxHeartbeats 1000000 in
theorem Bits_bad (lo : Nat) (v : Value) (l : List Tok) (w : World) (h : M.Tks lo w.heap.size w v l) (ho : M.okB l = false) :
    Calls Try.prog 10 #[v] w fun e w' => e = .returned (.tuple #[.slice none 0 0, .int .i64 1]) ∧ Below w.heap.size w w' := by
  have hC := M.Check_any lo v l w h
  rw [ho] at hC
  replace hC : Calls Try.prog 20 #[v] w fun e w' => e = .returned (.int .i64 1) ∧ Below w.heap.size w w' := hC
  replace hC := hide hC
  go_enter Try.func10, Try.ntmps10
  go_wp2_with (first
    | (go_at_call 20; refine (unhide hC).mono ?_; rintro e w1 ⟨rfl, hb1⟩)
    | fail)
  go_ret2
  exact ⟨rfl, hb1⟩

set_option maxHeartbeats 2000000 in
theorem Bits_good (lo : Nat) (v : Value) (l : List Tok) (w : World) (h : M.Tks lo w.heap.size w v l) (ho : M.okB l = true) :
    Calls Try.prog 10 #[v] w fun e w' => ∃ A c, e = .returned (.tuple #[.slice A (bitsF l).length c, .int .i64 0]) ∧ w'.ownsRow w.heap.size 42 2 (.slice A (bitsF l).length c) (bitsF l).length ((bitsF l).flatMap btc) ∧ Below w.heap.size w w' := by
  have hC := M.Check_any lo v l w h
  rw [ho] at hC
  replace hC : Calls Try.prog 20 #[v] w fun e w' => e = .returned (.int .i64 0) ∧ Below w.heap.size w w' := hC
  obtain ⟨hl, hok⟩ := M.okB_iff.1 ho
  obtain ⟨A, c, rfl, h1, h2, h3⟩ := h.open
  clear h ho
  replace hC := hide hC; replace h3 := hide h3; replace hok := hide hok; replace hl := hide hl
  go_enter Try.func10, Try.ntmps10
  go_wp2_with (first
    | (go_at_call 20; refine (unhide hC).mono ?_; rintro e w1 ⟨rfl, hb1⟩; replace hb1 := hide hb1)
    | fail)
  go_loopw [5, 15] (fun s5 i wr => ∃ (k n c' : Nat) (A' : Option Addr), k ≤ l.length ∧ s5 = .slice A' n c' ∧ i = .int .i64 k ∧ Hid (n = (bitsF (l.take k)).length) ∧ Hid (wr.ownsRow w.heap.size 42 2 (.slice A' n c') n ((bitsF (l.take k)).flatMap btc)) ∧ Hid (Below w.heap.size w wr)) (fun _ i _ => l.length - (intOf i).toNat)
  case atStart => exact ⟨0, 0, 0, none, by omega, rfl, rfl, hide (by simp [bitsF]), hide (World.ownsRow_nil _ _ _ _), hb1⟩
  case round =>
    obtain ⟨k, n, c', A', hk, rfl, rfl, hn, hw, hB⟩ := hrel
    by_cases hlt : k < l.length
    · obtain ⟨b, off, rfl, g1, g2, q0, q1, q2⟩ := unhide h3 k hlt
      have c0 := ((unhide hB).cell (p := ⟨b, off + k * 3, none⟩) g2).trans q0
      have c1 := ((unhide hB).cell (p := ⟨b, off + k * 3 + 1, none⟩) g2).trans q1
      have c2 := ((unhide hB).cell (p := ⟨b, off + k * 3 + 2, none⟩) g2).trans q2
      have hs := bitsF_snoc hlt
      obtain ⟨hot, _⟩ := okL_get hlt (unhide hok)
      have hnn := bitsF_take_len (unhide hok) (unhide hl) k
      rw [← unhide hn] at hnn
      have hP := fun W (a : W.ownsRow w.heap.size 42 2 (.slice A' n c') n ((bitsF (l.take k)).flatMap btc)) (hs : w.heap.size ≤ W.heap.size) => putTok_any w.heap.size n c' A' (bitsF (l.take k)) l[k] W a hs hot (by omega)
      rw [← hs] at hP
      have hn2 : n + (tokB l[k]).length = (bitsF (l.take (k + 1))).length := by rw [hs, List.length_append, unhide hn]
      have hsz := (unhide hB).size
      generalize l[k] = t at *
      obtain ⟨T2, hT2⟩ : ∃ T2, T2 = bitsF (l.take (k + 1)) := ⟨_, rfl⟩
      rw [← hT2] at hP hn2
      replace hT2 := hide hT2
      rw [hn2] at hP
      obtain ⟨n2, hn3⟩ : ∃ n2, n2 = T2.length := ⟨_, rfl⟩
      rw [← hn3] at hP
      replace hn3 := hide hn3
      unfold tkV at hP
      obtain ⟨x, tl, td⟩ := t
      simp only [] at hP c0 c1 c2
      replace hP := hide hP; replace hsz := hide hsz; replace hk := hide hk
      clear hs hn2 hn q0 q1 q2 hot g1 g2
      go_wp2_with (first
        | (go_at_call 21; refine (unhide hP _ ((unhide hw).alloc _) (by have := unhide hsz; simp; omega)).mono ?_; rintro e w3 ⟨A3, c3, rfl, o3, B3, _⟩)
        | fail)
      go_roundw
      case rel => exact ⟨k + 1, n2, c3, A3, by omega, rfl, by go_num, by rw [← unhide hT2]; exact hn3, by rw [← unhide hT2]; exact hide o3, hide ((bb_alloc (unhide hB) (Nat.le_refl _) _).trans B3)⟩
      case measure => simp [intOf]; omega
    · obtain rfl : k = l.length := by omega
      rw [List.take_length] at hw hn
      go_wp2_with fail
      go_ret2
      rw [← unhide hn]
      exact ⟨_, _, rfl, unhide hw, unhide hB⟩

theorem Bits_any (lo : Nat) (v : Value) (l : List Tok) (w : World) (h : M.Tks lo w.heap.size w v l) :
    Calls Try.prog 10 #[v] w fun e w' => ∃ A c, e = .returned (.tuple #[.slice A (bitsT l).length c, .int .i64 (M.badE (M.okB l))]) ∧ w'.ownsRow w.heap.size 42 2 (.slice A (bitsT l).length c) (bitsT l).length ((bitsT l).flatMap btc) ∧ Below w.heap.size w w' := by
  cases ho : M.okB l with
  | true =>
    have e : bitsT l = bitsF l := by unfold bitsT; rw [ho]; rfl
    rw [e]
    exact Bits_good lo v l w h ho
  | false =>
    have e : bitsT l = [] := by unfold bitsT; rw [ho]; rfl
    rw [e]
    exact (Bits_bad lo v l w h ho).mono fun e w' ⟨he, hb⟩ => ⟨none, 0, he, World.ownsRow_nil _ _ _ _, hb⟩
end Go.Proofs.Ytfihgjdppkiolaa
