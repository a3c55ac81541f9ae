import Derived.Test.YthmhhgodjpgjnaaW60
namespace Go.Proofs.Ythmhhgodjpgjnaa
open Go.RowKit

set_option maxHeartbeats 1000000 in
theorem refEncode_bad (n : Int) (hn : newN n = false) (v : Value) (w : World) :
    Calls Try.prog 11 #[.int .i64 n, v] w fun e w' => e = .returned (.tuple #[.slice none 0 0, .int .i64 1]) ∧ Below w.heap.size w w' := by
  have hN := fun W => refNew_bad n hn W
  replace hN := hide hN
  clear hn
  go_enter Try.func11, Try.ntmps11
  go_wp2_with (first
    | (go_at_call 28; refine (unhide hN _).mono ?_; rintro e w1 ⟨rfl, hb1⟩)
    | fail)
  go_ret2
  exact ⟨rfl, hb1⟩

set_option maxHeartbeats 1000000 in
theorem refEncode_none (n : Nat) (hn : n ≤ 1024) (lo : Nat) (v : Value) (bs : List Bit) (w : World) (h : Bts lo w.heap.size w v bs) (hl : bs.length ≤ 1000) (hin : bs.all (inB n) = false) :
    Calls Try.prog 11 #[.int .i64 n, v] w fun e w' => e = .returned (.tuple #[.slice none 0 0, .int .i64 4]) ∧ Below w.heap.size w w' := by
  have hN := fun W => refNew_own n hn W
  obtain ⟨A, c, rfl, x1, x2, x3⟩ := h.open
  have hL : ¬ (1048576 : Int) < (bs.length : Int) := by omega
  clear h
  replace hN := hide hN; replace hin := hide hin; replace x3 := hide x3
  go_enter Try.func11, Try.ntmps11
  go_wp2_with (first
    | (go_at_call 28; refine (unhide hN _).mono ?_; rintro e w1 ⟨A1, c1, rfl, ho, hb1⟩; clear ho; replace hb1 := hide hb1)
    | fail)
  clear hL
  go_loopw [30] (fun i wr => ∃ (k : Nat), k ≤ bs.length ∧ i = .int .i64 k ∧ Hid ((bs.take k).all (inB n) = true) ∧ Hid (Below w.heap.size w wr)) (fun i _ => bs.length - (intOf i).toNat)
  case atStart => exact ⟨0, Nat.zero_le _, rfl, hide (by simp), hb1⟩
  case round =>
    obtain ⟨k, hk, rfl, ha, hB⟩ := hrel
    by_cases hlt : k < bs.length
    · obtain ⟨b, off, rfl, g1, g2, q0, q1⟩ := unhide x3 k hlt
      have c0 := ((unhide hB).cell (p := ⟨b, off + k * 2, none⟩) g2).trans q0
      have c1 := ((unhide hB).cell (p := ⟨b, off + k * 2 + 1, none⟩) g2).trans q1
      have hs : (bs.take (k + 1)).all (inB n) = ((bs.take k).all (inB n) && inB n bs[k]) := by
        rw [List.take_succ_eq_append_getElem hlt, List.all_append]; simp
      rw [unhide ha, Bool.true_and] at hs
      generalize bs[k] = x at *
      obtain ⟨xa, xb⟩ := x
      simp only [] at c0 c1
      have hBA := (unhide hB).alloc (unhide hB).size (.cells #[.int .i64 xa, .bool xb] 51)
      have i1 : IntKind.i64.wrap ((k : Int) + 1) = (k : Int) + 1 := IntWalk.i64_in _ (by omega)
      have hk0 : (0 : Int) ≤ (k : Int) := by omega
      have hk1 : (k : Int) < (bs.length : Int) := by omega
      by_cases d0 : xa < 0
      · have e0 : decide (xa < 0) = true := by simpa using d0
        clear hs q0 q1 d0
        replace hBA := hide hBA
        go_wp2_with fail
        go_ret2
        exact ⟨rfl, unhide hBA⟩
      · have e0 : decide (xa < 0) = false := by simpa using d0
        by_cases d1 : (n : Int) ≤ xa
        · have e1 : decide ((n : Int) ≤ xa) = true := by simpa using d1
          clear hs q0 q1 d0 d1
          replace hBA := hide hBA
          go_wp2_with fail
          go_ret2
          exact ⟨rfl, unhide hBA⟩
        · have e1 : decide ((n : Int) ≤ xa) = false := by simpa using d1
          have hs' : inB n ⟨xa, xb⟩ = true := inB_iff.2 ⟨by simpa using d0, by simp; omega⟩
          rw [hs'] at hs
          clear hs' q0 q1 d0 d1
          replace hBA := hide hBA; replace hs := hide hs
          go_wp2_with fail
          clear i1
          go_roundw
          case rel => exact ⟨k + 1, by omega, by go_num, hs, hBA⟩
          case measure => simp [intOf]; omega
    · obtain rfl : k = bs.length := by omega
      have := unhide ha
      rw [List.take_length, unhide hin] at this
      cases this
end Go.Proofs.Ythmhhgodjpgjnaa
