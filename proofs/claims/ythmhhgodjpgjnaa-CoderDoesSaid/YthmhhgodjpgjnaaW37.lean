import Derived.Test.YthmhhgodjpgjnaaW36
namespace Go.Proofs.Ythmhhgodjpgjnaa
open Go.RowKit

set_option maxHeartbeats 1000000 in
theorem places_any (lo : Nat) (v : Value) (bs : List Bit) (w : World) (h : Bts lo w.heap.size w v bs) (hl : bs.length ≤ 1000) :
    Calls Try.prog 21 #[v] w fun e w' => ∃ A c, e = .returned (.slice A bs.length c) ∧ w'.ownsRow w.heap.size 3 1 (.slice A bs.length c) bs.length ((bs.map Bit.at_).flatMap ivc) ∧ Below w.heap.size w w' := by
  obtain ⟨i0, hi0, hz0, hz1, hz2⟩ := info3'
  obtain ⟨A, c, rfl, x1, x2, x3⟩ := h.open
  clear h
  replace x3 := hide x3
  go_enter Try.func21, Try.ntmps21
  go_wp2_with fail
  go_loopw [3, 8] (fun s i wr => ∃ (k : Nat) (A : Option Addr) (c : Nat), k ≤ bs.length ∧ i = .int .i64 k ∧ s = .slice A k c ∧ Hid (wr.ownsRow w.heap.size 3 1 (.slice A k c) k (((bs.take k).map Bit.at_).flatMap ivc)) ∧ Hid (Below w.heap.size w wr)) (fun _ i _ => bs.length - (intOf i).toNat)
  case atStart => exact ⟨0, none, 0, Nat.zero_le _, rfl, rfl, hide (World.ownsRow_nil _ _ _ _), hide (by (repeat (first | with_reducible exact Below.refl _ _ | with_reducible assumption | with_reducible refine Below.drew ?_ | with_reducible refine bl_alloc ?_ _ | with_reducible refine bl_call ?_ (by assumption) | (focus (with_reducible refine Below.setCell ?_ ?_ _; rotate_left; focus (first | omega | (simp <;> omega)))) | fail)))⟩
  case round =>
    obtain ⟨k, A, c, hk, rfl, rfl, ho, hb⟩ := hrel
    by_cases hlt : k < bs.length
    · obtain ⟨b, off, rfl, g1, g2, q0, q1⟩ := unhide x3 k hlt
      have c0 := ((unhide hb).cell (p := ⟨b, off + k * 2, none⟩) g2).trans q0
      have c1 := ((unhide hb).cell (p := ⟨b, off + k * 2 + 1, none⟩) g2).trans q1
      have hf : ((bs.take (k + 1)).map Bit.at_).flatMap ivc = ((bs.take k).map Bit.at_).flatMap ivc ++ [.int .i64 bs[k].at_] := by
        rw [List.take_succ_eq_append_getElem hlt, List.map_append, List.flatMap_append]; rfl
      generalize bs[k] = x at *
      obtain ⟨xa, xb⟩ := x
      simp only [] at c0 c1 hf
      have hsz := (unhide hb).size
      have ho1 := ((unhide ho).alloc (.cells #[.int .i64 xa, .bool xb] 51)).alloc (.cells #[.int .i64 xa] 3)
      have hsrc : SrcOk ((wr.alloc (.cells #[.int .i64 xa, .bool xb] 51)).alloc (.cells #[.int .i64 xa] 3)) (some ⟨wr.heap.size + 1, 0, none⟩) 1 [.int .i64 xa] := SrcOk.blk (cur := [.int .i64 xa]) (Blk.new (by simp)) fun j u hu => by simpa using hu
      have hs1 : w.heap.size ≤ ((wr.alloc (.cells #[.int .i64 xa, .bool xb] 51)).alloc (.cells #[.int .i64 xa] 3)).heap.size := by simp; omega
      have hb1 : k + 1 ≤ maxLen := by simp only [maxLen]; omega
      have hb2 : (k + 1) * 8 ≤ 140737488355328 := by omega
      have hbA : Below w.heap.size w ((wr.alloc (.cells #[.int .i64 xa, .bool xb] 51)).alloc (.cells #[.int .i64 xa] 3)) := by have hb' := unhide hb; (repeat (first | with_reducible exact Below.refl _ _ | with_reducible assumption | with_reducible refine Below.drew ?_ | with_reducible refine bl_alloc ?_ _ | with_reducible refine bl_call ?_ (by assumption) | (focus (with_reducible refine Below.setCell ?_ ?_ _; rotate_left; focus (first | omega | (simp <;> omega)))) | fail))
      have h1c : ∀ u ∈ [Value.int .i64 xa], u.oneCell' = true := by intro u hu; simp at hu; subst hu; rfl
      generalize ((bs.take k).map Bit.at_).flatMap ivc = xs at *
      clear q0 q1
      replace ho1 := hide ho1; replace hsrc := hide hsrc; replace hs1 := hide hs1; replace hb1 := hide hb1; replace hb2 := hide hb2; replace hbA := hide hbA; replace hf := hide hf; replace h1c := hide h1c; replace hsz := hide hsz
      go_wp2_with (first
        | (at_builtin
           refine wpList_app _ rfl (.tmp 12) (.tmp 15) 24 rfl w.heap.size 3 i0 _ 1 8 Try.underlying24 hi0 hz0 hz1 hz2 rfl (Nat.succ_pos _) _ k xs rfl (unhide ho1) (some ⟨wr.heap.size + 1, 0, none⟩) 1 1 [.int .i64 xa] rfl rfl (unhide hsrc) (unhide h1c) (unhide hb1) (unhide hb2) (unhide hs1) ?_
           intro v4 w4 ho5 hg4
           obtain ⟨A5, c5, rfl⟩ := ownsRow_form ho5
           have hb5 : Below w.heap.size w w4 := bl_grown (unhide hbA) hg4 (own_base (unhide ho1))
           replace hb5 := hide hb5
           clear hg4
           replace ho5 := hide ho5)
        | fail)
      go_roundw
      case rel => exact ⟨k + 1, A5, c5, by omega, by go_num, rfl, hide (by rw [unhide hf]; exact unhide ho5), hb5⟩
      case measure => simp [intOf]; omega
    · obtain rfl : k = bs.length := by omega
      have ho2 := unhide ho
      rw [List.take_length] at ho2
      replace ho2 := hide ho2
      clear ho
      go_wp2_with fail
      go_ret
      exact ⟨A, c, rfl, unhide ho2, unhide hb⟩
theorem Is.own {w : World} {base n : Nat} {v : Value} {l : List Int} (h : w.ownsRow base 3 1 v n (l.flatMap ivc)) : Is 0 w.heap.size w v l := (Rd.of_own ivc_len (by omega) h).mono (Nat.zero_le _) (Nat.le_refl _)
theorem Os.own {w : World} {base n : Nat} {v : Value} {l : List Int} (h : w.ownsRow base 5 1 v n (l.flatMap byc)) : Os 0 w.heap.size w v l := (Rd.of_own byc_len (by omega) h).mono (Nat.zero_le _) (Nat.le_refl _)
theorem Bos.own {w : World} {base n : Nat} {v : Value} {l : List Bool} (h : w.ownsRow base 4 1 v n (l.flatMap bvc)) : Bos 0 w.heap.size w v l := (Rd.of_own bvc_len (by omega) h).mono (Nat.zero_le _) (Nat.le_refl _)
end Go.Proofs.Ythmhhgodjpgjnaa
