import Derived.Test.YteokimebfbnlkaaB5
namespace Go.Proofs.Yteokimebfbnlkaa
open Go.RowKit

set_option maxHeartbeats 2000000 in
theorem concat_own (lo g : Nat) (Ls : List (List Ex)) (w : World) (h : Lists lo w g Ls) (hg : g < w.heap.size) (hn : Ls.length ≤ 1000) (h0 : 0 < upto Ls Ls.length) (hL : upto Ls Ls.length ≤ 1000000) :
    Calls Try.prog 39 #[.slice (some ⟨g, 0, none⟩) Ls.length Ls.length] w fun e w' => ∃ A c, e = .returned (.slice A (upto Ls Ls.length) c) ∧ w'.ownsRow w.heap.size 26 2 (.slice A (upto Ls Ls.length) c) (upto Ls Ls.length) ((cat Ls Ls.length).flatMap exv) ∧ Below w.heap.size w w' := by
  obtain ⟨i0, hi0, hz0, hz1, hz2⟩ := info_parts info26
  obtain ⟨n, hn'⟩ : ∃ n, n = Ls.length := ⟨_, rfl⟩
  have hfl := flat_le Ls
  have hgrow := fun W => grow_any (upto Ls Ls.length) W h0 hL
  rw [← hn'] at hfl hgrow hL h0 ⊢
  replace h := hide h; replace hn' := hide hn'; replace hfl := hide hfl; replace hgrow := hide hgrow
  have hn2 : n ≤ 1000 := by rw [unhide hn']; exact hn
  clear hn
  go_enter Try.func39, Try.ntmps39
  go_wp2_with fail
  go_loopw [3, 11] (fun s3 s11 wr => ∃ k : Nat, k ≤ n ∧ s11 = .int .i64 k ∧ s3 = .int .i64 (upto Ls k : Nat) ∧ w = wr) (fun _ i _ => n - (intOf i).toNat)
  case atStart => exact ⟨0, by omega, rfl, rfl, rfl⟩
  case round =>
    obtain ⟨k, hk, rfl, rfl, rfl⟩ := hrel
    by_cases hlt : k < n
    · have hlt' : k < Ls.length := by rw [← unhide hn']; exact hlt
      obtain ⟨A, c, hc, _⟩ := unhide h k hlt'
      have ha : upto Ls (k + 1) = upto Ls k + Ls[k].length := upto_succ hlt'
      have hb := unhide hfl (k + 1)
      rw [ha] at hb
      generalize ha1 : upto Ls k = a at *
      generalize Ls[k].length = b at *
      replace ha := hide ha
      have w1 : (0 : Int) ≤ (a : Int) + (b : Int) := by omega
      have w2 : (a : Int) + (b : Int) ≤ 1000000 := by omega
      go_wp2_with fail
      go_roundw
      case rel => exact ⟨k + 1, by omega, by go_num, by rw [unhide ha]; go_num, by simp⟩
      case measure => simp [intOf]; omega
    · obtain rfl : k = n := by omega
      have hgz : Hid (g < w.heap.size) := hg
      go_wp2_with (go_at_call 45; refine (unhide hgrow _).mono ?_; rintro e w1 ⟨A1, c1, rfl, hown, hb1⟩)
      replace hown := hide hown; replace hb1 := hide hb1
      go_loopw [6, 27] (fun s6 s27 wx => ∃ (j : Nat) (A2 : Option Addr) (c2 : Nat), j ≤ k ∧ s27 = .int .i64 j ∧ s6 = .slice A2 (upto Ls j) c2 ∧ Hid (wx.ownsRow w.heap.size 26 2 (.slice A2 (upto Ls j) c2) (upto Ls j) ((cat Ls j).flatMap exv)) ∧ Hid (Below w.heap.size w wx)) (fun _ i _ => k - (intOf i).toNat)
      case atStart => exact ⟨0, A1, c1, by omega, rfl, rfl, hide (unhide hown), hb1⟩
      case round =>
        obtain ⟨j, A2, c2, hj, rfl, rfl, o2, b2⟩ := hrel
        by_cases hlt2 : j < k
        · have hlt' : j < Ls.length := by rw [← unhide hn']; exact hlt2
          obtain ⟨A, c, hc, hx⟩ := unhide h j hlt'
          have ha : cat Ls (j + 1) = cat Ls j ++ Ls[j] := cat_succ hlt'
          have ha' : upto Ls (j + 1) = upto Ls j + Ls[j].length := upto_succ hlt'
          have hb := unhide hfl (j + 1)
          rw [ha'] at hb
          have hsrc := SrcOk.below hx.src.2 (unhide b2)
          have hc' := ((unhide b2).cell (p := ⟨g, j, none⟩) hg).trans hc
          have hgx : g < wr.heap.size := Nat.lt_of_lt_of_le hg (unhide b2).size
          have hnl := flat_len Ls[j]
          have hno := flat_one Ls[j]
          have hsz := (unhide b2).size
          generalize Ls[j] = N at *
          have hml : ((cat Ls j).flatMap exv).length = (upto Ls j) * 2 := by rw [flat_len, upto_cat]
          generalize upto Ls j = m at *
          have u1 : m + N.length ≤ maxLen := by simp only [maxLen]; omega
          have u2 : (m + N.length) * 16 ≤ 140737488355328 := by omega
          replace ha := hide ha; replace hsrc := hide hsrc; replace hnl := hide hnl; replace hno := hide hno; replace u1 := hide u1; replace u2 := hide u2; replace hb := hide hb
          replace hml := hide hml; replace ha' := hide ha'
          clear hc hx
          go_wp2_with (first
            | (at_builtin
               refine wpList_app _ rfl (.tmp 31) (.tmp 32) 22 rfl w.heap.size 26 i0 _ 2 16 Try.underlying22 hi0 hz0 hz1 hz2 rfl (Nat.succ_pos _) _ m ((cat Ls j).flatMap exv) rfl (unhide o2) A N.length c (N.flatMap exv) rfl (unhide hnl) (unhide hsrc) (unhide hno) (unhide u1) (unhide u2) hsz ?_
               intro v' w2 hown2 hg2
               obtain ⟨A3, c3, rfl⟩ := ownsRow_form hown2))
          have hal : (cat Ls j).flatMap exv ++ N.flatMap exv = (cat Ls (j + 1)).flatMap exv := by rw [unhide ha, List.flatMap_append]
          rw [hal, ← unhide ha'] at hown2
          go_roundw
          case rel => exact ⟨j + 1, A3, c3, by omega, by go_num, by rw [unhide ha'], hide hown2, hide (bl_grown (unhide b2) hg2 (own_base (unhide o2)))⟩
          case measure => simp [intOf]; omega
        · obtain rfl : j = k := by omega
          go_wp2_with fail
          go_ret
          exact ⟨A2, c2, rfl, unhide o2, unhide b2⟩

theorem concat3_own {W : World} {g : Nat} {p q : List Ex} {S : Ex} (h : Lists 0 W g [p, [S], q]) (hg : g < W.heap.size) (hn : p.length + (1 + q.length) ≤ 1000000) :
    Calls Try.prog 39 #[.slice (some ⟨g, 0, none⟩) 3 3] W fun e w' => ∃ A c, e = .returned (.slice A (p ++ S :: q).length c) ∧ w'.ownsRow W.heap.size 26 2 (.slice A (p ++ S :: q).length c) (p ++ S :: q).length ((p ++ S :: q).flatMap exv) ∧ Below W.heap.size W w' := by
  have hc : cat [p, [S], q] [p, [S], q].length = p ++ S :: q := by simp [cat]
  have hu : upto [p, [S], q] [p, [S], q].length = (p ++ S :: q).length := by rw [← upto_cat, hc]
  have hl : (p ++ S :: q).length = p.length + (1 + q.length) := by simp; omega
  have := concat_own 0 g [p, [S], q] W h hg (by simp) (by rw [hu, hl]; omega) (by rw [hu, hl]; exact hn)
  rw [hu, hc] at this
  exact this
end Go.Proofs.Yteokimebfbnlkaa
