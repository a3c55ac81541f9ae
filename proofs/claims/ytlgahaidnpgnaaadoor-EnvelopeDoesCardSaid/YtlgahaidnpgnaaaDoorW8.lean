import Derived.Test.YtlgahaidnpgnaaaDoorW7
namespace Go.Proofs.YtlgahaidnpgnaaaDoor
open Go.RowKit

theorem octC_src (w : World) (q : Reg) : SrcOk (w.alloc (.cells (octC q) 5)) (some ⟨w.heap.size, 0, none⟩) 4 ((oct q).map u8v) := oct_src (t := 5) (Blk.new rfl)
theorem own_app {w : World} {base : Nat} {v : Value} {l m : List UInt8} {n : Nat} (h : w.ownsRow base 5 1 v n (l.map u8v ++ m.map u8v)) (hn : n = (l ++ m).length) : OwnB w base v (l ++ m) := by
  rw [← List.map_append] at h
  subst hn
  exact h

set_option maxHeartbeats 1000000 in
theorem OctetsR_any (s : St) (w : World) : Calls Tryd.prog 31 #[stV s] w fun e w' => ∃ v, e = .returned v ∧ OwnB w' w.heap.size v (octs4 s) ∧ Below w.heap.size w w' := by
  obtain ⟨i0, hi0, hz0, hz1, hz2⟩ := info_parts info5
  have hB : Blk (w.alloc (.cells (stC s) 24)) w.heap.size 24 (stC s) := Blk.new rfl
  have hb : Below w.heap.size w (w.alloc (.cells (stC s) 24)) := bl_alloc (Below.refl _ _) _
  have hown : OwnB (w.alloc (.cells (stC s) 24)) w.heap.size (.slice none 0 0) (octA s 0) := World.ownsRow_nil _ _ _ _
  have hix := run_index24 s
  have ho2 := fun x => u8s_one (oct x)
  replace hB := hide hB; replace hb := hide hb; replace hix := hide hix; replace hown := hide hown; replace ho2 := hide ho2
  go_enter Tryd.func31, Tryd.ntmps31
  go_upto_region 1 with (fail)
  generalize hW : World.alloc w _ = W at *
  clear hW
  go_wp2_with (first
    | (refine wpList_load_row rfl 24 (.tmp 1) rfl w.heap.size rfl 24 (stC s) (0, 0) _ (unhide hB) Tryd.underlying24 rfl size24 ?_)
    | fail)
  go_loopw [3, 7] (fun v i wr => ∃ k : Nat, k ≤ 4 ∧ i = .int .i64 k ∧ (∃ A c, v = .slice A (4 * k) c) ∧ Hid (OwnB wr w.heap.size v (octA s k)) ∧ Hid (Below w.heap.size w wr)) (fun _ i _ => 4 - (intOf i).toNat)
  case atStart => exact ⟨0, by omega, rfl, ⟨_, _, rfl⟩, hown, hb⟩
  case round =>
    obtain ⟨k, hk, rfl, ⟨A, c, rfl⟩, o, b⟩ := hrel
    by_cases hlt : k < 4
    · have hx := unhide hix k hlt
      have hn : octA s k ++ oct (sg s k) = octA s (k + 1) := rfl
      have hl := octA_len s (k + 1)
      have hl0 := octA_len s k
      have b3 : (octA s k).length + 4 ≤ maxLen := by simp only [maxLen]; omega
      have b4 : ((octA s k).length + 4) * 1 ≤ 140737488355328 := by omega
      have k1 : (k : Int) < 4 := by omega
      generalize sg s k = q at *
      replace hl := hide hl; replace hl0 := hide hl0; replace b3 := hide b3; replace b4 := hide b4; replace hn := hide hn
      go_wp2_with (first
        | (go_at_call 43; refine (octetsR_any _ _).mono ?_; rintro e w1 ⟨rfl, rfl⟩)
        | (at_builtin
           refine wpList_app _ rfl (.tmp 10) (.tmp 12) 28 rfl w.heap.size 5 i0 _ 1 1 Tryd.underlying28 hi0 hz0 hz1 hz2 rfl (Nat.succ_pos _) _ (octA s k).length ((octA s k).map u8v) rfl ((unhide o).alloc _) (some ⟨wr.heap.size, 0, none⟩) 4 4 ((oct q).map u8v) rfl rfl (octC_src wr q) (unhide ho2 q) (unhide b3) (unhide b4) (le_alloc (unhide b).size) ?_
           intro v4 w4 hown4 hg4
           have hb4 : Below w.heap.size wr w4 := bl_app (unhide b).size (unhide o) hg4
           have o1 : OwnB w4 w.heap.size v4 (octA s k ++ oct q) := own_app hown4 (by rw [List.length_append, oct_len])
           rw [unhide hn] at o1
           obtain ⟨A1, c1, rfl⟩ := o1.form
           clear hown4 hg4
           replace o1 := hide o1)
        | fail)
      go_roundw
      case rel => exact ⟨k + 1, by omega, by go_num, ⟨A1, c1, by rw [unhide hl]⟩, o1, (unhide b).trans hb4⟩
      case measure => simp [intOf]; omega
    · obtain rfl : k = 4 := by omega
      go_wp2
      go_ret
      exact ⟨_, rfl, unhide o, unhide b⟩
end Go.Proofs.YtlgahaidnpgnaaaDoor
