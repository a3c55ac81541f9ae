import Derived.Test.YtlgahaidnpgnaaaDoorN17
namespace Go.Proofs.YtlgahaidnpgnaaaDoor
open Go.RowKit

set_option maxHeartbeats 4000000 in
theorem TagR_good (s : St) (n : Nx) (v : Value) (t : List UInt8) (w : World) (h : Bs 0 w.heap.size w v t) (hk : t.length ≤ 65536) :
    Calls Tryd.prog 21 #[stV s, u64v n, v] w fun e w' => e = .returned (.tuple #[stV (tagF s n t), .int .i64 0]) ∧ Below w.heap.size w w' := by
  obtain ⟨i0, hi0, hz0, hz1, hz2⟩ := info_parts info5
  have X0 : Fx w ((w.alloc (.cells (stC s) 24)).alloc (.cells zC 24)) [(w.heap.size, 24, stC s), (w.heap.size + 1, 24, zC)] [] [] := ((Fx.nil w).newB w.heap.size rfl (stC s) 24).newB (w.heap.size + 1) (by simp) zC 24
  have hk1 : ¬ (65536 : Int) < (t.length : Int) := by omega
  have hl8 := eight_len n
  have hq := fun va W (h' : Bs 0 W.heap.size W va (eight n ++ [2] ++ t)) => AbsorbR_good 0 s va (eight n ++ [2] ++ t) W h' (by simp [hl8]; omega)
  have hF : tagF s n t = absorbF s (eight n ++ [2] ++ t) := by rw [List.append_assoc]; rfl
  rw [← hF] at hq
  have hl9 : (eight n ++ [2]).length = 8 + 1 := by rw [List.length_append, hl8]; rfl
  have hl10 : (eight n ++ [2] ++ t).length = 9 + t.length := by rw [List.length_append, hl9]
  have ho2 := u8s_one [2]
  have ho3 := u8s_one t
  have b3 : 8 + 1 ≤ maxLen := by simp only [maxLen]; omega
  have b4 : (8 + 1) * 1 ≤ 140737488355328 := by omega
  have b5 : 9 + t.length ≤ maxLen := by simp only [maxLen]; omega
  have b6 : (9 + t.length) * 1 ≤ 140737488355328 := by omega
  have hml : (t.map u8v).length = t.length * 1 := by simp
  generalize tagF s n t = S' at *
  obtain ⟨A, c, rfl⟩ := h.form
  have hsrc' := fun W (hb : Below w.heap.size w W) => (show SrcOk W A t.length (t.map u8v) from (h.to hb).src.2)
  generalize t.length = m at *
  replace X0 := hide X0
  replace hq := hide hq
  replace hl8 := hide hl8
  replace hl9 := hide hl9
  replace hl10 := hide hl10
  replace ho2 := hide ho2
  replace ho3 := hide ho3
  replace b3 := hide b3
  replace b4 := hide b4
  replace b5 := hide b5
  replace b6 := hide b6
  replace hsrc' := hide hsrc'
  replace hml := hide hml
  clear h hF hk
  go_enter Tryd.func21, Tryd.ntmps21
  go_upto_region 3 with (fail)
  generalize hW : World.alloc (World.alloc w _) _ = W at *
  clear hW
  have l0 : w.heap.size < W.heap.size := ((unhide X0).get 0 rfl).lt
  have m0 : w.heap.size + 1 < W.heap.size := ((unhide X0).get 1 rfl).lt
  have c00 : W.cell? ⟨w.heap.size, 0, none⟩ = some (u32v s.a) := ((unhide X0).get 0 rfl).cell 0
  have c01 : W.cell? ⟨w.heap.size, 1, none⟩ = some (u32v s.b) := ((unhide X0).get 0 rfl).cell 1
  have c02 : W.cell? ⟨w.heap.size, 2, none⟩ = some (u32v s.c) := ((unhide X0).get 0 rfl).cell 2
  have c03 : W.cell? ⟨w.heap.size, 3, none⟩ = some (u32v s.d) := ((unhide X0).get 0 rfl).cell 3
  go_region_held3 (fun W => W.cell? ⟨w.heap.size, 0, none⟩ = some (u32v s.a) ∧ W.cell? ⟨w.heap.size, 1, none⟩ = some (u32v s.b) ∧ W.cell? ⟨w.heap.size, 2, none⟩ = some (u32v s.c) ∧ W.cell? ⟨w.heap.size, 3, none⟩ = some (u32v s.d)) (first | exact ⟨by with_reducible assumption, by with_reducible assumption, by with_reducible assumption, by with_reducible assumption⟩ | exact ⟨by go_simp, by go_simp, by go_simp, by go_simp⟩)
    (first
    | (go_at_call 30; refine (eightR_any n W.drew).mono ?_; rintro e w5 ⟨v5, rfl, o5, hb5⟩
       obtain ⟨A5, c5, rfl⟩ : ∃ A c, v5 = .slice A 8 c := by obtain ⟨A, c, e⟩ := o5.form; exact ⟨A, c, by rw [e, unhide hl8]⟩
       have o5' : w5.ownsRow (w.heap.size + 2) 5 1 (.slice A5 8 c5) 8 ((eight n).map u8v) := own_n (ownsRow_mono (base' := w.heap.size + 2) o5 (Nat.succ_le_of_lt m0)) (unhide hl8)
       have X5 : Fx w w5 [(w.heap.size, 24, stC s), (w.heap.size + 1, 24, zC)] [] [] := Fx.call ((unhide X0).drew) hb5
       have l5 : w.heap.size < w5.heap.size := (X5.get 0 rfl).lt
       have m5 : w.heap.size + 1 < w5.heap.size := (X5.get 1 rfl).lt
       have c50 : w5.cell? ⟨w.heap.size, 0, none⟩ = some (u32v s.a) := (X5.get 0 rfl).cell 0
       have c51 : w5.cell? ⟨w.heap.size, 1, none⟩ = some (u32v s.b) := (X5.get 0 rfl).cell 1
       have c52 : w5.cell? ⟨w.heap.size, 2, none⟩ = some (u32v s.c) := (X5.get 0 rfl).cell 2
       have c53 : w5.cell? ⟨w.heap.size, 3, none⟩ = some (u32v s.d) := (X5.get 0 rfl).cell 3
       replace X5 := hide X5; replace o5' := hide o5'
       clear o5 hb5)
    | (go_at_call 30; refine (eightR_any n (W.drew.alloc (.cells #[u8v 2] 5))).mono ?_; rintro e w5 ⟨v5, rfl, o5, hb5⟩
       obtain ⟨A5, c5, rfl⟩ : ∃ A c, v5 = .slice A 8 c := by obtain ⟨A, c, e⟩ := o5.form; exact ⟨A, c, by rw [e, unhide hl8]⟩
       have o5' : w5.ownsRow (w.heap.size + 2) 5 1 (.slice A5 8 c5) 8 ((eight n).map u8v) := own_n (ownsRow_mono (base' := w.heap.size + 2) o5 (sz_alloc (Nat.succ_le_of_lt m0) (.cells #[u8v 2] 5))) (unhide hl8)
       have X5 : Fx w w5 [(w.heap.size, 24, stC s), (w.heap.size + 1, 24, zC)] [] [] := Fx.call (((unhide X0).drew.alloc (.cells #[u8v 2] 5))) hb5
       have R5 : Blk w5 W.heap.size 5 #[u8v 2] := Blk.call (V := (W.drew.alloc (.cells #[u8v 2] 5))) (Blk.new (w := W.drew) (t := 5) (cs := #[u8v 2]) rfl) hb5
       replace R5 := hide R5
       have l5 : w.heap.size < w5.heap.size := (X5.get 0 rfl).lt
       have m5 : w.heap.size + 1 < w5.heap.size := (X5.get 1 rfl).lt
       have c50 : w5.cell? ⟨w.heap.size, 0, none⟩ = some (u32v s.a) := (X5.get 0 rfl).cell 0
       have c51 : w5.cell? ⟨w.heap.size, 1, none⟩ = some (u32v s.b) := (X5.get 0 rfl).cell 1
       have c52 : w5.cell? ⟨w.heap.size, 2, none⟩ = some (u32v s.c) := (X5.get 0 rfl).cell 2
       have c53 : w5.cell? ⟨w.heap.size, 3, none⟩ = some (u32v s.d) := (X5.get 0 rfl).cell 3
       replace X5 := hide X5; replace o5' := hide o5'
       clear o5 hb5)
    | (refine step_app rfl (.tmp 14) (.tmp 15) 28 rfl (w.heap.size + 2) 5 i0 _ 1 1 Tryd.underlying28 hi0 hz0 hz1 hz2 rfl (Nat.succ_pos _) _ 8 ((eight n).map u8v) rfl (unhide o5') _ 1 1 (([2] : List UInt8).map u8v) rfl rfl (one_row (unhide R5)) (unhide ho2) (unhide b3) (unhide b4) (Nat.succ_le_of_lt m5) ?_
       intro v6 w6 o6 hg6
       have X6 : Fx w w6 [(w.heap.size, 24, stC s), (w.heap.size + 1, 24, zC)] [] [] := Fx.grown (unhide X5) (unhide o5') hg6 (Nat.le_add_right _ _) (by simp)
       rw [← List.map_append] at o6
       obtain ⟨A6, c6, rfl⟩ : ∃ A c, v6 = .slice A 9 c := ownsRow_form o6
       obtain ⟨xs6, hxs6⟩ : ∃ xs6, xs6 = (eight n ++ [2]).map u8v := ⟨_, rfl⟩
       have o6' : w6.ownsRow (w.heap.size + 2) 5 1 (.slice A6 9 c6) 9 xs6 := by rw [hxs6]; exact o6
       replace hxs6 := hide hxs6
       have l6 : w.heap.size < w6.heap.size := (X6.get 0 rfl).lt
       have m6 : w.heap.size + 1 < w6.heap.size := (X6.get 1 rfl).lt
       have c60 : w6.cell? ⟨w.heap.size, 0, none⟩ = some (u32v s.a) := (X6.get 0 rfl).cell 0
       have c61 : w6.cell? ⟨w.heap.size, 1, none⟩ = some (u32v s.b) := (X6.get 0 rfl).cell 1
       have c62 : w6.cell? ⟨w.heap.size, 2, none⟩ = some (u32v s.c) := (X6.get 0 rfl).cell 2
       have c63 : w6.cell? ⟨w.heap.size, 3, none⟩ = some (u32v s.d) := (X6.get 0 rfl).cell 3
       replace X6 := hide X6; replace o6' := hide o6'
       clear hg6 o6)
    | (refine step_app rfl (.tmp 14) (.tmp 15) 28 rfl (w.heap.size + 2) 5 i0 _ 1 1 Tryd.underlying28 hi0 hz0 hz1 hz2 rfl (Nat.succ_pos _) _ 8 ((eight n).map u8v) rfl (World.ownsRow.alloc (unhide o5') (.cells #[u8v 2] 5)) _ 1 1 (([2] : List UInt8).map u8v) rfl rfl (one_src w5 2) (unhide ho2) (unhide b3) (unhide b4) (sz_alloc (Nat.succ_le_of_lt m5) (.cells #[u8v 2] 5)) ?_
       intro v6 w6 o6 hg6
       have X6 : Fx w w6 [(w.heap.size, 24, stC s), (w.heap.size + 1, 24, zC)] [] [] := Fx.grown ((unhide X5).alloc (.cells #[u8v 2] 5)) (World.ownsRow.alloc (unhide o5') (.cells #[u8v 2] 5)) hg6 (Nat.le_add_right _ _) (by simp)
       rw [← List.map_append] at o6
       obtain ⟨A6, c6, rfl⟩ : ∃ A c, v6 = .slice A 9 c := ownsRow_form o6
       obtain ⟨xs6, hxs6⟩ : ∃ xs6, xs6 = (eight n ++ [2]).map u8v := ⟨_, rfl⟩
       have o6' : w6.ownsRow (w.heap.size + 2) 5 1 (.slice A6 9 c6) 9 xs6 := by rw [hxs6]; exact o6
       replace hxs6 := hide hxs6
       have l6 : w.heap.size < w6.heap.size := (X6.get 0 rfl).lt
       have m6 : w.heap.size + 1 < w6.heap.size := (X6.get 1 rfl).lt
       have c60 : w6.cell? ⟨w.heap.size, 0, none⟩ = some (u32v s.a) := (X6.get 0 rfl).cell 0
       have c61 : w6.cell? ⟨w.heap.size, 1, none⟩ = some (u32v s.b) := (X6.get 0 rfl).cell 1
       have c62 : w6.cell? ⟨w.heap.size, 2, none⟩ = some (u32v s.c) := (X6.get 0 rfl).cell 2
       have c63 : w6.cell? ⟨w.heap.size, 3, none⟩ = some (u32v s.d) := (X6.get 0 rfl).cell 3
       replace X6 := hide X6; replace o6' := hide o6'
       clear hg6 o6)
    | (refine step_app rfl (.tmp 16) (.tmp 17) 28 rfl (w.heap.size + 2) 5 i0 _ 1 1 Tryd.underlying28 hi0 hz0 hz1 hz2 rfl (Nat.succ_pos _) _ 9 xs6 rfl (unhide o6') A m c (t.map u8v) rfl (unhide hml) (unhide hsrc' w6 (unhide X6).bl) (unhide ho3) (unhide b5) (unhide b6) (Nat.succ_le_of_lt m6) ?_
       intro v7 w7 o7 hg7
       have X7 : Fx w w7 [(w.heap.size, 24, stC s), (w.heap.size + 1, 24, zC)] [] [] := Fx.grown (unhide X6) (unhide o6') hg7 (Nat.le_add_right _ _) (by simp)
       rw [unhide hxs6, ← List.map_append] at o7
       have o7' : OwnB w7 (w.heap.size + 2) v7 (eight n ++ [2] ++ t) := by unfold OwnB; rw [unhide hl10]; exact o7
       have y7 : Bs 0 w7.heap.size w7 v7 (eight n ++ [2] ++ t) := Bs.of_own0 o7'
       obtain ⟨A7, c7, rfl⟩ := ownsRow_form o7
       have l7 : w.heap.size < w7.heap.size := (X7.get 0 rfl).lt
       have m7 : w.heap.size + 1 < w7.heap.size := (X7.get 1 rfl).lt
       have c70 : w7.cell? ⟨w.heap.size, 0, none⟩ = some (u32v s.a) := (X7.get 0 rfl).cell 0
       have c71 : w7.cell? ⟨w.heap.size, 1, none⟩ = some (u32v s.b) := (X7.get 0 rfl).cell 1
       have c72 : w7.cell? ⟨w.heap.size, 2, none⟩ = some (u32v s.c) := (X7.get 0 rfl).cell 2
       have c73 : w7.cell? ⟨w.heap.size, 3, none⟩ = some (u32v s.d) := (X7.get 0 rfl).cell 3
       replace X7 := hide X7; replace y7 := hide y7
       clear hg7 o7 o7')
    | (go_at_call 38; refine (unhide hq _ w7 (unhide y7)).mono ?_; rintro e w8 ⟨rfl, hb8⟩
       have X8 : Fx w w8 [(w.heap.size, 24, stC s), (w.heap.size + 1, 24, zC)] [] [] := Fx.call (unhide X7) hb8
       have l8 : w.heap.size < w8.heap.size := (X8.get 0 rfl).lt
       have m8 : w.heap.size + 1 < w8.heap.size := (X8.get 1 rfl).lt
       have c80 : w8.cell? ⟨w.heap.size, 0, none⟩ = some (u32v s.a) := (X8.get 0 rfl).cell 0
       have c81 : w8.cell? ⟨w.heap.size, 1, none⟩ = some (u32v s.b) := (X8.get 0 rfl).cell 1
       have c82 : w8.cell? ⟨w.heap.size, 2, none⟩ = some (u32v s.c) := (X8.get 0 rfl).cell 2
       have c83 : w8.cell? ⟨w.heap.size, 3, none⟩ = some (u32v s.d) := (X8.get 0 rfl).cell 3
       have z80 : w8.cell? ⟨w.heap.size + 1, 0, none⟩ = some (.int .u32 0) := (X8.get 1 rfl).cell 0
       have fz80 : w8.frozen? ⟨w.heap.size + 1, 0, none⟩ = false := (X8.get 1 rfl).frozen 0
       have z81 : w8.cell? ⟨w.heap.size + 1, 1, none⟩ = some (.int .u32 0) := (X8.get 1 rfl).cell 1
       have fz81 : w8.frozen? ⟨w.heap.size + 1, 1, none⟩ = false := (X8.get 1 rfl).frozen 1
       have z82 : w8.cell? ⟨w.heap.size + 1, 2, none⟩ = some (.int .u32 0) := (X8.get 1 rfl).cell 2
       have fz82 : w8.frozen? ⟨w.heap.size + 1, 2, none⟩ = false := (X8.get 1 rfl).frozen 2
       have z83 : w8.cell? ⟨w.heap.size + 1, 3, none⟩ = some (.int .u32 0) := (X8.get 1 rfl).cell 3
       have fz83 : w8.frozen? ⟨w.heap.size + 1, 3, none⟩ = false := (X8.get 1 rfl).frozen 3
       replace X8 := hide X8
       clear hb8))
  all_goals
    have Z8 : Blk _ (w.heap.size + 1) 24 (stC S') := Blk.set4 (x := u32v S'.a) (y := u32v S'.b) (z := u32v S'.c) (u := u32v S'.d) ((unhide X8).get 1 rfl)
    have bb8 : Below w.heap.size w _ := below_set4 (g := w.heap.size + 1) (x := u32v S'.a) (y := u32v S'.b) (z := u32v S'.c) (u := u32v S'.d) (unhide X8).bl (by omega)
    replace Z8 := hide Z8; replace bb8 := hide bb8
    go_wp2_with (fail)
    exact ret_st2 rfl (w.heap.size + 1) S' (.int .i64 0) rfl rfl (unhide Z8) rfl ⟨rfl, unhide bb8⟩
end Go.Proofs.YtlgahaidnpgnaaaDoor
