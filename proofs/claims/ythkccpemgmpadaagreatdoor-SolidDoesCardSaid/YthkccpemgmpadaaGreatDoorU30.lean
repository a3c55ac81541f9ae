import Derived.Test.YthkccpemgmpadaaGreatDoorU29
namespace Go.Proofs.YthkccpemgmpadaaGreatDoor
set_option maxRecDepth 100000
open Go.RowKit
set_option maxHeartbeats 4000000 in
theorem StreamR_good (s : St) (n : Nx) (k : Nat) (w : World) (hk : k ≤ 65536) :
    Calls Tryz.prog 78 #[stV s, u64v n, .int .i64 k] w fun e w' => ∃ A c, e = .returned (.tuple #[.slice A k c, .int .i64 0]) ∧ Bs w.heap.size w'.heap.size w' (.slice A k c) (streamF s n k) ∧ Below w.heap.size w w' := by
  obtain ⟨i0, hi0, hz0, hz1, hz2⟩ := info_parts info5
  have X0 : Fx w (w.alloc (.cells (stC s) 24)) [(w.heap.size, 24, stC s)] [] [] := (Fx.nil w).newB w.heap.size rfl (stC s) 24
  have hk0 : ¬ (k : Int) < 0 := by omega
  have hk1 : ¬ (65536 : Int) < (k : Int) := by omega
  have hl8 := eight_len n
  have hq := fun va W (hb : Below w.heap.size w W) (h' : Bs 0 W.heap.size W va (eight n ++ [1])) => AbsorbR_good 0 s va (eight n ++ [1]) W h' (by simp [hl8])
  have hs := fun W (hb : Below w.heap.size w W) => SqueezeR_good (absorbF s (eight n ++ [1])) k W (by omega)
  have hF : streamF s n k = squeezeF (absorbF s (eight n ++ [1])) k := rfl
  rw [hF]
  generalize absorbF s (eight n ++ [1]) = S' at *
  have hl9 : (eight n ++ [1]).length = 8 + 1 := by rw [List.length_append, hl8]; rfl
  have ho2 := u8s_one [1]
  have b3 : 8 + 1 ≤ maxLen := by simp only [maxLen]; omega
  have b4 : (8 + 1) * 1 ≤ 140737488355328 := by omega
  generalize squeezeF S' k = out at *
  replace X0 := hide X0; replace hq := hide hq; replace hs := hide hs; replace hl9 := hide hl9; replace hl8 := hide hl8; replace ho2 := hide ho2; replace b3 := hide b3; replace b4 := hide b4
  clear hF
  go_enter Tryz.func78, Tryz.ntmps78
  go_upto_region 5 with (fail)
  generalize hW : World.alloc w _ = W at *
  clear hW
  have l0 : w.heap.size < W.heap.size := ((unhide X0).get 0 rfl).lt
  have c00 : W.cell? ⟨w.heap.size, 0, none⟩ = some (u32v s.a) := ((unhide X0).get 0 rfl).cell 0
  have c01 : W.cell? ⟨w.heap.size, 1, none⟩ = some (u32v s.b) := ((unhide X0).get 0 rfl).cell 1
  have c02 : W.cell? ⟨w.heap.size, 2, none⟩ = some (u32v s.c) := ((unhide X0).get 0 rfl).cell 2
  have c03 : W.cell? ⟨w.heap.size, 3, none⟩ = some (u32v s.d) := ((unhide X0).get 0 rfl).cell 3
  go_cut [8, 9] (fun s8 s9 wx => ∃ g, s8 = .pointer (some ⟨g, 0, none⟩) ∧ s9 = .int .i64 0 ∧ Hid (Fx w wx [(g, 24, stC S')] [] []))
  case first =>
    go_region_held3 (fun W => W.cell? ⟨w.heap.size, 0, none⟩ = some (u32v s.a) ∧ W.cell? ⟨w.heap.size, 1, none⟩ = some (u32v s.b) ∧ W.cell? ⟨w.heap.size, 2, none⟩ = some (u32v s.c) ∧ W.cell? ⟨w.heap.size, 3, none⟩ = some (u32v s.d)) (first | exact ⟨by with_reducible assumption, by with_reducible assumption, by with_reducible assumption, by with_reducible assumption⟩ | exact ⟨by go_simp, by go_simp, by go_simp, by go_simp⟩)
      (first
      | (go_at_call 66; refine (eightR_any n W.drew).mono ?_; rintro e w5 ⟨v5, rfl, o5, hb5⟩
         obtain ⟨A5, c5, rfl⟩ : ∃ A c, v5 = .slice A 8 c := by obtain ⟨A, c, e⟩ := o5.form; exact ⟨A, c, by rw [e, unhide hl8]⟩
         have o5' : w5.ownsRow (w.heap.size + 1) 5 1 (.slice A5 8 c5) 8 ((eight n).map u8v) := own_n (ownsRow_mono (base' := w.heap.size + 1) o5 (Nat.succ_le_of_lt l0)) (unhide hl8)
         have X5 : Fx w w5 [(w.heap.size, 24, stC s)] [] [] := Fx.call (unhide X0).drew hb5
         have l5 : w.heap.size < w5.heap.size := (X5.get 0 rfl).lt
         have c50 : w5.cell? ⟨w.heap.size, 0, none⟩ = some (u32v s.a) := (X5.get 0 rfl).cell 0
         have c51 : w5.cell? ⟨w.heap.size, 1, none⟩ = some (u32v s.b) := (X5.get 0 rfl).cell 1
         have c52 : w5.cell? ⟨w.heap.size, 2, none⟩ = some (u32v s.c) := (X5.get 0 rfl).cell 2
         have c53 : w5.cell? ⟨w.heap.size, 3, none⟩ = some (u32v s.d) := (X5.get 0 rfl).cell 3
         replace X5 := hide X5; replace o5' := hide o5'
         clear o5 hb5)
      | (go_at_call 66; refine (eightR_any n (W.drew.alloc (.cells #[u8v 1] 5))).mono ?_; rintro e w5 ⟨v5, rfl, o5, hb5⟩
         obtain ⟨A5, c5, rfl⟩ : ∃ A c, v5 = .slice A 8 c := by obtain ⟨A, c, e⟩ := o5.form; exact ⟨A, c, by rw [e, unhide hl8]⟩
         have o5' : w5.ownsRow (w.heap.size + 1) 5 1 (.slice A5 8 c5) 8 ((eight n).map u8v) := own_n (ownsRow_mono (base' := w.heap.size + 1) o5 (sz_alloc (Nat.succ_le_of_lt l0) (.cells #[u8v 1] 5))) (unhide hl8)
         have X5 : Fx w w5 [(w.heap.size, 24, stC s)] [] [] := Fx.call ((unhide X0).drew.alloc (.cells #[u8v 1] 5)) hb5
         have R5 : Blk w5 (W.heap.size) 5 #[u8v 1] := Blk.call (V := (W.drew.alloc (.cells #[u8v 1] 5))) (Blk.new (w := W.drew) (t := 5) (cs := #[u8v 1]) rfl) hb5
         replace R5 := hide R5
         have l5 : w.heap.size < w5.heap.size := (X5.get 0 rfl).lt
         have c50 : w5.cell? ⟨w.heap.size, 0, none⟩ = some (u32v s.a) := (X5.get 0 rfl).cell 0
         have c51 : w5.cell? ⟨w.heap.size, 1, none⟩ = some (u32v s.b) := (X5.get 0 rfl).cell 1
         have c52 : w5.cell? ⟨w.heap.size, 2, none⟩ = some (u32v s.c) := (X5.get 0 rfl).cell 2
         have c53 : w5.cell? ⟨w.heap.size, 3, none⟩ = some (u32v s.d) := (X5.get 0 rfl).cell 3
         replace X5 := hide X5; replace o5' := hide o5'
         clear o5 hb5)
      | (go_at_call 66; refine (eightR_any n (W.drew.alloc (.cells zC 24))).mono ?_; rintro e w5 ⟨v5, rfl, o5, hb5⟩
         obtain ⟨A5, c5, rfl⟩ : ∃ A c, v5 = .slice A 8 c := by obtain ⟨A, c, e⟩ := o5.form; exact ⟨A, c, by rw [e, unhide hl8]⟩
         have o5' : w5.ownsRow (w.heap.size + 1) 5 1 (.slice A5 8 c5) 8 ((eight n).map u8v) := own_n (ownsRow_mono (base' := w.heap.size + 1) o5 (sz_alloc (Nat.succ_le_of_lt l0) (.cells zC 24))) (unhide hl8)
         have X5 : Fx w w5 [(w.heap.size, 24, stC s)] [] [] := Fx.call ((unhide X0).drew.alloc (.cells zC 24)) hb5
         have Z5 : Blk w5 (W.heap.size) 24 zC := Blk.call (V := (W.drew.alloc (.cells zC 24))) (Blk.new (w := W.drew) (t := 24) (cs := zC) rfl) hb5
         have n5 : w.heap.size < W.heap.size := by omega
         replace Z5 := hide Z5; replace n5 := hide n5
         have l5 : w.heap.size < w5.heap.size := (X5.get 0 rfl).lt
         have c50 : w5.cell? ⟨w.heap.size, 0, none⟩ = some (u32v s.a) := (X5.get 0 rfl).cell 0
         have c51 : w5.cell? ⟨w.heap.size, 1, none⟩ = some (u32v s.b) := (X5.get 0 rfl).cell 1
         have c52 : w5.cell? ⟨w.heap.size, 2, none⟩ = some (u32v s.c) := (X5.get 0 rfl).cell 2
         have c53 : w5.cell? ⟨w.heap.size, 3, none⟩ = some (u32v s.d) := (X5.get 0 rfl).cell 3
         replace X5 := hide X5; replace o5' := hide o5'
         clear o5 hb5)
      | (go_at_call 66; refine (eightR_any n ((W.drew.alloc (.cells #[u8v 1] 5)).alloc (.cells zC 24))).mono ?_; rintro e w5 ⟨v5, rfl, o5, hb5⟩
         obtain ⟨A5, c5, rfl⟩ : ∃ A c, v5 = .slice A 8 c := by obtain ⟨A, c, e⟩ := o5.form; exact ⟨A, c, by rw [e, unhide hl8]⟩
         have o5' : w5.ownsRow (w.heap.size + 1) 5 1 (.slice A5 8 c5) 8 ((eight n).map u8v) := own_n (ownsRow_mono (base' := w.heap.size + 1) o5 (sz_alloc (sz_alloc (Nat.succ_le_of_lt l0) (.cells #[u8v 1] 5)) (.cells zC 24))) (unhide hl8)
         have X5 : Fx w w5 [(w.heap.size, 24, stC s)] [] [] := Fx.call (((unhide X0).drew.alloc (.cells #[u8v 1] 5)).alloc (.cells zC 24)) hb5
         have R5 : Blk w5 (W.heap.size) 5 #[u8v 1] := Blk.call (V := ((W.drew.alloc (.cells #[u8v 1] 5)).alloc (.cells zC 24))) (Blk.alloc (Blk.new (w := W.drew) (t := 5) (cs := #[u8v 1]) rfl) (.cells zC 24)) hb5
         replace R5 := hide R5
         have Z5 : Blk w5 (W.heap.size + 1) 24 zC := Blk.call (V := ((W.drew.alloc (.cells #[u8v 1] 5)).alloc (.cells zC 24))) (Blk.new (w := W.drew.alloc (.cells #[u8v 1] 5)) (t := 24) (cs := zC) (by simp)) hb5
         have n5 : w.heap.size < W.heap.size + 1 := by omega
         replace Z5 := hide Z5; replace n5 := hide n5
         have l5 : w.heap.size < w5.heap.size := (X5.get 0 rfl).lt
         have c50 : w5.cell? ⟨w.heap.size, 0, none⟩ = some (u32v s.a) := (X5.get 0 rfl).cell 0
         have c51 : w5.cell? ⟨w.heap.size, 1, none⟩ = some (u32v s.b) := (X5.get 0 rfl).cell 1
         have c52 : w5.cell? ⟨w.heap.size, 2, none⟩ = some (u32v s.c) := (X5.get 0 rfl).cell 2
         have c53 : w5.cell? ⟨w.heap.size, 3, none⟩ = some (u32v s.d) := (X5.get 0 rfl).cell 3
         replace X5 := hide X5; replace o5' := hide o5'
         clear o5 hb5)
      | (go_at_call 66; refine (eightR_any n ((W.drew.alloc (.cells zC 24)).alloc (.cells #[u8v 1] 5))).mono ?_; rintro e w5 ⟨v5, rfl, o5, hb5⟩
         obtain ⟨A5, c5, rfl⟩ : ∃ A c, v5 = .slice A 8 c := by obtain ⟨A, c, e⟩ := o5.form; exact ⟨A, c, by rw [e, unhide hl8]⟩
         have o5' : w5.ownsRow (w.heap.size + 1) 5 1 (.slice A5 8 c5) 8 ((eight n).map u8v) := own_n (ownsRow_mono (base' := w.heap.size + 1) o5 (sz_alloc (sz_alloc (Nat.succ_le_of_lt l0) (.cells zC 24)) (.cells #[u8v 1] 5))) (unhide hl8)
         have X5 : Fx w w5 [(w.heap.size, 24, stC s)] [] [] := Fx.call (((unhide X0).drew.alloc (.cells zC 24)).alloc (.cells #[u8v 1] 5)) hb5
         have R5 : Blk w5 (W.heap.size + 1) 5 #[u8v 1] := Blk.call (V := ((W.drew.alloc (.cells zC 24)).alloc (.cells #[u8v 1] 5))) (Blk.new (w := W.drew.alloc (.cells zC 24)) (t := 5) (cs := #[u8v 1]) (by simp)) hb5
         replace R5 := hide R5
         have Z5 : Blk w5 (W.heap.size) 24 zC := Blk.call (V := ((W.drew.alloc (.cells zC 24)).alloc (.cells #[u8v 1] 5))) (Blk.alloc (Blk.new (w := W.drew) (t := 24) (cs := zC) rfl) (.cells #[u8v 1] 5)) hb5
         have n5 : w.heap.size < W.heap.size := by omega
         replace Z5 := hide Z5; replace n5 := hide n5
         have l5 : w.heap.size < w5.heap.size := (X5.get 0 rfl).lt
         have c50 : w5.cell? ⟨w.heap.size, 0, none⟩ = some (u32v s.a) := (X5.get 0 rfl).cell 0
         have c51 : w5.cell? ⟨w.heap.size, 1, none⟩ = some (u32v s.b) := (X5.get 0 rfl).cell 1
         have c52 : w5.cell? ⟨w.heap.size, 2, none⟩ = some (u32v s.c) := (X5.get 0 rfl).cell 2
         have c53 : w5.cell? ⟨w.heap.size, 3, none⟩ = some (u32v s.d) := (X5.get 0 rfl).cell 3
         replace X5 := hide X5; replace o5' := hide o5'
         clear o5 hb5)
      | (refine step_app rfl (.tmp 17) (.tmp 18) 29 rfl (w.heap.size + 1) 5 i0 _ 1 1 Tryz.underlying29 hi0 hz0 hz1 hz2 rfl (Nat.succ_pos _) _ 8 ((eight n).map u8v) rfl (unhide o5') _ 1 1 (([1] : List UInt8).map u8v) rfl rfl (one_row (unhide R5)) (unhide ho2) (unhide b3) (unhide b4) (Nat.succ_le_of_lt l5) ?_
         intro v6 w6 o6 hg6
         have X6 : Fx w w6 [(w.heap.size, 24, stC s)] [] [] := Fx.grown (unhide X5) (unhide o5') hg6 (Nat.le_succ _) (by simp)
         have y6 : Bs 0 w6.heap.size w6 v6 (eight n ++ [1]) := Bs.of_own0 (own_app o6 (by rw [unhide hl9]))
         obtain ⟨A6, c6, rfl⟩ : ∃ A c, v6 = .slice A (8 + 1) c := by obtain ⟨A, c, e⟩ := y6.form; exact ⟨A, c, by rw [e, unhide hl9]⟩
         (first | (have Z6 : Blk w6 (W.heap.size) 24 zC := Blk.grown (V := w5) (unhide Z5) (unhide o5') hg6 (by decide); have n6 : w.heap.size < W.heap.size := unhide n5; replace Z6 := hide Z6; replace n6 := hide n6) | skip)
         (first | (have Z6 : Blk w6 (W.heap.size + 1) 24 zC := Blk.grown (V := w5) (unhide Z5) (unhide o5') hg6 (by decide); have n6 : w.heap.size < W.heap.size + 1 := unhide n5; replace Z6 := hide Z6; replace n6 := hide n6) | skip)
         have l6 : w.heap.size < w6.heap.size := (X6.get 0 rfl).lt
         have c60 : w6.cell? ⟨w.heap.size, 0, none⟩ = some (u32v s.a) := (X6.get 0 rfl).cell 0
         have c61 : w6.cell? ⟨w.heap.size, 1, none⟩ = some (u32v s.b) := (X6.get 0 rfl).cell 1
         have c62 : w6.cell? ⟨w.heap.size, 2, none⟩ = some (u32v s.c) := (X6.get 0 rfl).cell 2
         have c63 : w6.cell? ⟨w.heap.size, 3, none⟩ = some (u32v s.d) := (X6.get 0 rfl).cell 3
         replace X6 := hide X6; replace y6 := hide y6
         clear o6 hg6)
      | (refine step_app rfl (.tmp 17) (.tmp 18) 29 rfl (w.heap.size + 1) 5 i0 _ 1 1 Tryz.underlying29 hi0 hz0 hz1 hz2 rfl (Nat.succ_pos _) _ 8 ((eight n).map u8v) rfl (World.ownsRow.alloc (unhide o5') (.cells #[u8v 1] 5)) _ 1 1 (([1] : List UInt8).map u8v) rfl rfl (one_src w5 1) (unhide ho2) (unhide b3) (unhide b4) (sz_alloc (Nat.succ_le_of_lt l5) (.cells #[u8v 1] 5)) ?_
         intro v6 w6 o6 hg6
         have X6 : Fx w w6 [(w.heap.size, 24, stC s)] [] [] := Fx.grown ((unhide X5).alloc (.cells #[u8v 1] 5)) (World.ownsRow.alloc (unhide o5') (.cells #[u8v 1] 5)) hg6 (Nat.le_succ _) (by simp)
         have y6 : Bs 0 w6.heap.size w6 v6 (eight n ++ [1]) := Bs.of_own0 (own_app o6 (by rw [unhide hl9]))
         obtain ⟨A6, c6, rfl⟩ : ∃ A c, v6 = .slice A (8 + 1) c := by obtain ⟨A, c, e⟩ := y6.form; exact ⟨A, c, by rw [e, unhide hl9]⟩
         (first | (have Z6 : Blk w6 (W.heap.size) 24 zC := Blk.grown (V := (w5.alloc (.cells #[u8v 1] 5))) (Blk.alloc (unhide Z5) (.cells #[u8v 1] 5)) (World.ownsRow.alloc (unhide o5') (.cells #[u8v 1] 5)) hg6 (by decide); have n6 : w.heap.size < W.heap.size := unhide n5; replace Z6 := hide Z6; replace n6 := hide n6) | skip)
         (first | (have Z6 : Blk w6 (W.heap.size + 1) 24 zC := Blk.grown (V := (w5.alloc (.cells #[u8v 1] 5))) (Blk.alloc (unhide Z5) (.cells #[u8v 1] 5)) (World.ownsRow.alloc (unhide o5') (.cells #[u8v 1] 5)) hg6 (by decide); have n6 : w.heap.size < W.heap.size + 1 := unhide n5; replace Z6 := hide Z6; replace n6 := hide n6) | skip)
         have l6 : w.heap.size < w6.heap.size := (X6.get 0 rfl).lt
         have c60 : w6.cell? ⟨w.heap.size, 0, none⟩ = some (u32v s.a) := (X6.get 0 rfl).cell 0
         have c61 : w6.cell? ⟨w.heap.size, 1, none⟩ = some (u32v s.b) := (X6.get 0 rfl).cell 1
         have c62 : w6.cell? ⟨w.heap.size, 2, none⟩ = some (u32v s.c) := (X6.get 0 rfl).cell 2
         have c63 : w6.cell? ⟨w.heap.size, 3, none⟩ = some (u32v s.d) := (X6.get 0 rfl).cell 3
         replace X6 := hide X6; replace y6 := hide y6
         clear o6 hg6)
      | (refine step_app rfl (.tmp 17) (.tmp 18) 29 rfl (w.heap.size + 1) 5 i0 _ 1 1 Tryz.underlying29 hi0 hz0 hz1 hz2 rfl (Nat.succ_pos _) _ 8 ((eight n).map u8v) rfl (World.ownsRow.alloc (unhide o5') (.cells zC 24)) _ 1 1 (([1] : List UInt8).map u8v) rfl rfl (one_row (Blk.alloc (unhide R5) (.cells zC 24))) (unhide ho2) (unhide b3) (unhide b4) (sz_alloc (Nat.succ_le_of_lt l5) (.cells zC 24)) ?_
         intro v6 w6 o6 hg6
         have X6 : Fx w w6 [(w.heap.size, 24, stC s)] [] [] := Fx.grown ((unhide X5).alloc (.cells zC 24)) (World.ownsRow.alloc (unhide o5') (.cells zC 24)) hg6 (Nat.le_succ _) (by simp)
         have y6 : Bs 0 w6.heap.size w6 v6 (eight n ++ [1]) := Bs.of_own0 (own_app o6 (by rw [unhide hl9]))
         obtain ⟨A6, c6, rfl⟩ : ∃ A c, v6 = .slice A (8 + 1) c := by obtain ⟨A, c, e⟩ := y6.form; exact ⟨A, c, by rw [e, unhide hl9]⟩
         have Z6 : Blk w6 (w5.heap.size) 24 zC := Blk.grown (V := (w5.alloc (.cells zC 24))) (Blk.new (w := w5) (t := 24) (cs := zC) rfl) (World.ownsRow.alloc (unhide o5') (.cells zC 24)) hg6 (by decide)
         have n6 : w.heap.size < w5.heap.size := by omega
         replace Z6 := hide Z6; replace n6 := hide n6
         have l6 : w.heap.size < w6.heap.size := (X6.get 0 rfl).lt
         have c60 : w6.cell? ⟨w.heap.size, 0, none⟩ = some (u32v s.a) := (X6.get 0 rfl).cell 0
         have c61 : w6.cell? ⟨w.heap.size, 1, none⟩ = some (u32v s.b) := (X6.get 0 rfl).cell 1
         have c62 : w6.cell? ⟨w.heap.size, 2, none⟩ = some (u32v s.c) := (X6.get 0 rfl).cell 2
         have c63 : w6.cell? ⟨w.heap.size, 3, none⟩ = some (u32v s.d) := (X6.get 0 rfl).cell 3
         replace X6 := hide X6; replace y6 := hide y6
         clear o6 hg6)
      | (refine step_app rfl (.tmp 17) (.tmp 18) 29 rfl (w.heap.size + 1) 5 i0 _ 1 1 Tryz.underlying29 hi0 hz0 hz1 hz2 rfl (Nat.succ_pos _) _ 8 ((eight n).map u8v) rfl (World.ownsRow.alloc (World.ownsRow.alloc (unhide o5') (.cells #[u8v 1] 5)) (.cells zC 24)) _ 1 1 (([1] : List UInt8).map u8v) rfl rfl (one_row (Blk.alloc (Blk.new (w := w5) (t := 5) (cs := #[u8v 1]) rfl) (.cells zC 24))) (unhide ho2) (unhide b3) (unhide b4) (sz_alloc (sz_alloc (Nat.succ_le_of_lt l5) (.cells #[u8v 1] 5)) (.cells zC 24)) ?_
         intro v6 w6 o6 hg6
         have X6 : Fx w w6 [(w.heap.size, 24, stC s)] [] [] := Fx.grown (((unhide X5).alloc (.cells #[u8v 1] 5)).alloc (.cells zC 24)) (World.ownsRow.alloc (World.ownsRow.alloc (unhide o5') (.cells #[u8v 1] 5)) (.cells zC 24)) hg6 (Nat.le_succ _) (by simp)
         have y6 : Bs 0 w6.heap.size w6 v6 (eight n ++ [1]) := Bs.of_own0 (own_app o6 (by rw [unhide hl9]))
         obtain ⟨A6, c6, rfl⟩ : ∃ A c, v6 = .slice A (8 + 1) c := by obtain ⟨A, c, e⟩ := y6.form; exact ⟨A, c, by rw [e, unhide hl9]⟩
         have Z6 : Blk w6 (w5.heap.size + 1) 24 zC := Blk.grown (V := ((w5.alloc (.cells #[u8v 1] 5)).alloc (.cells zC 24))) (Blk.new (w := w5.alloc (.cells #[u8v 1] 5)) (t := 24) (cs := zC) (by simp)) (World.ownsRow.alloc (World.ownsRow.alloc (unhide o5') (.cells #[u8v 1] 5)) (.cells zC 24)) hg6 (by decide)
         have n6 : w.heap.size < w5.heap.size + 1 := by omega
         replace Z6 := hide Z6; replace n6 := hide n6
         have l6 : w.heap.size < w6.heap.size := (X6.get 0 rfl).lt
         have c60 : w6.cell? ⟨w.heap.size, 0, none⟩ = some (u32v s.a) := (X6.get 0 rfl).cell 0
         have c61 : w6.cell? ⟨w.heap.size, 1, none⟩ = some (u32v s.b) := (X6.get 0 rfl).cell 1
         have c62 : w6.cell? ⟨w.heap.size, 2, none⟩ = some (u32v s.c) := (X6.get 0 rfl).cell 2
         have c63 : w6.cell? ⟨w.heap.size, 3, none⟩ = some (u32v s.d) := (X6.get 0 rfl).cell 3
         replace X6 := hide X6; replace y6 := hide y6
         clear o6 hg6)
      | (refine step_app rfl (.tmp 17) (.tmp 18) 29 rfl (w.heap.size + 1) 5 i0 _ 1 1 Tryz.underlying29 hi0 hz0 hz1 hz2 rfl (Nat.succ_pos _) _ 8 ((eight n).map u8v) rfl (World.ownsRow.alloc (World.ownsRow.alloc (unhide o5') (.cells zC 24)) (.cells #[u8v 1] 5)) _ 1 1 (([1] : List UInt8).map u8v) rfl rfl (one_row (Blk.new (w := w5.alloc (.cells zC 24)) (g := w5.heap.size + 1) (t := 5) (cs := #[u8v 1]) (by simp))) (unhide ho2) (unhide b3) (unhide b4) (sz_alloc (sz_alloc (Nat.succ_le_of_lt l5) (.cells zC 24)) (.cells #[u8v 1] 5)) ?_
         intro v6 w6 o6 hg6
         have X6 : Fx w w6 [(w.heap.size, 24, stC s)] [] [] := Fx.grown (((unhide X5).alloc (.cells zC 24)).alloc (.cells #[u8v 1] 5)) (World.ownsRow.alloc (World.ownsRow.alloc (unhide o5') (.cells zC 24)) (.cells #[u8v 1] 5)) hg6 (Nat.le_succ _) (by simp)
         have y6 : Bs 0 w6.heap.size w6 v6 (eight n ++ [1]) := Bs.of_own0 (own_app o6 (by rw [unhide hl9]))
         obtain ⟨A6, c6, rfl⟩ : ∃ A c, v6 = .slice A (8 + 1) c := by obtain ⟨A, c, e⟩ := y6.form; exact ⟨A, c, by rw [e, unhide hl9]⟩
         have Z6 : Blk w6 (w5.heap.size) 24 zC := Blk.grown (V := ((w5.alloc (.cells zC 24)).alloc (.cells #[u8v 1] 5))) (Blk.alloc (Blk.new (w := w5) (t := 24) (cs := zC) rfl) (.cells #[u8v 1] 5)) (World.ownsRow.alloc (World.ownsRow.alloc (unhide o5') (.cells zC 24)) (.cells #[u8v 1] 5)) hg6 (by decide)
         have n6 : w.heap.size < w5.heap.size := by omega
         replace Z6 := hide Z6; replace n6 := hide n6
         have l6 : w.heap.size < w6.heap.size := (X6.get 0 rfl).lt
         have c60 : w6.cell? ⟨w.heap.size, 0, none⟩ = some (u32v s.a) := (X6.get 0 rfl).cell 0
         have c61 : w6.cell? ⟨w.heap.size, 1, none⟩ = some (u32v s.b) := (X6.get 0 rfl).cell 1
         have c62 : w6.cell? ⟨w.heap.size, 2, none⟩ = some (u32v s.c) := (X6.get 0 rfl).cell 2
         have c63 : w6.cell? ⟨w.heap.size, 3, none⟩ = some (u32v s.d) := (X6.get 0 rfl).cell 3
         replace X6 := hide X6; replace y6 := hide y6
         clear o6 hg6)
      | (go_at_call 77; refine (unhide hq _ (w6.alloc (.cells zC 24)) (Fx.bl ((unhide X6).alloc (.cells zC 24))) ((unhide y6).to (bl_alloc (Below.refl w6.heap.size w6) (.cells zC 24)))).mono ?_; rintro e w7 ⟨rfl, hb7⟩
         have X7 : Fx w w7 [(w.heap.size, 24, stC s)] [] [] := Fx.call ((unhide X6).alloc (.cells zC 24)) hb7
         have Z7 : Blk w7 (w6.heap.size) 24 zC := Blk.call (V := w6.alloc (.cells zC 24)) (Blk.new (w := w6) (t := 24) (cs := zC) rfl) hb7
         have n7 : w.heap.size < w6.heap.size := l6
         have z70 : w7.cell? ⟨w6.heap.size, 0, none⟩ = some (.int .u32 0) := Z7.cell 0
         have f70 : w7.frozen? ⟨w6.heap.size, 0, none⟩ = false := Z7.frozen 0
         have z71 : w7.cell? ⟨w6.heap.size, 1, none⟩ = some (.int .u32 0) := Z7.cell 1
         have f71 : w7.frozen? ⟨w6.heap.size, 1, none⟩ = false := Z7.frozen 1
         have z72 : w7.cell? ⟨w6.heap.size, 2, none⟩ = some (.int .u32 0) := Z7.cell 2
         have f72 : w7.frozen? ⟨w6.heap.size, 2, none⟩ = false := Z7.frozen 2
         have z73 : w7.cell? ⟨w6.heap.size, 3, none⟩ = some (.int .u32 0) := Z7.cell 3
         have f73 : w7.frozen? ⟨w6.heap.size, 3, none⟩ = false := Z7.frozen 3
         have m70 : w.heap.size ≠ w6.heap.size := Nat.ne_of_lt n7
         have m71 : w6.heap.size ≠ w.heap.size := Nat.ne_of_gt n7
         replace Z7 := hide Z7; replace n7 := hide n7
         have l7 : w.heap.size < w7.heap.size := (X7.get 0 rfl).lt
         have c70 : w7.cell? ⟨w.heap.size, 0, none⟩ = some (u32v s.a) := (X7.get 0 rfl).cell 0
         have c71 : w7.cell? ⟨w.heap.size, 1, none⟩ = some (u32v s.b) := (X7.get 0 rfl).cell 1
         have c72 : w7.cell? ⟨w.heap.size, 2, none⟩ = some (u32v s.c) := (X7.get 0 rfl).cell 2
         have c73 : w7.cell? ⟨w.heap.size, 3, none⟩ = some (u32v s.d) := (X7.get 0 rfl).cell 3
         replace X7 := hide X7; clear hb7)
      | (go_at_call 77; refine (unhide hq _ w6 (Fx.bl (unhide X6)) (unhide y6)).mono ?_; rintro e w7 ⟨rfl, hb7⟩
         have X7 : Fx w w7 [(w.heap.size, 24, stC s)] [] [] := Fx.call (unhide X6) hb7
         (first | (have Z7 : Blk w7 (W.heap.size) 24 zC := Blk.call (unhide Z6) hb7
                   have n7 : w.heap.size < W.heap.size := unhide n6
                   have z70 : w7.cell? ⟨W.heap.size, 0, none⟩ = some (.int .u32 0) := Z7.cell 0
                   have f70 : w7.frozen? ⟨W.heap.size, 0, none⟩ = false := Z7.frozen 0
                   have z71 : w7.cell? ⟨W.heap.size, 1, none⟩ = some (.int .u32 0) := Z7.cell 1
                   have f71 : w7.frozen? ⟨W.heap.size, 1, none⟩ = false := Z7.frozen 1
                   have z72 : w7.cell? ⟨W.heap.size, 2, none⟩ = some (.int .u32 0) := Z7.cell 2
                   have f72 : w7.frozen? ⟨W.heap.size, 2, none⟩ = false := Z7.frozen 2
                   have z73 : w7.cell? ⟨W.heap.size, 3, none⟩ = some (.int .u32 0) := Z7.cell 3
                   have f73 : w7.frozen? ⟨W.heap.size, 3, none⟩ = false := Z7.frozen 3
                   have m70 : w.heap.size ≠ W.heap.size := Nat.ne_of_lt n7
                   have m71 : W.heap.size ≠ w.heap.size := Nat.ne_of_gt n7
                   replace Z7 := hide Z7; replace n7 := hide n7) | skip)
         (first | (have Z7 : Blk w7 (W.heap.size + 1) 24 zC := Blk.call (unhide Z6) hb7
                   have n7 : w.heap.size < W.heap.size + 1 := unhide n6
                   have z70 : w7.cell? ⟨W.heap.size + 1, 0, none⟩ = some (.int .u32 0) := Z7.cell 0
                   have f70 : w7.frozen? ⟨W.heap.size + 1, 0, none⟩ = false := Z7.frozen 0
                   have z71 : w7.cell? ⟨W.heap.size + 1, 1, none⟩ = some (.int .u32 0) := Z7.cell 1
                   have f71 : w7.frozen? ⟨W.heap.size + 1, 1, none⟩ = false := Z7.frozen 1
                   have z72 : w7.cell? ⟨W.heap.size + 1, 2, none⟩ = some (.int .u32 0) := Z7.cell 2
                   have f72 : w7.frozen? ⟨W.heap.size + 1, 2, none⟩ = false := Z7.frozen 2
                   have z73 : w7.cell? ⟨W.heap.size + 1, 3, none⟩ = some (.int .u32 0) := Z7.cell 3
                   have f73 : w7.frozen? ⟨W.heap.size + 1, 3, none⟩ = false := Z7.frozen 3
                   have m70 : w.heap.size ≠ W.heap.size + 1 := Nat.ne_of_lt n7
                   have m71 : W.heap.size + 1 ≠ w.heap.size := Nat.ne_of_gt n7
                   replace Z7 := hide Z7; replace n7 := hide n7) | skip)
         (first | (have Z7 : Blk w7 (w5.heap.size) 24 zC := Blk.call (unhide Z6) hb7
                   have n7 : w.heap.size < w5.heap.size := unhide n6
                   have z70 : w7.cell? ⟨w5.heap.size, 0, none⟩ = some (.int .u32 0) := Z7.cell 0
                   have f70 : w7.frozen? ⟨w5.heap.size, 0, none⟩ = false := Z7.frozen 0
                   have z71 : w7.cell? ⟨w5.heap.size, 1, none⟩ = some (.int .u32 0) := Z7.cell 1
                   have f71 : w7.frozen? ⟨w5.heap.size, 1, none⟩ = false := Z7.frozen 1
                   have z72 : w7.cell? ⟨w5.heap.size, 2, none⟩ = some (.int .u32 0) := Z7.cell 2
                   have f72 : w7.frozen? ⟨w5.heap.size, 2, none⟩ = false := Z7.frozen 2
                   have z73 : w7.cell? ⟨w5.heap.size, 3, none⟩ = some (.int .u32 0) := Z7.cell 3
                   have f73 : w7.frozen? ⟨w5.heap.size, 3, none⟩ = false := Z7.frozen 3
                   have m70 : w.heap.size ≠ w5.heap.size := Nat.ne_of_lt n7
                   have m71 : w5.heap.size ≠ w.heap.size := Nat.ne_of_gt n7
                   replace Z7 := hide Z7; replace n7 := hide n7) | skip)
         (first | (have Z7 : Blk w7 (w5.heap.size + 1) 24 zC := Blk.call (unhide Z6) hb7
                   have n7 : w.heap.size < w5.heap.size + 1 := unhide n6
                   have z70 : w7.cell? ⟨w5.heap.size + 1, 0, none⟩ = some (.int .u32 0) := Z7.cell 0
                   have f70 : w7.frozen? ⟨w5.heap.size + 1, 0, none⟩ = false := Z7.frozen 0
                   have z71 : w7.cell? ⟨w5.heap.size + 1, 1, none⟩ = some (.int .u32 0) := Z7.cell 1
                   have f71 : w7.frozen? ⟨w5.heap.size + 1, 1, none⟩ = false := Z7.frozen 1
                   have z72 : w7.cell? ⟨w5.heap.size + 1, 2, none⟩ = some (.int .u32 0) := Z7.cell 2
                   have f72 : w7.frozen? ⟨w5.heap.size + 1, 2, none⟩ = false := Z7.frozen 2
                   have z73 : w7.cell? ⟨w5.heap.size + 1, 3, none⟩ = some (.int .u32 0) := Z7.cell 3
                   have f73 : w7.frozen? ⟨w5.heap.size + 1, 3, none⟩ = false := Z7.frozen 3
                   have m70 : w.heap.size ≠ w5.heap.size + 1 := Nat.ne_of_lt n7
                   have m71 : w5.heap.size + 1 ≠ w.heap.size := Nat.ne_of_gt n7
                   replace Z7 := hide Z7; replace n7 := hide n7) | skip)
         have l7 : w.heap.size < w7.heap.size := (X7.get 0 rfl).lt
         have c70 : w7.cell? ⟨w.heap.size, 0, none⟩ = some (u32v s.a) := (X7.get 0 rfl).cell 0
         have c71 : w7.cell? ⟨w.heap.size, 1, none⟩ = some (u32v s.b) := (X7.get 0 rfl).cell 1
         have c72 : w7.cell? ⟨w.heap.size, 2, none⟩ = some (u32v s.c) := (X7.get 0 rfl).cell 2
         have c73 : w7.cell? ⟨w.heap.size, 3, none⟩ = some (u32v s.d) := (X7.get 0 rfl).cell 3
         replace X7 := hide X7; clear hb7))
    all_goals
      go_wp2_with (fail)
      go_meet
      refine ⟨_, rfl, rfl, hide ?_⟩
      first
      | with_reducible exact Fx.sub ((unhide X7).newB w7.heap.size rfl (stC S') 24) (by simp) (by simp) (by simp)
      | with_reducible exact Fx.put4 (unhide X7) (unhide Z7) (unhide n7)
  case rest =>
    obtain ⟨g, rfl, rfl, hcut⟩ := hcut
    have d0 : wc.cell? ⟨g, 0, none⟩ = some (u32v S'.a) := ((unhide hcut).get 0 rfl).cell 0
    have d1 : wc.cell? ⟨g, 1, none⟩ = some (u32v S'.b) := ((unhide hcut).get 0 rfl).cell 1
    have d2 : wc.cell? ⟨g, 2, none⟩ = some (u32v S'.c) := ((unhide hcut).get 0 rfl).cell 2
    have d3 : wc.cell? ⟨g, 3, none⟩ = some (u32v S'.d) := ((unhide hcut).get 0 rfl).cell 3
    go_wp2_with (first
      | (go_at_call 114; refine (unhide hs _ (unhide hcut).bl).mono ?_; rintro e w9 ⟨A9, c9, rfl, o9, hb9⟩)
      | fail)
    go_ret2
    exact ⟨A9, c9, rfl, (o9.mono (unhide hcut).bl.size (Nat.le_refl _)), bl_call (unhide hcut).bl hb9⟩
end Go.Proofs.YthkccpemgmpadaaGreatDoor

namespace Go.Proofs.YthkccpemgmpadaaGreatDoor
set_option maxRecDepth 100000
open Go.RowKit
section
end
end Go.Proofs.YthkccpemgmpadaaGreatDoor

namespace Go.Proofs.YthkccpemgmpadaaGreatDoor
set_option maxRecDepth 100000
open Go.RowKit
theorem own_put {w : World} {base g n cap k : Nat} {e : TypeId} {xs : List Value} (h : w.ownsRow base e 1 (.slice (some ⟨g, 0, none⟩) n cap) n xs) (u : Value) :
    (w.setCell ⟨g, k, none⟩ u).ownsRow base e 1 (.slice (some ⟨g, 0, none⟩) n cap) n (xs.set k u) := by
  obtain ⟨h1, h2⟩ := h
  refine ⟨by rw [List.length_set]; exact h1, ?_⟩
  rcases h2 with ⟨h2, _⟩ | ⟨g', cap', cur, hv, hb, hh, r1, r2, r3, r4⟩
  · cases h2
  · injection hv with e1 _ e3
    injection e1 with e1
    injection e1 with e1
    subst e1 e3
    refine .inr ⟨g, cap, cur.setIfInBounds k u, rfl, hb, heap_setCell_same w g k cur e u hh, r1, r2, by simpa using r3, ?_⟩
    rw [Array.toList_setIfInBounds, List.take_set, r4]
theorem own_pos {w : World} {base n : Nat} {e : TypeId} {A : Option Addr} {c : Nat} {xs : List Value} (h : w.ownsRow base e 1 (.slice A n c) n xs) (h0 : 0 < n) :
    ∃ g cur, A = some ⟨g, 0, none⟩ ∧ base ≤ g ∧ Blk w g e cur ∧ n ≤ cur.size ∧ ∀ k, k < n → cur[k]? = xs[k]? := by
  obtain ⟨h1, h2⟩ := h
  rcases h2 with ⟨h2, h3⟩ | ⟨g', cap', cur, hv, hb, hh, r1, r2, r3, r4⟩
  · omega
  · injection hv with e1 _ e3
    refine ⟨g', cur, e1, hb, hh, by omega, fun k hk => ?_⟩
    subst r4
    rw [List.getElem?_take, if_pos (by omega), Array.getElem?_toList]
theorem ofInt_u8 (x : UInt8) : BitVec.ofInt IntKind.u8.bits (n8 x) = x.toBitVec := by
  show BitVec.ofInt 8 (x.toNat : Int) = x.toBitVec
  rw [BitVec.ofInt_natCast, ← UInt8.toNat_toBitVec, BitVec.ofNat_toNat, BitVec.setWidth_eq]
theorem q8_xor (x y : UInt8) : bits .xor .u8 (n8 x) (n8 y) = n8 (x ^^^ y) := by
  show IntKind.u8.wrap _ = _
  rw [ofInt_u8, ofInt_u8]
  show IntKind.u8.wrap (((x ^^^ y).toNat : Nat) : Int) = ((x ^^^ y).toNat : Int)
  have := (x ^^^ y).toNat_lt
  rw [IntKind.wrap_u8']
  omega
def mixH (st t : List UInt8) (k : Nat) : List UInt8 := (List.zipWith (· ^^^ ·) st t).take k ++ st.drop k
theorem mixH_len {st t : List UInt8} (h : st.length = t.length) (k : Nat) : (mixH st t k).length = t.length := by
  unfold mixH; simp; omega
theorem mixH_zero (st t : List UInt8) : mixH st t 0 = st := by simp [mixH]
theorem mixH_get {st t : List UInt8} (h : st.length = t.length) {k : Nat} (hk : k < st.length) : (mixH st t k)[k]? = some st[k] := by
  unfold mixH
  rw [List.getElem?_append_right (by simp; omega)]
  have e : ((List.zipWith (· ^^^ ·) st t).take k).length = k := by simp; omega
  rw [e, Nat.sub_self, List.getElem?_drop, Nat.add_zero, List.getElem?_eq_getElem hk]
theorem mixH_set {st t : List UInt8} (h : st.length = t.length) {k : Nat} (hk : k < st.length) : (mixH st t k).set k (st[k] ^^^ t[k]'(by omega)) = mixH st t (k + 1) := by
  have e : ((List.zipWith (· ^^^ ·) st t).take k).length = k := by simp; omega
  have hz : k < (List.zipWith (· ^^^ ·) st t).length := by simp; omega
  unfold mixH
  rw [List.set_append_right _ _ (by omega), e, Nat.sub_self, List.drop_eq_getElem_cons hk, List.set_cons_zero]
  rw [List.take_add_one, List.getElem?_eq_getElem hz]
  simp
theorem mixH_all {st t : List UInt8} (h : st.length = t.length) : mixH st t t.length = List.zipWith (· ^^^ ·) t st := by
  unfold mixH
  rw [List.take_of_length_le (by simp; omega), List.drop_of_length_le (by omega), List.append_nil]
  rw [List.zipWith_comm]
  congr 1
  funext x y
  exact UInt8.xor_comm _ _
theorem mixH_hid (s : St) (n : Nx) (t : List UInt8) : mixH (streamF s n t.length) t t.length = hidF s n t := mixH_all (stream_len _ _ _)
section
attribute [local go_sem] q8_xor
set_option maxHeartbeats 1000000 in
theorem turned_any (s : St) (n : Nx) (v : Value) (t : List UInt8) (w : World) (ht : Tab w) (h : Bs 0 w.heap.size w v t) (hk : t.length ≤ 65536) :
    Calls Tryz.prog 58 #[stV s, u64v n, v] w fun e w' => ∃ A c, e = .returned (.tuple #[.slice A t.length c, .int .i64 0]) ∧ OwnB w' w.heap.size (.slice A t.length c) (hidF s n t) ∧ Below w.heap.size w w' := by
  have hB : Blk (w.alloc (.cells (stC s) 24)) w.heap.size 24 (stC s) := Blk.new rfl
  have hb : Below w.heap.size w (w.alloc (.cells (stC s) 24)) := bl_alloc (Below.refl _ _) _
  have hs := fun W (hb : Below w.heap.size w W) => Stream_good s n t.length W (ht.below hb (Nat.le_refl _)) hk
  have hlen := stream_len s n t.length
  have hF := mixH_hid s n t
  have hG := hid_len s n t
  generalize streamF s n t.length = st at *
  rw [← hF]
  rw [← hF] at hG
  have m0 := mixH_zero st t
  have mg := fun k (hk : k < st.length) => mixH_get hlen hk
  have ms := fun k (hk : k < st.length) => mixH_set hlen hk
  have ml := mixH_len hlen
  have hx : ∀ W, Below w.heap.size w W → ∀ k (hk : k < t.length), ∃ b off c, v = .slice (some ⟨b, off, none⟩) t.length c ∧ W.cell? ⟨b, off + k, none⟩ = some (u8v t[k]) := fun W hb k hk => by
    obtain ⟨A, c, e, _, _, h3⟩ := h
    obtain ⟨b, off, rfl, _, hb', hc⟩ := h3 (by omega)
    exact ⟨b, off, c, e, (hb.cell (p := ⟨b, off + k, none⟩) hb').trans (hc k hk)⟩
  obtain ⟨A, c, rfl⟩ := h.form
  obtain ⟨m, hm⟩ : ∃ m, m = t.length := ⟨_, rfl⟩
  have hm0 : m ≤ 65536 := by omega
  rw [← hm] at hs hlen
  replace hm := hide hm
  replace hB := hide hB; replace hb := hide hb; replace hs := hide hs; replace hlen := hide hlen; replace hF := hide hF; replace hG := hide hG; replace m0 := hide m0; replace mg := hide mg; replace ms := hide ms; replace ml := hide ml; replace hx := hide hx
  clear h hk ht
  rw [← unhide hm]
  go_enter Tryz.func58, Tryz.ntmps58
  go_upto_region 1 with (fail)
  generalize hW : World.alloc w _ = W at *
  clear hW
  have l0 := (unhide hB).lt
  have c00 : W.cell? ⟨w.heap.size, 0, none⟩ = some (u32v s.a) := (unhide hB).cell 0
  have c01 : W.cell? ⟨w.heap.size, 1, none⟩ = some (u32v s.b) := (unhide hB).cell 1
  have c02 : W.cell? ⟨w.heap.size, 2, none⟩ = some (u32v s.c) := (unhide hB).cell 2
  have c03 : W.cell? ⟨w.heap.size, 3, none⟩ = some (u32v s.d) := (unhide hB).cell 3
  go_wp2_with (first
    | (go_at_call 94; refine (unhide hs _ (unhide hb)).mono ?_; rintro e w2 ⟨A2, c2, rfl, o2, hb2⟩
       have b2 : Below w.heap.size w w2 := bl_call (unhide hb) hb2
       have o2' : w2.ownsRow w.heap.size 5 1 (.slice A2 m c2) m ((mixH st t 0).map u8v) := by rw [unhide m0]; exact own_n (ownsRow_mono o2 (unhide hb).size) (unhide hlen)
       replace b2 := hide b2; replace o2' := hide o2'
       clear o2 hb2)
    | fail)
  go_loopw [10, 11, 25] (fun _ _ i wr => ∃ k : Nat, k ≤ m ∧ i = .int .i64 k ∧ Hid (wr.ownsRow w.heap.size 5 1 (.slice A2 m c2) m ((mixH st t k).map u8v)) ∧ Hid (Below w.heap.size w wr)) (fun _ _ i _ => m - (intOf i).toNat)
  case atStart => exact ⟨0, by omega, rfl, o2', b2⟩
  case round =>
    obtain ⟨k, hkm, rfl, o, b⟩ := hrel
    by_cases hlt : k < m
    · have k1 : (k : Int) < (m : Int) := by omega
      have hkt : k < t.length := by rw [← unhide hm]; exact hlt
      have hks : k < st.length := by rw [unhide hlen]; exact hlt
      obtain ⟨bq, off, cq, hq, hc⟩ := unhide hx wr (unhide b) k hkt
      injection hq with hq1 hq2 hq3
      subst hq1 hq3
      clear hq2
      obtain ⟨g, cur, hA, hbg, hBk, hcur, hcell⟩ := own_pos (unhide o) (by omega)
      subst hA
      have gl := hBk.lt
      have cc : wr.cell? ⟨g, k, none⟩ = some (u8v st[k]) := by
        rw [hBk.cell, hcell k hlt, List.getElem?_map, unhide mg k hks]; rfl
      have cf : wr.frozen? ⟨g, k, none⟩ = false := hBk.frozen k
      have hset := unhide ms k hks
      have ho4 := own_put (k := k) (unhide o) (u8v (st[k] ^^^ t[k]))
      rw [← List.map_set, hset] at ho4
      have hb4 := (unhide b).setCell (p := ⟨g, k, none⟩) hbg (u8v (st[k] ^^^ t[k]))
      generalize st[k] = x at *
      generalize t[k] = y at *
      replace hset := hide hset; replace ho4 := hide ho4; replace hb4 := hide hb4; replace hBk := hide hBk; replace hcell := hide hcell; replace hcur := hide hcur; replace hkt := hide hkt; replace hks := hide hks; replace hbg := hide hbg
      go_wp2_with (fail)
      go_roundw
      case rel => exact ⟨k + 1, by omega, by go_num, ho4, hb4⟩
      case measure => simp [intOf]; omega
    · obtain rfl : k = m := by omega
      go_wp2_with (fail)
      go_ret2
      refine ⟨A2, c2, rfl, ?_, unhide b⟩
      have := unhide o
      unfold OwnB
      rw [unhide ml, ← unhide hm]
      exact this
end
end Go.Proofs.YthkccpemgmpadaaGreatDoor

namespace Go.Proofs.YthkccpemgmpadaaGreatDoor
set_option maxRecDepth 100000
open Go.RowKit
abbrev bxC (n : Nx) (v : Value) (t : St) : Array Value := #[u64v n, v, u32v t.a, u32v t.b, u32v t.c, u32v t.d]
abbrev bxV (n : Nx) (v : Value) (t : St) : Value := .agg (bxC n v t)
abbrev rgC (s : St) (n : Nx) : Array Value := #[u32v s.a, u32v s.b, u32v s.c, u32v s.d, u64v n]
abbrev rgV (s : St) (n : Nx) : Value := .agg (rgC s n)
abbrev zBx : Array Value := #[.int .u64 0, .slice none 0 0, .int .u32 0, .int .u32 0, .int .u32 0, .int .u32 0]
abbrev zRg : Array Value := #[.int .u32 0, .int .u32 0, .int .u32 0, .int .u32 0, .int .u64 0]
theorem size30 : (Tryz.prog.info? 55).map (·.size) = some 6 := by kernel_rfl
theorem size27 : (Tryz.prog.info? 27).map (·.size) = some 5 := by kernel_rfl
theorem ret_br3 {fn : Func} {p q u : Tmp} {R : Ending → World → Prop} {a : Act} {w : World} (h : fn.results = #[.cell p 55, .cell q 27, .tmp u]) (g g' : Nat) (cs ds : Array Value) (v : Value) (hcs : cs.size = 6) (hds : ds.size = 5)
    (hp : a.tmps.getD p undef = .pointer (some ⟨g, 0, none⟩)) (hq : a.tmps.getD q undef = .pointer (some ⟨g', 0, none⟩)) (hu : a.tmps.getD u undef = v) (hg : Blk w g 55 cs) (hg' : Blk w g' 27 ds) (hd : a.defers = []) (hR : R (.returned (.tuple #[.agg cs, .agg ds, v])) w) : bodyPost Tryz.prog fn R .ret a w := by
  refine bodyPost_ret (v := .tuple #[.agg cs, .agg ds, v]) ?_ hd hR
  have hl := run_loadVar_row (P := Tryz.prog) w g 55 55 cs (0, 0) _ hg Tryz.underlying55 rfl (by rw [hcs]; exact size30)
  have hl' := run_loadVar_row (P := Tryz.prog) w g' 27 27 ds (0, 0) _ hg' Tryz.underlying27 rfl (by rw [hds]; exact size27)
  have hp' : a.tmps[p]?.getD undef = .pointer (some ⟨g, 0, none⟩) := by simpa using hp
  have hq' : a.tmps[q]?.getD undef = .pointer (some ⟨g', 0, none⟩) := by simpa using hq
  have hu' : a.tmps[u]?.getD undef = v := by simpa using hu
  simp [results, h, hp', hq', hu', asAddr, Result.andThen, hl, hl']
theorem ret_b2 {fn : Func} {p u : Tmp} {R : Ending → World → Prop} {a : Act} {w : World} (h : fn.results = #[.cell p 55, .tmp u]) (g : Nat) (cs : Array Value) (v : Value) (hcs : cs.size = 6)
    (hp : a.tmps.getD p undef = .pointer (some ⟨g, 0, none⟩)) (hu : a.tmps.getD u undef = v) (hg : Blk w g 55 cs) (hd : a.defers = []) (hR : R (.returned (.tuple #[.agg cs, v])) w) : bodyPost Tryz.prog fn R .ret a w := by
  refine bodyPost_ret (v := .tuple #[.agg cs, v]) ?_ hd hR
  rw [results_cell_tmp h, hp, hu]
  have hl := run_loadVar_row (P := Tryz.prog) w g 55 55 cs (0, 0) _ hg Tryz.underlying55 rfl (by rw [hcs]; exact size30)
  simp [asAddr, Result.andThen, hl]
end Go.Proofs.YthkccpemgmpadaaGreatDoor

namespace Go.Proofs.YthkccpemgmpadaaGreatDoor
set_option maxRecDepth 100000
open Go.RowKit
theorem zbx_one : zBx.all (·.oneCell') = true := by simp [Value.oneCell']
theorem zrg_one : zRg.all (·.oneCell') = true := by simp [Value.oneCell']
theorem bl_row2 {B g g' : Nat} {a w : World} (h : Below B a w) (C C' : Array Value) (hg : B ≤ g) (hg' : B ≤ g') : Below B a ((w.setRow g C).setRow g' C') := bl_row (bl_row h C hg) C' hg'
theorem full_eq : n64 18446744073709551615#64 = (18446744073709551615 : Int) := by decide
theorem full_ne {n : Nx} (h : n ≠ 18446744073709551615#64) : ¬ n64 n = (18446744073709551615 : Int) := by
  intro e
  rw [← full_eq] at e
  exact h (n64_inj e)
set_option maxHeartbeats 1000000 in
theorem Seal_full (lo : Nat) (s : St) (v : Value) (l : List UInt8) (w : World) (h : Bs lo w.heap.size w v l) (hl : l.length ≤ 65536) :
    Calls Tryz.prog 29 #[rgV s 18446744073709551615#64, v] w fun e w' => e = .returned (.tuple #[.agg zBx, .agg zRg, .int .i64 6]) ∧ Below w.heap.size w w' := by
  obtain ⟨A, c, rfl⟩ := h.form
  have h1 : ¬ (65536 : Int) < (l.length : Int) := by omega
  have hf := full_eq
  generalize (18446744073709551615#64 : Nx) = n at *
  have X0 : Fx w (((w.alloc (.cells (rgC s n) 27)).alloc (.cells zBx 55)).alloc (.cells zRg 27)) [(w.heap.size, 27, rgC s n), (w.heap.size + 1, 55, zBx), (w.heap.size + 1 + 1, 27, zRg)] [] [] := (((Fx.nil w).newB w.heap.size rfl (rgC s n) 27).newB (w.heap.size + 1) (by simp) zBx 55).newB (w.heap.size + 1 + 1) (by simp) zRg 27
  replace X0 := hide X0
  clear h hl
  go_enter Tryz.func29, Tryz.ntmps29
  go_upto_region 1 with (fail)
  generalize hW : World.alloc (World.alloc (World.alloc w _) _) _ = W at *
  clear hW
  have c4 : W.cell? ⟨w.heap.size, 4, none⟩ = some (u64v n) := ((unhide X0).get 0 rfl).cell 4
  have B1 := (unhide X0).get 1 rfl
  have B2 := (unhide X0).get 2 rfl
  have hb := (unhide X0).bl
  have B2' : Blk (W.setRow (w.heap.size + 1) zBx) (w.heap.size + 1 + 1) 27 zRg := B2.row_other zBx (by omega)
  have F1 : Blk ((W.setRow (w.heap.size + 1) zBx).setRow (w.heap.size + 1 + 1) zRg) (w.heap.size + 1) 55 zBx := (B1.row zBx).row_other zRg (by omega)
  have F2 : Blk ((W.setRow (w.heap.size + 1) zBx).setRow (w.heap.size + 1 + 1) zRg) (w.heap.size + 1 + 1) 27 zRg := B2'.row zRg
  replace B1 := hide B1; replace B2' := hide B2'; replace F1 := hide F1; replace F2 := hide F2; replace hb := hide hb
  clear B2
  go_wp2_with (first
    | (refine wpList_store_row rfl 55 (.tmp 4) (.tmp 19) rfl (w.heap.size + 1) zBx rfl rfl 55 zBx (unhide B1) size30 rfl zbx_one ?_)
    | (refine wpList_store_row rfl 27 (.tmp 5) (.tmp 20) rfl (w.heap.size + 1 + 1) zRg rfl rfl 27 zRg (unhide B2') size27 rfl zrg_one ?_)
    | fail)
  exact ret_br3 rfl (w.heap.size + 1) (w.heap.size + 1 + 1) zBx zRg (.int .i64 6) rfl rfl rfl rfl rfl (unhide F1) (unhide F2) rfl ⟨rfl, bl_row2 (unhide hb) _ _ (by omega) (by omega)⟩
end Go.Proofs.YthkccpemgmpadaaGreatDoor
