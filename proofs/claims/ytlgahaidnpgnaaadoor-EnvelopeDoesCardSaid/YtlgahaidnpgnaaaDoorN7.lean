import Derived.Test.YtlgahaidnpgnaaaDoorN6
namespace Go.Proofs.YtlgahaidnpgnaaaDoor
open Go.RowKit

set_option maxHeartbeats 4000000 in
theorem StreamR_good (s : St) (n : Nx) (k : Nat) (w : World) (hk : k ≤ 65536) :
    Calls Tryd.prog 19 #[stV s, u64v n, .int .i64 k] w fun e w' => ∃ A c, e = .returned (.tuple #[.slice A k c, .int .i64 0]) ∧ Bs w.heap.size w'.heap.size w' (.slice A k c) (streamF s n k) ∧ Below w.heap.size w w' := by
  obtain ⟨i0, hi0, hz0, hz1, hz2⟩ := info_parts info5
  have X0 : Fx w (w.alloc (.cells (stC s) 24)) [(w.heap.size, 24, stC s)] [] [] := (Fx.nil w).newB w.heap.size rfl (stC s) 24
  have hk0 : ¬ (k : Int) < 0 := by omega
  have hk1 : ¬ (65536 : Int) < (k : Int) := by omega
  have hl8 := eight_len n
  have hq := fun va W (hb : Below w.heap.size w W) (h' : Bs 0 W.heap.size W va (eight n ++ [1])) => AbsorbR_good 0 s va (eight n ++ [1]) W h' (by simp [hl8])
  have hs := fun W (hb : Below w.heap.size w W) => SqueezeR_good (absorbF s (eight n ++ [1])) k W (by omega)
  have hF : streamF s n k = squeezeF (absorbF s (eight n ++ [1])) k := rfl
  rw [hF]
  generalize absorbF s (eight n ++ [1]) = S' at *
  have hl9 : (eight n ++ [1]).length = 8 + 1 := by rw [List.length_append, hl8]; rfl
  have ho2 := u8s_one [1]
  have b3 : 8 + 1 ≤ maxLen := by simp only [maxLen]; omega
  have b4 : (8 + 1) * 1 ≤ 140737488355328 := by omega
  generalize squeezeF S' k = out at *
  replace X0 := hide X0; replace hq := hide hq; replace hs := hide hs; replace hl9 := hide hl9; replace hl8 := hide hl8; replace ho2 := hide ho2; replace b3 := hide b3; replace b4 := hide b4
  clear hF
  go_enter Tryd.func19, Tryd.ntmps19
  go_upto_region 5 with (fail)
  generalize hW : World.alloc w _ = W at *
  clear hW
  have l0 : w.heap.size < W.heap.size := ((unhide X0).get 0 rfl).lt
  have c00 : W.cell? ⟨w.heap.size, 0, none⟩ = some (u32v s.a) := ((unhide X0).get 0 rfl).cell 0
  have c01 : W.cell? ⟨w.heap.size, 1, none⟩ = some (u32v s.b) := ((unhide X0).get 0 rfl).cell 1
  have c02 : W.cell? ⟨w.heap.size, 2, none⟩ = some (u32v s.c) := ((unhide X0).get 0 rfl).cell 2
  have c03 : W.cell? ⟨w.heap.size, 3, none⟩ = some (u32v s.d) := ((unhide X0).get 0 rfl).cell 3
  go_cut [8, 9] (fun s8 s9 wx => ∃ g, s8 = .pointer (some ⟨g, 0, none⟩) ∧ s9 = .int .i64 0 ∧ Hid (Fx w wx [(g, 24, stC S')] [] []))
  case first =>
    go_region_held3 (fun W => W.cell? ⟨w.heap.size, 0, none⟩ = some (u32v s.a) ∧ W.cell? ⟨w.heap.size, 1, none⟩ = some (u32v s.b) ∧ W.cell? ⟨w.heap.size, 2, none⟩ = some (u32v s.c) ∧ W.cell? ⟨w.heap.size, 3, none⟩ = some (u32v s.d)) (first | exact ⟨by with_reducible assumption, by with_reducible assumption, by with_reducible assumption, by with_reducible assumption⟩ | exact ⟨by go_simp, by go_simp, by go_simp, by go_simp⟩)
      (first
      | (go_at_call 30; refine (eightR_any n W.drew).mono ?_; rintro e w5 ⟨v5, rfl, o5, hb5⟩
         obtain ⟨A5, c5, rfl⟩ : ∃ A c, v5 = .slice A 8 c := by obtain ⟨A, c, e⟩ := o5.form; exact ⟨A, c, by rw [e, unhide hl8]⟩
         have o5' : w5.ownsRow (w.heap.size + 1) 5 1 (.slice A5 8 c5) 8 ((eight n).map u8v) := own_n (ownsRow_mono (base' := w.heap.size + 1) o5 (Nat.succ_le_of_lt l0)) (unhide hl8)
         have X5 : Fx w w5 [(w.heap.size, 24, stC s)] [] [] := Fx.call (unhide X0).drew hb5
         have l5 : w.heap.size < w5.heap.size := (X5.get 0 rfl).lt
         have c50 : w5.cell? ⟨w.heap.size, 0, none⟩ = some (u32v s.a) := (X5.get 0 rfl).cell 0
         have c51 : w5.cell? ⟨w.heap.size, 1, none⟩ = some (u32v s.b) := (X5.get 0 rfl).cell 1
         have c52 : w5.cell? ⟨w.heap.size, 2, none⟩ = some (u32v s.c) := (X5.get 0 rfl).cell 2
         have c53 : w5.cell? ⟨w.heap.size, 3, none⟩ = some (u32v s.d) := (X5.get 0 rfl).cell 3
         replace X5 := hide X5; replace o5' := hide o5'
         clear o5 hb5)
      | (go_at_call 30; refine (eightR_any n (W.drew.alloc (.cells #[u8v 1] 5))).mono ?_; rintro e w5 ⟨v5, rfl, o5, hb5⟩
         obtain ⟨A5, c5, rfl⟩ : ∃ A c, v5 = .slice A 8 c := by obtain ⟨A, c, e⟩ := o5.form; exact ⟨A, c, by rw [e, unhide hl8]⟩
         have o5' : w5.ownsRow (w.heap.size + 1) 5 1 (.slice A5 8 c5) 8 ((eight n).map u8v) := own_n (ownsRow_mono (base' := w.heap.size + 1) o5 (sz_alloc (Nat.succ_le_of_lt l0) (.cells #[u8v 1] 5))) (unhide hl8)
         have X5 : Fx w w5 [(w.heap.size, 24, stC s)] [] [] := Fx.call ((unhide X0).drew.alloc (.cells #[u8v 1] 5)) hb5
         have R5 : Blk w5 (W.heap.size) 5 #[u8v 1] := Blk.call (V := (W.drew.alloc (.cells #[u8v 1] 5))) (Blk.new (w := W.drew) (t := 5) (cs := #[u8v 1]) rfl) hb5
         replace R5 := hide R5
         have l5 : w.heap.size < w5.heap.size := (X5.get 0 rfl).lt
         have c50 : w5.cell? ⟨w.heap.size, 0, none⟩ = some (u32v s.a) := (X5.get 0 rfl).cell 0
         have c51 : w5.cell? ⟨w.heap.size, 1, none⟩ = some (u32v s.b) := (X5.get 0 rfl).cell 1
         have c52 : w5.cell? ⟨w.heap.size, 2, none⟩ = some (u32v s.c) := (X5.get 0 rfl).cell 2
         have c53 : w5.cell? ⟨w.heap.size, 3, none⟩ = some (u32v s.d) := (X5.get 0 rfl).cell 3
         replace X5 := hide X5; replace o5' := hide o5'
         clear o5 hb5)
      | (go_at_call 30; refine (eightR_any n (W.drew.alloc (.cells zC 24))).mono ?_; rintro e w5 ⟨v5, rfl, o5, hb5⟩
         obtain ⟨A5, c5, rfl⟩ : ∃ A c, v5 = .slice A 8 c := by obtain ⟨A, c, e⟩ := o5.form; exact ⟨A, c, by rw [e, unhide hl8]⟩
         have o5' : w5.ownsRow (w.heap.size + 1) 5 1 (.slice A5 8 c5) 8 ((eight n).map u8v) := own_n (ownsRow_mono (base' := w.heap.size + 1) o5 (sz_alloc (Nat.succ_le_of_lt l0) (.cells zC 24))) (unhide hl8)
         have X5 : Fx w w5 [(w.heap.size, 24, stC s)] [] [] := Fx.call ((unhide X0).drew.alloc (.cells zC 24)) hb5
         have Z5 : Blk w5 (W.heap.size) 24 zC := Blk.call (V := (W.drew.alloc (.cells zC 24))) (Blk.new (w := W.drew) (t := 24) (cs := zC) rfl) hb5
         have n5 : w.heap.size < W.heap.size := by omega
         replace Z5 := hide Z5; replace n5 := hide n5
         have l5 : w.heap.size < w5.heap.size := (X5.get 0 rfl).lt
         have c50 : w5.cell? ⟨w.heap.size, 0, none⟩ = some (u32v s.a) := (X5.get 0 rfl).cell 0
         have c51 : w5.cell? ⟨w.heap.size, 1, none⟩ = some (u32v s.b) := (X5.get 0 rfl).cell 1
         have c52 : w5.cell? ⟨w.heap.size, 2, none⟩ = some (u32v s.c) := (X5.get 0 rfl).cell 2
         have c53 : w5.cell? ⟨w.heap.size, 3, none⟩ = some (u32v s.d) := (X5.get 0 rfl).cell 3
         replace X5 := hide X5; replace o5' := hide o5'
         clear o5 hb5)
      | (go_at_call 30; refine (eightR_any n ((W.drew.alloc (.cells #[u8v 1] 5)).alloc (.cells zC 24))).mono ?_; rintro e w5 ⟨v5, rfl, o5, hb5⟩
         obtain ⟨A5, c5, rfl⟩ : ∃ A c, v5 = .slice A 8 c := by obtain ⟨A, c, e⟩ := o5.form; exact ⟨A, c, by rw [e, unhide hl8]⟩
         have o5' : w5.ownsRow (w.heap.size + 1) 5 1 (.slice A5 8 c5) 8 ((eight n).map u8v) := own_n (ownsRow_mono (base' := w.heap.size + 1) o5 (sz_alloc (sz_alloc (Nat.succ_le_of_lt l0) (.cells #[u8v 1] 5)) (.cells zC 24))) (unhide hl8)
         have X5 : Fx w w5 [(w.heap.size, 24, stC s)] [] [] := Fx.call (((unhide X0).drew.alloc (.cells #[u8v 1] 5)).alloc (.cells zC 24)) hb5
         have R5 : Blk w5 (W.heap.size) 5 #[u8v 1] := Blk.call (V := ((W.drew.alloc (.cells #[u8v 1] 5)).alloc (.cells zC 24))) (Blk.alloc (Blk.new (w := W.drew) (t := 5) (cs := #[u8v 1]) rfl) (.cells zC 24)) hb5
         replace R5 := hide R5
         have Z5 : Blk w5 (W.heap.size + 1) 24 zC := Blk.call (V := ((W.drew.alloc (.cells #[u8v 1] 5)).alloc (.cells zC 24))) (Blk.new (w := W.drew.alloc (.cells #[u8v 1] 5)) (t := 24) (cs := zC) (by simp)) hb5
         have n5 : w.heap.size < W.heap.size + 1 := by omega
         replace Z5 := hide Z5; replace n5 := hide n5
         have l5 : w.heap.size < w5.heap.size := (X5.get 0 rfl).lt
         have c50 : w5.cell? ⟨w.heap.size, 0, none⟩ = some (u32v s.a) := (X5.get 0 rfl).cell 0
         have c51 : w5.cell? ⟨w.heap.size, 1, none⟩ = some (u32v s.b) := (X5.get 0 rfl).cell 1
         have c52 : w5.cell? ⟨w.heap.size, 2, none⟩ = some (u32v s.c) := (X5.get 0 rfl).cell 2
         have c53 : w5.cell? ⟨w.heap.size, 3, none⟩ = some (u32v s.d) := (X5.get 0 rfl).cell 3
         replace X5 := hide X5; replace o5' := hide o5'
         clear o5 hb5)
      | (go_at_call 30; refine (eightR_any n ((W.drew.alloc (.cells zC 24)).alloc (.cells #[u8v 1] 5))).mono ?_; rintro e w5 ⟨v5, rfl, o5, hb5⟩
         obtain ⟨A5, c5, rfl⟩ : ∃ A c, v5 = .slice A 8 c := by obtain ⟨A, c, e⟩ := o5.form; exact ⟨A, c, by rw [e, unhide hl8]⟩
         have o5' : w5.ownsRow (w.heap.size + 1) 5 1 (.slice A5 8 c5) 8 ((eight n).map u8v) := own_n (ownsRow_mono (base' := w.heap.size + 1) o5 (sz_alloc (sz_alloc (Nat.succ_le_of_lt l0) (.cells zC 24)) (.cells #[u8v 1] 5))) (unhide hl8)
         have X5 : Fx w w5 [(w.heap.size, 24, stC s)] [] [] := Fx.call (((unhide X0).drew.alloc (.cells zC 24)).alloc (.cells #[u8v 1] 5)) hb5
         have R5 : Blk w5 (W.heap.size + 1) 5 #[u8v 1] := Blk.call (V := ((W.drew.alloc (.cells zC 24)).alloc (.cells #[u8v 1] 5))) (Blk.new (w := W.drew.alloc (.cells zC 24)) (t := 5) (cs := #[u8v 1]) (by simp)) hb5
         replace R5 := hide R5
         have Z5 : Blk w5 (W.heap.size) 24 zC := Blk.call (V := ((W.drew.alloc (.cells zC 24)).alloc (.cells #[u8v 1] 5))) (Blk.alloc (Blk.new (w := W.drew) (t := 24) (cs := zC) rfl) (.cells #[u8v 1] 5)) hb5
         have n5 : w.heap.size < W.heap.size := by omega
         replace Z5 := hide Z5; replace n5 := hide n5
         have l5 : w.heap.size < w5.heap.size := (X5.get 0 rfl).lt
         have c50 : w5.cell? ⟨w.heap.size, 0, none⟩ = some (u32v s.a) := (X5.get 0 rfl).cell 0
         have c51 : w5.cell? ⟨w.heap.size, 1, none⟩ = some (u32v s.b) := (X5.get 0 rfl).cell 1
         have c52 : w5.cell? ⟨w.heap.size, 2, none⟩ = some (u32v s.c) := (X5.get 0 rfl).cell 2
         have c53 : w5.cell? ⟨w.heap.size, 3, none⟩ = some (u32v s.d) := (X5.get 0 rfl).cell 3
         replace X5 := hide X5; replace o5' := hide o5'
         clear o5 hb5)
      | (refine step_app rfl (.tmp 17) (.tmp 18) 28 rfl (w.heap.size + 1) 5 i0 _ 1 1 Tryd.underlying28 hi0 hz0 hz1 hz2 rfl (Nat.succ_pos _) _ 8 ((eight n).map u8v) rfl (unhide o5') _ 1 1 (([1] : List UInt8).map u8v) rfl rfl (one_row (unhide R5)) (unhide ho2) (unhide b3) (unhide b4) (Nat.succ_le_of_lt l5) ?_
         intro v6 w6 o6 hg6
         have X6 : Fx w w6 [(w.heap.size, 24, stC s)] [] [] := Fx.grown (unhide X5) (unhide o5') hg6 (Nat.le_succ _) (by simp)
         have y6 : Bs 0 w6.heap.size w6 v6 (eight n ++ [1]) := Bs.of_own0 (own_app o6 (by rw [unhide hl9]))
         obtain ⟨A6, c6, rfl⟩ : ∃ A c, v6 = .slice A (8 + 1) c := by obtain ⟨A, c, e⟩ := y6.form; exact ⟨A, c, by rw [e, unhide hl9]⟩
         (first | (have Z6 : Blk w6 (W.heap.size) 24 zC := Blk.grown (V := w5) (unhide Z5) (unhide o5') hg6 (by decide); have n6 : w.heap.size < W.heap.size := unhide n5; replace Z6 := hide Z6; replace n6 := hide n6) | skip)
         (first | (have Z6 : Blk w6 (W.heap.size + 1) 24 zC := Blk.grown (V := w5) (unhide Z5) (unhide o5') hg6 (by decide); have n6 : w.heap.size < W.heap.size + 1 := unhide n5; replace Z6 := hide Z6; replace n6 := hide n6) | skip)
         have l6 : w.heap.size < w6.heap.size := (X6.get 0 rfl).lt
         have c60 : w6.cell? ⟨w.heap.size, 0, none⟩ = some (u32v s.a) := (X6.get 0 rfl).cell 0
         have c61 : w6.cell? ⟨w.heap.size, 1, none⟩ = some (u32v s.b) := (X6.get 0 rfl).cell 1
         have c62 : w6.cell? ⟨w.heap.size, 2, none⟩ = some (u32v s.c) := (X6.get 0 rfl).cell 2
         have c63 : w6.cell? ⟨w.heap.size, 3, none⟩ = some (u32v s.d) := (X6.get 0 rfl).cell 3
         replace X6 := hide X6; replace y6 := hide y6
         clear o6 hg6)
      | (refine step_app rfl (.tmp 17) (.tmp 18) 28 rfl (w.heap.size + 1) 5 i0 _ 1 1 Tryd.underlying28 hi0 hz0 hz1 hz2 rfl (Nat.succ_pos _) _ 8 ((eight n).map u8v) rfl (World.ownsRow.alloc (unhide o5') (.cells #[u8v 1] 5)) _ 1 1 (([1] : List UInt8).map u8v) rfl rfl (one_src w5 1) (unhide ho2) (unhide b3) (unhide b4) (sz_alloc (Nat.succ_le_of_lt l5) (.cells #[u8v 1] 5)) ?_
         intro v6 w6 o6 hg6
         have X6 : Fx w w6 [(w.heap.size, 24, stC s)] [] [] := Fx.grown ((unhide X5).alloc (.cells #[u8v 1] 5)) (World.ownsRow.alloc (unhide o5') (.cells #[u8v 1] 5)) hg6 (Nat.le_succ _) (by simp)
         have y6 : Bs 0 w6.heap.size w6 v6 (eight n ++ [1]) := Bs.of_own0 (own_app o6 (by rw [unhide hl9]))
         obtain ⟨A6, c6, rfl⟩ : ∃ A c, v6 = .slice A (8 + 1) c := by obtain ⟨A, c, e⟩ := y6.form; exact ⟨A, c, by rw [e, unhide hl9]⟩
         (first | (have Z6 : Blk w6 (W.heap.size) 24 zC := Blk.grown (V := (w5.alloc (.cells #[u8v 1] 5))) (Blk.alloc (unhide Z5) (.cells #[u8v 1] 5)) (World.ownsRow.alloc (unhide o5') (.cells #[u8v 1] 5)) hg6 (by decide); have n6 : w.heap.size < W.heap.size := unhide n5; replace Z6 := hide Z6; replace n6 := hide n6) | skip)
         (first | (have Z6 : Blk w6 (W.heap.size + 1) 24 zC := Blk.grown (V := (w5.alloc (.cells #[u8v 1] 5))) (Blk.alloc (unhide Z5) (.cells #[u8v 1] 5)) (World.ownsRow.alloc (unhide o5') (.cells #[u8v 1] 5)) hg6 (by decide); have n6 : w.heap.size < W.heap.size + 1 := unhide n5; replace Z6 := hide Z6; replace n6 := hide n6) | skip)
         have l6 : w.heap.size < w6.heap.size := (X6.get 0 rfl).lt
         have c60 : w6.cell? ⟨w.heap.size, 0, none⟩ = some (u32v s.a) := (X6.get 0 rfl).cell 0
         have c61 : w6.cell? ⟨w.heap.size, 1, none⟩ = some (u32v s.b) := (X6.get 0 rfl).cell 1
         have c62 : w6.cell? ⟨w.heap.size, 2, none⟩ = some (u32v s.c) := (X6.get 0 rfl).cell 2
         have c63 : w6.cell? ⟨w.heap.size, 3, none⟩ = some (u32v s.d) := (X6.get 0 rfl).cell 3
         replace X6 := hide X6; replace y6 := hide y6
         clear o6 hg6)
      | (refine step_app rfl (.tmp 17) (.tmp 18) 28 rfl (w.heap.size + 1) 5 i0 _ 1 1 Tryd.underlying28 hi0 hz0 hz1 hz2 rfl (Nat.succ_pos _) _ 8 ((eight n).map u8v) rfl (World.ownsRow.alloc (unhide o5') (.cells zC 24)) _ 1 1 (([1] : List UInt8).map u8v) rfl rfl (one_row (Blk.alloc (unhide R5) (.cells zC 24))) (unhide ho2) (unhide b3) (unhide b4) (sz_alloc (Nat.succ_le_of_lt l5) (.cells zC 24)) ?_
         intro v6 w6 o6 hg6
         have X6 : Fx w w6 [(w.heap.size, 24, stC s)] [] [] := Fx.grown ((unhide X5).alloc (.cells zC 24)) (World.ownsRow.alloc (unhide o5') (.cells zC 24)) hg6 (Nat.le_succ _) (by simp)
         have y6 : Bs 0 w6.heap.size w6 v6 (eight n ++ [1]) := Bs.of_own0 (own_app o6 (by rw [unhide hl9]))
         obtain ⟨A6, c6, rfl⟩ : ∃ A c, v6 = .slice A (8 + 1) c := by obtain ⟨A, c, e⟩ := y6.form; exact ⟨A, c, by rw [e, unhide hl9]⟩
         have Z6 : Blk w6 (w5.heap.size) 24 zC := Blk.grown (V := (w5.alloc (.cells zC 24))) (Blk.new (w := w5) (t := 24) (cs := zC) rfl) (World.ownsRow.alloc (unhide o5') (.cells zC 24)) hg6 (by decide)
         have n6 : w.heap.size < w5.heap.size := by omega
         replace Z6 := hide Z6; replace n6 := hide n6
         have l6 : w.heap.size < w6.heap.size := (X6.get 0 rfl).lt
         have c60 : w6.cell? ⟨w.heap.size, 0, none⟩ = some (u32v s.a) := (X6.get 0 rfl).cell 0
         have c61 : w6.cell? ⟨w.heap.size, 1, none⟩ = some (u32v s.b) := (X6.get 0 rfl).cell 1
         have c62 : w6.cell? ⟨w.heap.size, 2, none⟩ = some (u32v s.c) := (X6.get 0 rfl).cell 2
         have c63 : w6.cell? ⟨w.heap.size, 3, none⟩ = some (u32v s.d) := (X6.get 0 rfl).cell 3
         replace X6 := hide X6; replace y6 := hide y6
         clear o6 hg6)
      | (refine step_app rfl (.tmp 17) (.tmp 18) 28 rfl (w.heap.size + 1) 5 i0 _ 1 1 Tryd.underlying28 hi0 hz0 hz1 hz2 rfl (Nat.succ_pos _) _ 8 ((eight n).map u8v) rfl (World.ownsRow.alloc (World.ownsRow.alloc (unhide o5') (.cells #[u8v 1] 5)) (.cells zC 24)) _ 1 1 (([1] : List UInt8).map u8v) rfl rfl (one_row (Blk.alloc (Blk.new (w := w5) (t := 5) (cs := #[u8v 1]) rfl) (.cells zC 24))) (unhide ho2) (unhide b3) (unhide b4) (sz_alloc (sz_alloc (Nat.succ_le_of_lt l5) (.cells #[u8v 1] 5)) (.cells zC 24)) ?_
         intro v6 w6 o6 hg6
         have X6 : Fx w w6 [(w.heap.size, 24, stC s)] [] [] := Fx.grown (((unhide X5).alloc (.cells #[u8v 1] 5)).alloc (.cells zC 24)) (World.ownsRow.alloc (World.ownsRow.alloc (unhide o5') (.cells #[u8v 1] 5)) (.cells zC 24)) hg6 (Nat.le_succ _) (by simp)
         have y6 : Bs 0 w6.heap.size w6 v6 (eight n ++ [1]) := Bs.of_own0 (own_app o6 (by rw [unhide hl9]))
         obtain ⟨A6, c6, rfl⟩ : ∃ A c, v6 = .slice A (8 + 1) c := by obtain ⟨A, c, e⟩ := y6.form; exact ⟨A, c, by rw [e, unhide hl9]⟩
         have Z6 : Blk w6 (w5.heap.size + 1) 24 zC := Blk.grown (V := ((w5.alloc (.cells #[u8v 1] 5)).alloc (.cells zC 24))) (Blk.new (w := w5.alloc (.cells #[u8v 1] 5)) (t := 24) (cs := zC) (by simp)) (World.ownsRow.alloc (World.ownsRow.alloc (unhide o5') (.cells #[u8v 1] 5)) (.cells zC 24)) hg6 (by decide)
         have n6 : w.heap.size < w5.heap.size + 1 := by omega
         replace Z6 := hide Z6; replace n6 := hide n6
         have l6 : w.heap.size < w6.heap.size := (X6.get 0 rfl).lt
         have c60 : w6.cell? ⟨w.heap.size, 0, none⟩ = some (u32v s.a) := (X6.get 0 rfl).cell 0
         have c61 : w6.cell? ⟨w.heap.size, 1, none⟩ = some (u32v s.b) := (X6.get 0 rfl).cell 1
         have c62 : w6.cell? ⟨w.heap.size, 2, none⟩ = some (u32v s.c) := (X6.get 0 rfl).cell 2
         have c63 : w6.cell? ⟨w.heap.size, 3, none⟩ = some (u32v s.d) := (X6.get 0 rfl).cell 3
         replace X6 := hide X6; replace y6 := hide y6
         clear o6 hg6)
      | (refine step_app rfl (.tmp 17) (.tmp 18) 28 rfl (w.heap.size + 1) 5 i0 _ 1 1 Tryd.underlying28 hi0 hz0 hz1 hz2 rfl (Nat.succ_pos _) _ 8 ((eight n).map u8v) rfl (World.ownsRow.alloc (World.ownsRow.alloc (unhide o5') (.cells zC 24)) (.cells #[u8v 1] 5)) _ 1 1 (([1] : List UInt8).map u8v) rfl rfl (one_row (Blk.new (w := w5.alloc (.cells zC 24)) (g := w5.heap.size + 1) (t := 5) (cs := #[u8v 1]) (by simp))) (unhide ho2) (unhide b3) (unhide b4) (sz_alloc (sz_alloc (Nat.succ_le_of_lt l5) (.cells zC 24)) (.cells #[u8v 1] 5)) ?_
         intro v6 w6 o6 hg6
         have X6 : Fx w w6 [(w.heap.size, 24, stC s)] [] [] := Fx.grown (((unhide X5).alloc (.cells zC 24)).alloc (.cells #[u8v 1] 5)) (World.ownsRow.alloc (World.ownsRow.alloc (unhide o5') (.cells zC 24)) (.cells #[u8v 1] 5)) hg6 (Nat.le_succ _) (by simp)
         have y6 : Bs 0 w6.heap.size w6 v6 (eight n ++ [1]) := Bs.of_own0 (own_app o6 (by rw [unhide hl9]))
         obtain ⟨A6, c6, rfl⟩ : ∃ A c, v6 = .slice A (8 + 1) c := by obtain ⟨A, c, e⟩ := y6.form; exact ⟨A, c, by rw [e, unhide hl9]⟩
         have Z6 : Blk w6 (w5.heap.size) 24 zC := Blk.grown (V := ((w5.alloc (.cells zC 24)).alloc (.cells #[u8v 1] 5))) (Blk.alloc (Blk.new (w := w5) (t := 24) (cs := zC) rfl) (.cells #[u8v 1] 5)) (World.ownsRow.alloc (World.ownsRow.alloc (unhide o5') (.cells zC 24)) (.cells #[u8v 1] 5)) hg6 (by decide)
         have n6 : w.heap.size < w5.heap.size := by omega
         replace Z6 := hide Z6; replace n6 := hide n6
         have l6 : w.heap.size < w6.heap.size := (X6.get 0 rfl).lt
         have c60 : w6.cell? ⟨w.heap.size, 0, none⟩ = some (u32v s.a) := (X6.get 0 rfl).cell 0
         have c61 : w6.cell? ⟨w.heap.size, 1, none⟩ = some (u32v s.b) := (X6.get 0 rfl).cell 1
         have c62 : w6.cell? ⟨w.heap.size, 2, none⟩ = some (u32v s.c) := (X6.get 0 rfl).cell 2
         have c63 : w6.cell? ⟨w.heap.size, 3, none⟩ = some (u32v s.d) := (X6.get 0 rfl).cell 3
         replace X6 := hide X6; replace y6 := hide y6
         clear o6 hg6)
      | (go_at_call 38; refine (unhide hq _ (w6.alloc (.cells zC 24)) (Fx.bl ((unhide X6).alloc (.cells zC 24))) ((unhide y6).to (bl_alloc (Below.refl w6.heap.size w6) (.cells zC 24)))).mono ?_; rintro e w7 ⟨rfl, hb7⟩
         have X7 : Fx w w7 [(w.heap.size, 24, stC s)] [] [] := Fx.call ((unhide X6).alloc (.cells zC 24)) hb7
         have Z7 : Blk w7 (w6.heap.size) 24 zC := Blk.call (V := w6.alloc (.cells zC 24)) (Blk.new (w := w6) (t := 24) (cs := zC) rfl) hb7
         have n7 : w.heap.size < w6.heap.size := l6
         have z70 : w7.cell? ⟨w6.heap.size, 0, none⟩ = some (.int .u32 0) := Z7.cell 0
         have f70 : w7.frozen? ⟨w6.heap.size, 0, none⟩ = false := Z7.frozen 0
         have z71 : w7.cell? ⟨w6.heap.size, 1, none⟩ = some (.int .u32 0) := Z7.cell 1
         have f71 : w7.frozen? ⟨w6.heap.size, 1, none⟩ = false := Z7.frozen 1
         have z72 : w7.cell? ⟨w6.heap.size, 2, none⟩ = some (.int .u32 0) := Z7.cell 2
         have f72 : w7.frozen? ⟨w6.heap.size, 2, none⟩ = false := Z7.frozen 2
         have z73 : w7.cell? ⟨w6.heap.size, 3, none⟩ = some (.int .u32 0) := Z7.cell 3
         have f73 : w7.frozen? ⟨w6.heap.size, 3, none⟩ = false := Z7.frozen 3
         have m70 : w.heap.size ≠ w6.heap.size := Nat.ne_of_lt n7
         have m71 : w6.heap.size ≠ w.heap.size := Nat.ne_of_gt n7
         replace Z7 := hide Z7; replace n7 := hide n7
         have l7 : w.heap.size < w7.heap.size := (X7.get 0 rfl).lt
         have c70 : w7.cell? ⟨w.heap.size, 0, none⟩ = some (u32v s.a) := (X7.get 0 rfl).cell 0
         have c71 : w7.cell? ⟨w.heap.size, 1, none⟩ = some (u32v s.b) := (X7.get 0 rfl).cell 1
         have c72 : w7.cell? ⟨w.heap.size, 2, none⟩ = some (u32v s.c) := (X7.get 0 rfl).cell 2
         have c73 : w7.cell? ⟨w.heap.size, 3, none⟩ = some (u32v s.d) := (X7.get 0 rfl).cell 3
         replace X7 := hide X7; clear hb7)
      | (go_at_call 38; refine (unhide hq _ w6 (Fx.bl (unhide X6)) (unhide y6)).mono ?_; rintro e w7 ⟨rfl, hb7⟩
         have X7 : Fx w w7 [(w.heap.size, 24, stC s)] [] [] := Fx.call (unhide X6) hb7
         (first | (have Z7 : Blk w7 (W.heap.size) 24 zC := Blk.call (unhide Z6) hb7
                   have n7 : w.heap.size < W.heap.size := unhide n6
                   have z70 : w7.cell? ⟨W.heap.size, 0, none⟩ = some (.int .u32 0) := Z7.cell 0
                   have f70 : w7.frozen? ⟨W.heap.size, 0, none⟩ = false := Z7.frozen 0
                   have z71 : w7.cell? ⟨W.heap.size, 1, none⟩ = some (.int .u32 0) := Z7.cell 1
                   have f71 : w7.frozen? ⟨W.heap.size, 1, none⟩ = false := Z7.frozen 1
                   have z72 : w7.cell? ⟨W.heap.size, 2, none⟩ = some (.int .u32 0) := Z7.cell 2
                   have f72 : w7.frozen? ⟨W.heap.size, 2, none⟩ = false := Z7.frozen 2
                   have z73 : w7.cell? ⟨W.heap.size, 3, none⟩ = some (.int .u32 0) := Z7.cell 3
                   have f73 : w7.frozen? ⟨W.heap.size, 3, none⟩ = false := Z7.frozen 3
                   have m70 : w.heap.size ≠ W.heap.size := Nat.ne_of_lt n7
                   have m71 : W.heap.size ≠ w.heap.size := Nat.ne_of_gt n7
                   replace Z7 := hide Z7; replace n7 := hide n7) | skip)
         (first | (have Z7 : Blk w7 (W.heap.size + 1) 24 zC := Blk.call (unhide Z6) hb7
                   have n7 : w.heap.size < W.heap.size + 1 := unhide n6
                   have z70 : w7.cell? ⟨W.heap.size + 1, 0, none⟩ = some (.int .u32 0) := Z7.cell 0
                   have f70 : w7.frozen? ⟨W.heap.size + 1, 0, none⟩ = false := Z7.frozen 0
                   have z71 : w7.cell? ⟨W.heap.size + 1, 1, none⟩ = some (.int .u32 0) := Z7.cell 1
                   have f71 : w7.frozen? ⟨W.heap.size + 1, 1, none⟩ = false := Z7.frozen 1
                   have z72 : w7.cell? ⟨W.heap.size + 1, 2, none⟩ = some (.int .u32 0) := Z7.cell 2
                   have f72 : w7.frozen? ⟨W.heap.size + 1, 2, none⟩ = false := Z7.frozen 2
                   have z73 : w7.cell? ⟨W.heap.size + 1, 3, none⟩ = some (.int .u32 0) := Z7.cell 3
                   have f73 : w7.frozen? ⟨W.heap.size + 1, 3, none⟩ = false := Z7.frozen 3
                   have m70 : w.heap.size ≠ W.heap.size + 1 := Nat.ne_of_lt n7
                   have m71 : W.heap.size + 1 ≠ w.heap.size := Nat.ne_of_gt n7
                   replace Z7 := hide Z7; replace n7 := hide n7) | skip)
         (first | (have Z7 : Blk w7 (w5.heap.size) 24 zC := Blk.call (unhide Z6) hb7
                   have n7 : w.heap.size < w5.heap.size := unhide n6
                   have z70 : w7.cell? ⟨w5.heap.size, 0, none⟩ = some (.int .u32 0) := Z7.cell 0
                   have f70 : w7.frozen? ⟨w5.heap.size, 0, none⟩ = false := Z7.frozen 0
                   have z71 : w7.cell? ⟨w5.heap.size, 1, none⟩ = some (.int .u32 0) := Z7.cell 1
                   have f71 : w7.frozen? ⟨w5.heap.size, 1, none⟩ = false := Z7.frozen 1
                   have z72 : w7.cell? ⟨w5.heap.size, 2, none⟩ = some (.int .u32 0) := Z7.cell 2
                   have f72 : w7.frozen? ⟨w5.heap.size, 2, none⟩ = false := Z7.frozen 2
                   have z73 : w7.cell? ⟨w5.heap.size, 3, none⟩ = some (.int .u32 0) := Z7.cell 3
                   have f73 : w7.frozen? ⟨w5.heap.size, 3, none⟩ = false := Z7.frozen 3
                   have m70 : w.heap.size ≠ w5.heap.size := Nat.ne_of_lt n7
                   have m71 : w5.heap.size ≠ w.heap.size := Nat.ne_of_gt n7
                   replace Z7 := hide Z7; replace n7 := hide n7) | skip)
         (first | (have Z7 : Blk w7 (w5.heap.size + 1) 24 zC := Blk.call (unhide Z6) hb7
                   have n7 : w.heap.size < w5.heap.size + 1 := unhide n6
                   have z70 : w7.cell? ⟨w5.heap.size + 1, 0, none⟩ = some (.int .u32 0) := Z7.cell 0
                   have f70 : w7.frozen? ⟨w5.heap.size + 1, 0, none⟩ = false := Z7.frozen 0
                   have z71 : w7.cell? ⟨w5.heap.size + 1, 1, none⟩ = some (.int .u32 0) := Z7.cell 1
                   have f71 : w7.frozen? ⟨w5.heap.size + 1, 1, none⟩ = false := Z7.frozen 1
                   have z72 : w7.cell? ⟨w5.heap.size + 1, 2, none⟩ = some (.int .u32 0) := Z7.cell 2
                   have f72 : w7.frozen? ⟨w5.heap.size + 1, 2, none⟩ = false := Z7.frozen 2
                   have z73 : w7.cell? ⟨w5.heap.size + 1, 3, none⟩ = some (.int .u32 0) := Z7.cell 3
                   have f73 : w7.frozen? ⟨w5.heap.size + 1, 3, none⟩ = false := Z7.frozen 3
                   have m70 : w.heap.size ≠ w5.heap.size + 1 := Nat.ne_of_lt n7
                   have m71 : w5.heap.size + 1 ≠ w.heap.size := Nat.ne_of_gt n7
                   replace Z7 := hide Z7; replace n7 := hide n7) | skip)
         have l7 : w.heap.size < w7.heap.size := (X7.get 0 rfl).lt
         have c70 : w7.cell? ⟨w.heap.size, 0, none⟩ = some (u32v s.a) := (X7.get 0 rfl).cell 0
         have c71 : w7.cell? ⟨w.heap.size, 1, none⟩ = some (u32v s.b) := (X7.get 0 rfl).cell 1
         have c72 : w7.cell? ⟨w.heap.size, 2, none⟩ = some (u32v s.c) := (X7.get 0 rfl).cell 2
         have c73 : w7.cell? ⟨w.heap.size, 3, none⟩ = some (u32v s.d) := (X7.get 0 rfl).cell 3
         replace X7 := hide X7; clear hb7))
    all_goals
      go_wp2_with (fail)
      go_meet
      refine ⟨_, rfl, rfl, hide ?_⟩
      first
      | with_reducible exact Fx.sub ((unhide X7).newB w7.heap.size rfl (stC S') 24) (by simp) (by simp) (by simp)
      | with_reducible exact Fx.put4 (unhide X7) (unhide Z7) (unhide n7)
  case rest =>
    obtain ⟨g, rfl, rfl, hcut⟩ := hcut
    have d0 : wc.cell? ⟨g, 0, none⟩ = some (u32v S'.a) := ((unhide hcut).get 0 rfl).cell 0
    have d1 : wc.cell? ⟨g, 1, none⟩ = some (u32v S'.b) := ((unhide hcut).get 0 rfl).cell 1
    have d2 : wc.cell? ⟨g, 2, none⟩ = some (u32v S'.c) := ((unhide hcut).get 0 rfl).cell 2
    have d3 : wc.cell? ⟨g, 3, none⟩ = some (u32v S'.d) := ((unhide hcut).get 0 rfl).cell 3
    go_wp2_with (first
      | (go_at_call 39; refine (unhide hs _ (unhide hcut).bl).mono ?_; rintro e w9 ⟨A9, c9, rfl, o9, hb9⟩)
      | fail)
    go_ret2
    exact ⟨A9, c9, rfl, (o9.mono (unhide hcut).bl.size (Nat.le_refl _)), bl_call (unhide hcut).bl hb9⟩
end Go.Proofs.YtlgahaidnpgnaaaDoor
