import Derived.Test.YtlgahaidnpgnaaaDoorN22
namespace Go.Proofs.YtlgahaidnpgnaaaDoor
open Go.RowKit

section
attribute [local go_sem] guard24
set_option maxHeartbeats 1000000 in
theorem SameR_any (x y : Bx) (v u : Value) (w : World) (h : Bs 0 w.heap.size w v x.text) (h' : Bs 0 w.heap.size w u y.text) :
    Calls Tryd.prog 22 #[bxV x.n v x.tag, bxV y.n u y.tag] w fun e w' => e = .returned (.bool (sameX x y)) ∧ Below w.heap.size w w' := by
  obtain ⟨n, l, t⟩ := x
  obtain ⟨n', l', t'⟩ := y
  simp only [sameX] at *
  obtain ⟨A, c, rfl⟩ := h.form
  obtain ⟨A', c', rfl⟩ := h'.form
  have hb : Below w.heap.size w ((w.alloc (.cells (bxC n (.slice A l.length c) t) 30)).alloc (.cells (bxC n' (.slice A' l'.length c') t') 30)) := bl_alloc (bl_alloc (Below.refl _ _) _) _
  have X0 : Fx w ((w.alloc (.cells (bxC n (.slice A l.length c) t) 30)).alloc (.cells (bxC n' (.slice A' l'.length c') t') 30)) [(w.heap.size, 30, bxC n (.slice A l.length c) t), (w.heap.size + 1, 30, bxC n' (.slice A' l'.length c') t')] [] [(.slice A l.length c, l), (.slice A' l'.length c', l')] :=
    Fx.addZ (Fx.addZ (((Fx.nil w).newB w.heap.size rfl (bxC n (.slice A l.length c) t) 30).newB (w.heap.size + 1) (by simp) (bxC n' (.slice A' l'.length c') t') 30) (h.to hb)) (h'.to hb)
  have hq := fun W (h1 : Bs 0 W.heap.size W (.slice A l.length c) l) (h2 : Bs 0 W.heap.size W (.slice A' l'.length c') l') => same_any _ _ _ _ _ _ _ _ W h1 h2
  have hE := fun W => eql_st W t t'
  have hN := n64_beq n n'
  generalize l.length = m at *
  generalize l'.length = m' at *
  generalize decide (l = l') = z3 at *
  generalize sameS t t' = z2 at *
  generalize decide (n = n') = z1 at *
  replace X0 := hide X0; replace hq := hide hq
  clear h h' hb
  go_enter Tryd.func22, Tryd.ntmps22
  go_upto_region 1 with (fail)
  generalize hW : World.alloc (World.alloc w _) _ = W at *
  clear hW
  have b0 : W.cell? ⟨w.heap.size, 0, none⟩ = some (u64v n) := ((unhide X0).get 0 rfl).cell 0
  have b1 : W.cell? ⟨w.heap.size, 1, none⟩ = some (.slice A m c) := ((unhide X0).get 0 rfl).cell 1
  have b2 : W.cell? ⟨w.heap.size, 2, none⟩ = some (u32v t.a) := ((unhide X0).get 0 rfl).cell 2
  have b3 : W.cell? ⟨w.heap.size, 3, none⟩ = some (u32v t.b) := ((unhide X0).get 0 rfl).cell 3
  have b4 : W.cell? ⟨w.heap.size, 4, none⟩ = some (u32v t.c) := ((unhide X0).get 0 rfl).cell 4
  have b5 : W.cell? ⟨w.heap.size, 5, none⟩ = some (u32v t.d) := ((unhide X0).get 0 rfl).cell 5
  have d0 : W.cell? ⟨w.heap.size + 1, 0, none⟩ = some (u64v n') := ((unhide X0).get 1 rfl).cell 0
  have d1 : W.cell? ⟨w.heap.size + 1, 1, none⟩ = some ((.slice A' m' c')) := ((unhide X0).get 1 rfl).cell 1
  have d2 : W.cell? ⟨w.heap.size + 1, 2, none⟩ = some (u32v t'.a) := ((unhide X0).get 1 rfl).cell 2
  have d3 : W.cell? ⟨w.heap.size + 1, 3, none⟩ = some (u32v t'.b) := ((unhide X0).get 1 rfl).cell 3
  have d4 : W.cell? ⟨w.heap.size + 1, 4, none⟩ = some (u32v t'.c) := ((unhide X0).get 1 rfl).cell 4
  have d5 : W.cell? ⟨w.heap.size + 1, 5, none⟩ = some (u32v t'.d) := ((unhide X0).get 1 rfl).cell 5
  cases z1
  · go_wp2_with (fail)
    go_ret
    exact ⟨rfl, (unhide X0).bl⟩
  · cases z3
    · go_wp2_with (go_at_call 23; refine (unhide hq _ ((unhide X0).rd 0 rfl) ((unhide X0).rd 1 rfl)).mono ?_; rintro e w1 ⟨rfl, rfl⟩)
      go_ret
      exact ⟨by simp, (unhide X0).bl⟩
    · go_wp2_with (go_at_call 23; refine (unhide hq _ ((unhide X0).rd 0 rfl) ((unhide X0).rd 1 rfl)).mono ?_; rintro e w1 ⟨rfl, rfl⟩)
      go_ret
      exact ⟨by simp, (unhide X0).bl⟩
end
set_option maxHeartbeats 1000000 in
theorem BytesR_long (lo : Nat) (n : Nx) (v : Value) (l : List UInt8) (t : St) (w : World) (h : Bs lo w.heap.size w v l) (hl : 65536 < l.length) :
    Calls Tryd.prog 15 #[bxV n v t] w fun e w' => e = .returned (.tuple #[.slice none 0 0, .int .i64 3]) ∧ Below w.heap.size w w' := by
  obtain ⟨A, c, rfl⟩ := h.form
  have h1 : (65536 : Int) < (l.length : Int) := by omega
  clear h hl
  go_enter Tryd.func15, Tryd.ntmps15
  go_wp2_with (fail)
  go_ret2
  exact ⟨rfl, by (repeat (first | with_reducible exact Below.refl _ _ | with_reducible assumption | with_reducible refine Below.drew ?_ | with_reducible refine bl_alloc ?_ _ | with_reducible refine bl_call ?_ (by assumption) | (focus (with_reducible refine Below.setCell ?_ ?_ _; rotate_left; focus (first | omega | (simp <;> omega)))) | fail))⟩
set_option maxHeartbeats 2000000 in
theorem BytesR_good (n : Nx) (v : Value) (l : List UInt8) (t : St) (w : World) (h : Bs 0 w.heap.size w v l) (hl : l.length ≤ 65536) :
    Calls Tryd.prog 15 #[bxV n v t] w fun e w' => ∃ A c, e = .returned (.tuple #[.slice A (bytesF ⟨n, l, t⟩).length c, .int .i64 0]) ∧ OwnB w' w.heap.size (.slice A (bytesF ⟨n, l, t⟩).length c) (bytesF ⟨n, l, t⟩) ∧ Below w.heap.size w w' := by
  obtain ⟨i0, hi0, hz0, hz1, hz2⟩ := info_parts info5
  have hl8 := eight_len n
  have hl16 := octs_len t
  have hL := bytes_len ⟨n, l, t⟩
  have hF : bytesF ⟨n, l, t⟩ = eight n ++ octs4 t ++ l := rfl
  obtain ⟨A, c, rfl⟩ := h.form
  have X0 : Fx w (w.alloc (.cells (bxC n (.slice A l.length c) t) 30)) [(w.heap.size, 30, bxC n (.slice A l.length c) t)] [] [] := (Fx.nil w).newB w.heap.size rfl (bxC n (.slice A l.length c) t) 30
  have h1 : ¬ (65536 : Int) < (l.length : Int) := by omega
  have hsrc' := fun W (hb : Below w.heap.size w W) => (show SrcOk W A l.length (l.map u8v) from (h.to hb).src.2)
  have ho3 := u8s_one l
  have ho2 := u8s_one (octs4 t)
  have hml : (l.map u8v).length = l.length * 1 := by simp
  have hml2 : ((octs4 t).map u8v).length = 16 * 1 := by simp [hl16]
  have b3 : 8 + 16 ≤ maxLen := by simp only [maxLen]; omega
  have b4 : (8 + 16) * 1 ≤ 140737488355328 := by omega
  have b5 : 24 + l.length ≤ maxLen := by simp only [maxLen]; omega
  have b6 : (24 + l.length) * 1 ≤ 140737488355328 := by omega
  have hL' : (bytesF ⟨n, l, t⟩).length = 24 + l.length := by rw [hL]; exact Nat.add_comm _ _
  have hcat : ((eight n).map u8v ++ (octs4 t).map u8v) ++ l.map u8v = (bytesF ⟨n, l, t⟩).map u8v := by rw [hF]; simp
  generalize bytesF ⟨n, l, t⟩ = out at *
  obtain ⟨m, hm⟩ : ∃ m, m = l.length := ⟨_, rfl⟩
  rw [← hm] at X0 h1 hsrc' hml b5 b6 hL' ⊢
  obtain ⟨x8, hx8⟩ : ∃ xs, xs = (eight n).map u8v := ⟨_, rfl⟩
  obtain ⟨x16, hx16⟩ : ∃ xs, xs = (octs4 t).map u8v := ⟨_, rfl⟩
  obtain ⟨xl, hxl⟩ : ∃ xs, xs = l.map u8v := ⟨_, rfl⟩
  rw [← hxl] at hsrc' hml hcat ho3
  rw [← hx8, ← hx16] at hcat
  rw [← hx16] at hml2 ho2
  replace X0 := hide X0
  replace hl8 := hide hl8
  replace hl16 := hide hl16
  replace hsrc' := hide hsrc'
  replace ho2 := hide ho2
  replace ho3 := hide ho3
  replace hml := hide hml
  replace hml2 := hide hml2
  replace b3 := hide b3
  replace b4 := hide b4
  replace b5 := hide b5
  replace b6 := hide b6
  replace hL' := hide hL'
  replace hcat := hide hcat
  replace hx8 := hide hx8
  replace hx16 := hide hx16
  clear h hl hF hm hxl hL
  go_enter Tryd.func15, Tryd.ntmps15
  go_upto_region 1 with (fail)
  generalize hW : World.alloc w _ = W at *
  clear hW
  have k0 : w.heap.size < W.heap.size := ((unhide X0).get 0 rfl).lt
  have cc0 : W.cell? ⟨w.heap.size, 0, none⟩ = some (u64v n) := ((unhide X0).get 0 rfl).cell 0
  have cc1 : W.cell? ⟨w.heap.size, 1, none⟩ = some (.slice A m c) := ((unhide X0).get 0 rfl).cell 1
  have cc2 : W.cell? ⟨w.heap.size, 2, none⟩ = some (u32v t.a) := ((unhide X0).get 0 rfl).cell 2
  have cc3 : W.cell? ⟨w.heap.size, 3, none⟩ = some (u32v t.b) := ((unhide X0).get 0 rfl).cell 3
  have cc4 : W.cell? ⟨w.heap.size, 4, none⟩ = some (u32v t.c) := ((unhide X0).get 0 rfl).cell 4
  have cc5 : W.cell? ⟨w.heap.size, 5, none⟩ = some (u32v t.d) := ((unhide X0).get 0 rfl).cell 5
  go_upto_region 3 with (fail)
  go_region_held3 (fun W => W.cell? ⟨w.heap.size, 0, none⟩ = some (u64v n) ∧ W.cell? ⟨w.heap.size, 1, none⟩ = some (.slice A m c) ∧ W.cell? ⟨w.heap.size, 2, none⟩ = some (u32v t.a) ∧ W.cell? ⟨w.heap.size, 3, none⟩ = some (u32v t.b) ∧ W.cell? ⟨w.heap.size, 4, none⟩ = some (u32v t.c) ∧ W.cell? ⟨w.heap.size, 5, none⟩ = some (u32v t.d)) (first | exact ⟨by with_reducible assumption, by with_reducible assumption, by with_reducible assumption, by with_reducible assumption, by with_reducible assumption, by with_reducible assumption⟩ | exact ⟨by go_simp, by go_simp, by go_simp, by go_simp, by go_simp, by go_simp⟩)
    (first
    | (go_at_call 30; refine (eightR_any n W.drew).mono ?_; rintro e w5 ⟨v5, rfl, o5, hb5⟩
       obtain ⟨A5, c5, rfl⟩ : ∃ A c, v5 = .slice A 8 c := by obtain ⟨A, c, e⟩ := o5.form; exact ⟨A, c, by rw [e, unhide hl8]⟩
       have o5' : w5.ownsRow (w.heap.size + 1) 5 1 (.slice A5 8 c5) 8 x8 := by rw [unhide hx8]; exact own_n (ownsRow_mono (base' := w.heap.size + 1) o5 (Nat.succ_le_of_lt k0)) (unhide hl8)
       have X5 : Fx w w5 [(w.heap.size, 30, bxC n (.slice A m c) t)] [] [] := Fx.call (unhide X0).drew hb5
       have k5 : w.heap.size < w5.heap.size := (X5.get 0 rfl).lt
       have d0 : w5.cell? ⟨w.heap.size, 0, none⟩ = some (u64v n) := (X5.get 0 rfl).cell 0
       have d1 : w5.cell? ⟨w.heap.size, 1, none⟩ = some (.slice A m c) := (X5.get 0 rfl).cell 1
       have d2 : w5.cell? ⟨w.heap.size, 2, none⟩ = some (u32v t.a) := (X5.get 0 rfl).cell 2
       have d3 : w5.cell? ⟨w.heap.size, 3, none⟩ = some (u32v t.b) := (X5.get 0 rfl).cell 3
       have d4 : w5.cell? ⟨w.heap.size, 4, none⟩ = some (u32v t.c) := (X5.get 0 rfl).cell 4
       have d5 : w5.cell? ⟨w.heap.size, 5, none⟩ = some (u32v t.d) := (X5.get 0 rfl).cell 5
       replace X5 := hide X5; replace o5' := hide o5'
       clear o5 hb5)
    | (go_at_call 31; refine (OctetsR_any t w5).mono ?_; rintro e w6 ⟨v6, rfl, o6, hb6⟩
       obtain ⟨A6, c6, rfl⟩ : ∃ A c, v6 = .slice A 16 c := by obtain ⟨A, c, e⟩ := o6.form; exact ⟨A, c, by rw [e, unhide hl16]⟩
       have s6 : SrcOk w6 A6 16 x16 := by rw [unhide hx16]; exact (Bs.of_own o6).src.2
       have o6' : w6.ownsRow (w.heap.size + 1) 5 1 (.slice A5 8 c5) 8 x8 := own_below (unhide o5') hb6 (Nat.le_refl _)
       have X6 : Fx w w6 [(w.heap.size, 30, bxC n (.slice A m c) t)] [] [] := Fx.call (unhide X5) hb6
       have k6 : w.heap.size < w6.heap.size := (X6.get 0 rfl).lt
       have f0 : w6.cell? ⟨w.heap.size, 0, none⟩ = some (u64v n) := (X6.get 0 rfl).cell 0
       have f1 : w6.cell? ⟨w.heap.size, 1, none⟩ = some (.slice A m c) := (X6.get 0 rfl).cell 1
       have f2 : w6.cell? ⟨w.heap.size, 2, none⟩ = some (u32v t.a) := (X6.get 0 rfl).cell 2
       have f3 : w6.cell? ⟨w.heap.size, 3, none⟩ = some (u32v t.b) := (X6.get 0 rfl).cell 3
       have f4 : w6.cell? ⟨w.heap.size, 4, none⟩ = some (u32v t.c) := (X6.get 0 rfl).cell 4
       have f5 : w6.cell? ⟨w.heap.size, 5, none⟩ = some (u32v t.d) := (X6.get 0 rfl).cell 5
       replace X6 := hide X6; replace o6' := hide o6'; replace s6 := hide s6
       clear o6 hb6)
    | (refine step_app rfl (.tmp 10) (.tmp 13) 28 rfl (w.heap.size + 1) 5 i0 _ 1 1 Tryd.underlying28 hi0 hz0 hz1 hz2 rfl (Nat.succ_pos _) _ 8 x8 rfl (unhide o6') A6 16 c6 x16 rfl (unhide hml2) (unhide s6) (unhide ho2) (unhide b3) (unhide b4) (Nat.succ_le_of_lt k6) ?_
       intro v7 w7 o7 hg7
       have X7 : Fx w w7 [(w.heap.size, 30, bxC n (.slice A m c) t)] [] [] := Fx.grown (unhide X6) (unhide o6') hg7 (Nat.le_succ _) (by simp)
       obtain ⟨A7, c7, rfl⟩ : ∃ A c, v7 = .slice A 24 c := ownsRow_form o7
       obtain ⟨y7, hy7⟩ : ∃ xs, xs = x8 ++ x16 := ⟨_, rfl⟩
       have o7' : w7.ownsRow (w.heap.size + 1) 5 1 (.slice A7 24 c7) 24 y7 := by rw [hy7]; exact o7
       have k7 : w.heap.size < w7.heap.size := (X7.get 0 rfl).lt
       have g0 : w7.cell? ⟨w.heap.size, 0, none⟩ = some (u64v n) := (X7.get 0 rfl).cell 0
       have g1 : w7.cell? ⟨w.heap.size, 1, none⟩ = some (.slice A m c) := (X7.get 0 rfl).cell 1
       have g2 : w7.cell? ⟨w.heap.size, 2, none⟩ = some (u32v t.a) := (X7.get 0 rfl).cell 2
       have g3 : w7.cell? ⟨w.heap.size, 3, none⟩ = some (u32v t.b) := (X7.get 0 rfl).cell 3
       have g4 : w7.cell? ⟨w.heap.size, 4, none⟩ = some (u32v t.c) := (X7.get 0 rfl).cell 4
       have g5 : w7.cell? ⟨w.heap.size, 5, none⟩ = some (u32v t.d) := (X7.get 0 rfl).cell 5
       replace X7 := hide X7; replace o7' := hide o7'; replace hy7 := hide hy7
       clear o7 hg7)
    | (refine step_app rfl (.tmp 14) (.tmp 16) 28 rfl (w.heap.size + 1) 5 i0 _ 1 1 Tryd.underlying28 hi0 hz0 hz1 hz2 rfl (Nat.succ_pos _) _ 24 y7 rfl (unhide o7') A m c xl rfl (unhide hml) (unhide hsrc' w7 (unhide X7).bl) (unhide ho3) (unhide b5) (unhide b6) (Nat.succ_le_of_lt k7) ?_
       intro v8 w8 o8 hg8
       have X8 : Fx w w8 [(w.heap.size, 30, bxC n (.slice A m c) t)] [] [] := Fx.grown (unhide X7) (unhide o7') hg8 (Nat.le_succ _) (by simp)
       rw [unhide hy7, unhide hcat, ← unhide hL'] at o8
       obtain ⟨A8, c8, rfl⟩ : ∃ A c, v8 = .slice A out.length c := ownsRow_form o8
       have j0 : w8.cell? ⟨w.heap.size, 0, none⟩ = some (u64v n) := (X8.get 0 rfl).cell 0
       have j1 : w8.cell? ⟨w.heap.size, 1, none⟩ = some (.slice A m c) := (X8.get 0 rfl).cell 1
       have j2 : w8.cell? ⟨w.heap.size, 2, none⟩ = some (u32v t.a) := (X8.get 0 rfl).cell 2
       have j3 : w8.cell? ⟨w.heap.size, 3, none⟩ = some (u32v t.b) := (X8.get 0 rfl).cell 3
       have j4 : w8.cell? ⟨w.heap.size, 4, none⟩ = some (u32v t.c) := (X8.get 0 rfl).cell 4
       have j5 : w8.cell? ⟨w.heap.size, 5, none⟩ = some (u32v t.d) := (X8.get 0 rfl).cell 5
       replace X8 := hide X8; replace o8 := hide o8
       clear hg8))
  all_goals go_wp2_with (fail)
  all_goals go_ret2
  all_goals exact ⟨A8, c8, rfl, ownsRow_mono (unhide o8) (Nat.le_succ _), (unhide X8).bl⟩
end Go.Proofs.YtlgahaidnpgnaaaDoor
