import Derived.Test.YtlgahaidnpgnaaaDoorN13
namespace Go.Proofs.YtlgahaidnpgnaaaDoor
open Go.RowKit

/-- Three texts, one behind the other. -/
theorem concat3 (v1 v2 v3 : Value) (l1 l2 l3 : List UInt8) (W : World) (h1 : Bs 0 W.heap.size W v1 l1) (h2 : Bs 0 W.heap.size W v2 l2) (h3 : Bs 0 W.heap.size W v3 l3) (h0 : 0 < (l1 ++ l2 ++ l3).length) (hL : (l1 ++ l2 ++ l3).length ≤ 1000000) :
    Calls Tryd.prog 27 #[.slice (some ⟨W.heap.size, 0, none⟩) 3 3] (W.alloc (.cells #[v1, v2, v3] 28)) fun e w' => ∃ A c, e = .returned (.slice A (l1 ++ l2 ++ l3).length c) ∧ OwnB w' W.heap.size (.slice A (l1 ++ l2 ++ l3).length c) (l1 ++ l2 ++ l3) ∧ Below W.heap.size W w' := by
  have hB : Blk (W.alloc (.cells #[v1, v2, v3] 28)) W.heap.size 28 #[v1, v2, v3] := Blk.new rfl
  have hb : Below W.heap.size W (W.alloc (.cells #[v1, v2, v3] 28)) := bl_alloc (Below.refl _ _) _
  obtain ⟨A1, c1, rfl⟩ := h1.form
  obtain ⟨A2, c2, rfl⟩ := h2.form
  obtain ⟨A3, c3, rfl⟩ := h3.form
  have hLs : Lists 0 (W.alloc (.cells #[.slice A1 l1.length c1, .slice A2 l2.length c2, .slice A3 l3.length c3] 28)) W.heap.size [l1, l2, l3] := by
    intro k hk
    match k, hk with
    | 0, _ => exact ⟨A1, c1, hB.cell 0, h1.to hb⟩
    | 1, _ => exact ⟨A2, c2, hB.cell 1, h2.to hb⟩
    | 2, _ => exact ⟨A3, c3, hB.cell 2, h3.to hb⟩
  have e1 : cat [l1, l2, l3] 3 = l1 ++ l2 ++ l3 := by simp [cat]
  have e2 : upto [l1, l2, l3] 3 = (l1 ++ l2 ++ l3).length := by rw [← upto_cat, e1]
  have h := concat_any 0 W.heap.size [l1, l2, l3] _ hLs (by simp) (by simp) (by show 0 < upto [l1, l2, l3] 3; omega) (by show upto [l1, l2, l3] 3 ≤ _; omega)
  have e3 : [l1, l2, l3].length = 3 := rfl
  rw [e3, e2, e1] at h
  refine h.mono ?_
  rintro e w' ⟨A, c, rfl, ho, hb'⟩
  exact ⟨A, c, rfl, ownsRow_mono ho hb.size, bl_call hb hb'⟩

set_option maxHeartbeats 1000000 in
theorem Bytes_long (lo : Nat) (n : Nx) (v : Value) (l : List UInt8) (t : St) (w : World) (h : Bs lo w.heap.size w v l) (hl : 65536 < l.length) :
    Calls Tryd.prog 14 #[bxV n v t] w fun e w' => e = .returned (.tuple #[.slice none 0 0, .int .i64 3]) ∧ Below w.heap.size w w' := by
  obtain ⟨A, c, rfl⟩ := h.form
  have h1 : (65536 : Int) < (l.length : Int) := by omega
  clear h hl
  go_enter Tryd.func14, Tryd.ntmps14
  go_wp2_with (fail)
  go_ret2
  exact ⟨rfl, by (repeat (first | with_reducible exact Below.refl _ _ | with_reducible assumption | with_reducible refine Below.drew ?_ | with_reducible refine bl_alloc ?_ _ | with_reducible refine bl_call ?_ (by assumption) | (focus (with_reducible refine Below.setCell ?_ ?_ _; rotate_left; focus (first | omega | (simp <;> omega)))) | fail))⟩

set_option maxHeartbeats 1000000 in
theorem Bytes_good (n : Nx) (v : Value) (l : List UInt8) (t : St) (w : World) (h : Bs 0 w.heap.size w v l) (hl : l.length ≤ 65536) :
    Calls Tryd.prog 14 #[bxV n v t] w fun e w' => ∃ A c, e = .returned (.tuple #[.slice A (bytesF ⟨n, l, t⟩).length c, .int .i64 0]) ∧ OwnB w' w.heap.size (.slice A (bytesF ⟨n, l, t⟩).length c) (bytesF ⟨n, l, t⟩) ∧ Below w.heap.size w w' := by
  have hl8 := eight_len n
  have hl16 := octs_len t
  have hc := fun v1 v2 v3 W (h1 : Bs 0 W.heap.size W v1 (eight n)) (h2 : Bs 0 W.heap.size W v2 (octs4 t)) (h3 : Bs 0 W.heap.size W v3 l) => concat3 v1 v2 v3 _ _ _ W h1 h2 h3 (by simp [hl8]; omega) (by simp [hl8, hl16]; omega)
  have hF : bytesF ⟨n, l, t⟩ = eight n ++ octs4 t ++ l := rfl
  rw [← hF] at hc
  generalize bytesF ⟨n, l, t⟩ = out at *
  obtain ⟨A, c, rfl⟩ := h.form
  have X0 : Fx w (w.alloc (.cells (bxC n (.slice A l.length c) t) 30)) [(w.heap.size, 30, bxC n (.slice A l.length c) t)] [] [(.slice A l.length c, l)] := Fx.addZ ((Fx.nil w).newB w.heap.size rfl (bxC n (.slice A l.length c) t) 30) (h.to (bl_alloc (Below.refl _ _) _))
  have h1 : ¬ (65536 : Int) < (l.length : Int) := by omega
  obtain ⟨m, hm⟩ : ∃ m, m = l.length := ⟨_, rfl⟩
  rw [← hm] at X0 h1 ⊢
  replace X0 := hide X0; replace hc := hide hc; replace hl8 := hide hl8; replace hl16 := hide hl16
  clear h hl hF hm
  go_enter Tryd.func14, Tryd.ntmps14
  go_upto_region 1 with (fail)
  generalize hW : World.alloc w _ = W at *
  clear hW
  have k0 : w.heap.size < W.heap.size := ((unhide X0).get 0 rfl).lt
  have b0 : W.cell? ⟨w.heap.size, 0, none⟩ = some (u64v n) := ((unhide X0).get 0 rfl).cell 0
  have b1 : W.cell? ⟨w.heap.size, 1, none⟩ = some (.slice A m c) := ((unhide X0).get 0 rfl).cell 1
  have b2 : W.cell? ⟨w.heap.size, 2, none⟩ = some (u32v t.a) := ((unhide X0).get 0 rfl).cell 2
  have b3 : W.cell? ⟨w.heap.size, 3, none⟩ = some (u32v t.b) := ((unhide X0).get 0 rfl).cell 3
  have b4 : W.cell? ⟨w.heap.size, 4, none⟩ = some (u32v t.c) := ((unhide X0).get 0 rfl).cell 4
  have b5 : W.cell? ⟨w.heap.size, 5, none⟩ = some (u32v t.d) := ((unhide X0).get 0 rfl).cell 5
  go_upto_region 3 with (fail)
  go_region_held3 (fun W => W.cell? ⟨w.heap.size, 0, none⟩ = some (u64v n) ∧ W.cell? ⟨w.heap.size, 1, none⟩ = some (.slice A m c) ∧ W.cell? ⟨w.heap.size, 2, none⟩ = some (u32v t.a) ∧ W.cell? ⟨w.heap.size, 3, none⟩ = some (u32v t.b) ∧ W.cell? ⟨w.heap.size, 4, none⟩ = some (u32v t.c) ∧ W.cell? ⟨w.heap.size, 5, none⟩ = some (u32v t.d)) (first | exact ⟨by with_reducible assumption, by with_reducible assumption, by with_reducible assumption, by with_reducible assumption, by with_reducible assumption, by with_reducible assumption⟩ | exact ⟨by go_simp, by go_simp, by go_simp, by go_simp, by go_simp, by go_simp⟩)
    (first
    | (go_at_call 28; refine (octets_any n W.drew).mono ?_; rintro e w5 ⟨v5, rfl, o5, hb5⟩
       obtain ⟨A5, c5, rfl⟩ : ∃ A c, v5 = .slice A 8 c := by obtain ⟨A, c, e⟩ := o5.form; exact ⟨A, c, by rw [e, unhide hl8]⟩
       have X5 : Fx w w5 [(w.heap.size, 30, bxC n (.slice A m c) t)] [] [(.slice A m c, l), (.slice A5 8 c5, eight n)] := Fx.addZ (Fx.call (unhide X0).drew hb5) (Bs.of_own0 o5)
       have k5 : w.heap.size < w5.heap.size := (X5.get 0 rfl).lt
       have d0 : w5.cell? ⟨w.heap.size, 0, none⟩ = some (u64v n) := (X5.get 0 rfl).cell 0
       have d1 : w5.cell? ⟨w.heap.size, 1, none⟩ = some (.slice A m c) := (X5.get 0 rfl).cell 1
       have d2 : w5.cell? ⟨w.heap.size, 2, none⟩ = some (u32v t.a) := (X5.get 0 rfl).cell 2
       have d3 : w5.cell? ⟨w.heap.size, 3, none⟩ = some (u32v t.b) := (X5.get 0 rfl).cell 3
       have d4 : w5.cell? ⟨w.heap.size, 4, none⟩ = some (u32v t.c) := (X5.get 0 rfl).cell 4
       have d5 : w5.cell? ⟨w.heap.size, 5, none⟩ = some (u32v t.d) := (X5.get 0 rfl).cell 5
       replace X5 := hide X5
       clear o5 hb5)
    | (go_at_call 29; refine (Octets_any t w5).mono ?_; rintro e w6 ⟨v6, rfl, o6, hb6⟩
       obtain ⟨A6, c6, rfl⟩ : ∃ A c, v6 = .slice A 16 c := by obtain ⟨A, c, e⟩ := o6.form; exact ⟨A, c, by rw [e, unhide hl16]⟩
       have X6 : Fx w w6 [(w.heap.size, 30, bxC n (.slice A m c) t)] [] [(.slice A m c, l), (.slice A5 8 c5, eight n), (.slice A6 16 c6, octs4 t)] := Fx.addZ (Fx.call (unhide X5) hb6) (Bs.of_own0 o6)
       have k6 : w.heap.size < w6.heap.size := (X6.get 0 rfl).lt
       have f0 : w6.cell? ⟨w.heap.size, 0, none⟩ = some (u64v n) := (X6.get 0 rfl).cell 0
       have f1 : w6.cell? ⟨w.heap.size, 1, none⟩ = some (.slice A m c) := (X6.get 0 rfl).cell 1
       have f2 : w6.cell? ⟨w.heap.size, 2, none⟩ = some (u32v t.a) := (X6.get 0 rfl).cell 2
       have f3 : w6.cell? ⟨w.heap.size, 3, none⟩ = some (u32v t.b) := (X6.get 0 rfl).cell 3
       have f4 : w6.cell? ⟨w.heap.size, 4, none⟩ = some (u32v t.c) := (X6.get 0 rfl).cell 4
       have f5 : w6.cell? ⟨w.heap.size, 5, none⟩ = some (u32v t.d) := (X6.get 0 rfl).cell 5
       replace X6 := hide X6
       clear o6 hb6)
    | (go_at_call 27; refine (unhide hc _ _ _ w6 ((unhide X6).rd 1 rfl) ((unhide X6).rd 2 rfl) ((unhide X6).rd 0 rfl)).mono ?_; rintro e w7 ⟨A7, c7, rfl, o7, hb7⟩
       have X7 : Fx w w7 [(w.heap.size, 30, bxC n (.slice A m c) t)] [] [] := Fx.sub (Fx.call (unhide X6) hb7) (by simp) (by simp) (by simp)
       have g0 : w7.cell? ⟨w.heap.size, 0, none⟩ = some (u64v n) := (X7.get 0 rfl).cell 0
       have g1 : w7.cell? ⟨w.heap.size, 1, none⟩ = some (.slice A m c) := (X7.get 0 rfl).cell 1
       have g2 : w7.cell? ⟨w.heap.size, 2, none⟩ = some (u32v t.a) := (X7.get 0 rfl).cell 2
       have g3 : w7.cell? ⟨w.heap.size, 3, none⟩ = some (u32v t.b) := (X7.get 0 rfl).cell 3
       have g4 : w7.cell? ⟨w.heap.size, 4, none⟩ = some (u32v t.c) := (X7.get 0 rfl).cell 4
       have g5 : w7.cell? ⟨w.heap.size, 5, none⟩ = some (u32v t.d) := (X7.get 0 rfl).cell 5
       have o7' : OwnB w7 w.heap.size (.slice A7 out.length c7) out := ownsRow_mono o7 (unhide X6).bl.size
       replace X7 := hide X7; replace o7' := hide o7'
       clear o7 hb7))
  all_goals go_wp2_with (fail)
  all_goals go_ret2
  all_goals exact ⟨A7, c7, rfl, unhide o7', (unhide X7).bl⟩
end Go.Proofs.YtlgahaidnpgnaaaDoor
