import Derived.Test.YtjjamplgecioaaaDoorG6
namespace Go.Proofs.YtjjamplgecioaaaDoor
open Go.RowKit

theorem index24_0 (a b c d : Value) (W : World) : (Instr.index 24 (.agg #[a, b, c, d]) (.int .i64 0)).run Tryd.prog W = .ok a W := by
  have hs : (sizeOf 22).run Tryd.prog W = .ok 1 W := by kernel_rfl
  simp [Instr.index, asIntOf, run_underlying Tryd.underlying24, hs, part]
section
attribute [local go_sem] r_xor
set_option maxHeartbeats 400000 in
theorem mark15_raw (s : St) (w : World) (hp : ∀ S W, Below w.heap.size w W → Calls Tryd.prog 20 #[stV S] W fun e w' => e = .returned (stV (permF S)) ∧ Below W.heap.size W w') :
    Calls Tryd.prog 15 #[stV s] w fun e w' => e = .returned (u32v (markF s)) ∧ Below w.heap.size w w' := by
  have F0 : Fx w (w.alloc (.cells (stC s) 24)) [(w.heap.size, stC s)] := (Fx.nil w).newB _ rfl _
  have hc := fun W hb => hp s W hb
  have hm : markF s = (permF s).a ^^^ s.d := rfl
  rw [hm]
  clear hm hp
  generalize permF s = T at *
  obtain ⟨a, b, c, d⟩ := s
  obtain ⟨a', b', c', d'⟩ := T
  have hix := index24_0 (u32v a') (u32v b') (u32v c') (u32v d')
  replace F0 := hide F0; replace hc := hide hc
  go_enter Tryd.func15, Tryd.ntmps15
  go_upto_region 1 with (fail)
  generalize hW : World.alloc w _ = W at *
  clear hW
  have c0 : W.cell? ⟨w.heap.size, 0, none⟩ = some (u32v a) := ((unhide F0).get 0 rfl).cell 0
  have c1 : W.cell? ⟨w.heap.size, 1, none⟩ = some (u32v b) := ((unhide F0).get 0 rfl).cell 1
  have c2 : W.cell? ⟨w.heap.size, 2, none⟩ = some (u32v c) := ((unhide F0).get 0 rfl).cell 2
  have c3 : W.cell? ⟨w.heap.size, 3, none⟩ = some (u32v d) := ((unhide F0).get 0 rfl).cell 3
  go_region_law (first
    | (go_simp; go_at_call 20; refine (unhide hc _ (unhide F0).bl.drew).mono ?_; rintro e w1 ⟨rfl, hb1⟩
       have F1 : Fx w w1 _ := (unhide F0).drew.call hb1
       have d3 : w1.cell? ⟨w.heap.size, 3, none⟩ = some (u32v d) := (F1.get 0 rfl).cell 3
       replace F1 := hide F1; clear hb1))
  all_goals
    go_wp2
    go_ret
    exact ⟨rfl, (unhide F1).bl⟩
set_option maxHeartbeats 400000 in
theorem mark16_raw (s : St) (w : World) (hp : ∀ S W, Below w.heap.size w W → Calls Tryd.prog 21 #[stV S] W fun e w' => e = .returned (stV (permF S)) ∧ Below W.heap.size W w') :
    Calls Tryd.prog 16 #[stV s] w fun e w' => e = .returned (u32v (markF s)) ∧ Below w.heap.size w w' := by
  have F0 : Fx w (w.alloc (.cells (stC s) 24)) [(w.heap.size, stC s)] := (Fx.nil w).newB _ rfl _
  have hc := fun W hb => hp s W hb
  have hm : markF s = (permF s).a ^^^ s.d := rfl
  rw [hm]
  clear hm hp
  generalize permF s = T at *
  obtain ⟨a, b, c, d⟩ := s
  obtain ⟨a', b', c', d'⟩ := T
  have hix := index24_0 (u32v a') (u32v b') (u32v c') (u32v d')
  replace F0 := hide F0; replace hc := hide hc
  go_enter Tryd.func16, Tryd.ntmps16
  go_upto_region 1 with (fail)
  generalize hW : World.alloc w _ = W at *
  clear hW
  have c0 : W.cell? ⟨w.heap.size, 0, none⟩ = some (u32v a) := ((unhide F0).get 0 rfl).cell 0
  have c1 : W.cell? ⟨w.heap.size, 1, none⟩ = some (u32v b) := ((unhide F0).get 0 rfl).cell 1
  have c2 : W.cell? ⟨w.heap.size, 2, none⟩ = some (u32v c) := ((unhide F0).get 0 rfl).cell 2
  have c3 : W.cell? ⟨w.heap.size, 3, none⟩ = some (u32v d) := ((unhide F0).get 0 rfl).cell 3
  go_region_law (first
    | (go_simp; go_at_call 21; refine (unhide hc _ (unhide F0).bl.drew).mono ?_; rintro e w1 ⟨rfl, hb1⟩
       have F1 : Fx w w1 _ := (unhide F0).drew.call hb1
       have d3 : w1.cell? ⟨w.heap.size, 3, none⟩ = some (u32v d) := (F1.get 0 rfl).cell 3
       replace F1 := hide F1; clear hb1))
  all_goals
    go_wp2
    go_ret
    exact ⟨rfl, (unhide F1).bl⟩
end
theorem mark_any (s : St) (w W : World) (ht : Tab w) (hb : Below w.heap.size w W) : Calls Tryd.prog 15 #[stV s] W fun e w' => e = .returned (u32v (markF s)) ∧ Below W.heap.size W w' :=
  mark15_raw s W fun S W' hb' => perm_any S W' ((ht.below hb (Nat.le_refl _)).below hb' (Nat.le_refl _))
theorem markR_any (s : St) (W : World) : Calls Tryd.prog 16 #[stV s] W fun e w' => e = .returned (u32v (markF s)) ∧ Below W.heap.size W w' :=
  mark16_raw s W fun S W' _ => permR_any S W'
end Go.Proofs.YtjjamplgecioaaaDoor
