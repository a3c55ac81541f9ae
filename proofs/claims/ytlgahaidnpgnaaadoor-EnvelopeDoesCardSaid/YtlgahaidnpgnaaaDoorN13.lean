import Derived.Test.YtlgahaidnpgnaaaDoorN12
namespace Go.Proofs.YtlgahaidnpgnaaaDoor
open Go.RowKit

theorem neq_st (w : World) (s t : St) : (binOp .neq 24 (stV s) (stV t)).run Tryd.prog w = .ok (.bool (!sameS s t)) w := by
  rw [run_neq_struct, equalIn_st]
  rfl
set_option maxHeartbeats 1000000 in
theorem Open_long (lo : Nat) (s : St) (n : Nx) (v : Value) (l : List UInt8) (t : St) (w : World) (h : Bs lo w.heap.size w v l) (hl : 65536 < l.length) :
    Calls Tryd.prog 12 #[stV s, bxV n v t] w fun e w' => e = .returned (.tuple #[.slice none 0 0, .int .i64 3]) ∧ Below w.heap.size w w' := by
  have hT := fun W (hb : Below w.heap.size w W) => Tag20_long lo s n v l W (h.to hb) hl
  obtain ⟨A, c, rfl⟩ := h.form
  have X0 : Fx w ((w.alloc (.cells (stC s) 24)).alloc (.cells (bxC n (.slice A l.length c) t) 30)) [(w.heap.size, 24, stC s), (w.heap.size + 1, 30, bxC n (.slice A l.length c) t)] [] [] := ((Fx.nil w).newB w.heap.size rfl (stC s) 24).newB (w.heap.size + 1) (by simp) (bxC n (.slice A l.length c) t) 30
  generalize l.length = m at *
  replace X0 := hide X0; replace hT := hide hT
  clear h hl
  go_enter Tryd.func12, Tryd.ntmps12
  go_upto_region 1 with (fail)
  generalize hW : World.alloc (World.alloc w _) _ = W at *
  clear hW
  have c0 : W.cell? ⟨w.heap.size, 0, none⟩ = some (u32v s.a) := ((unhide X0).get 0 rfl).cell 0
  have c1 : W.cell? ⟨w.heap.size, 1, none⟩ = some (u32v s.b) := ((unhide X0).get 0 rfl).cell 1
  have c2 : W.cell? ⟨w.heap.size, 2, none⟩ = some (u32v s.c) := ((unhide X0).get 0 rfl).cell 2
  have c3 : W.cell? ⟨w.heap.size, 3, none⟩ = some (u32v s.d) := ((unhide X0).get 0 rfl).cell 3
  have b0 : W.cell? ⟨w.heap.size + 1, 0, none⟩ = some (u64v n) := ((unhide X0).get 1 rfl).cell 0
  have b1 : W.cell? ⟨w.heap.size + 1, 1, none⟩ = some (.slice A m c) := ((unhide X0).get 1 rfl).cell 1
  go_wp2_with (first
    | (go_at_call 20; refine (unhide hT _ (unhide X0).bl).mono ?_; rintro e w2 ⟨rfl, hb2⟩)
    | fail)
  go_ret2
  exact ⟨rfl, bl_alloc (bl_call (unhide X0).bl hb2) _⟩

set_option maxHeartbeats 1000000 in
theorem Open_any (s : St) (n : Nx) (v : Value) (l : List UInt8) (t : St) (w : World) (ht : Tab w) (h : Bs 0 w.heap.size w v l) (hl : l.length ≤ 65536) :
    Calls Tryd.prog 12 #[stV s, bxV n v t] w fun e w' => (if sameS (tagF s n l) t = true then ∃ A c, e = .returned (.tuple #[.slice A l.length c, .int .i64 0]) ∧ OwnB w' w.heap.size (.slice A l.length c) (hidF s n l) else e = .returned (.tuple #[.slice none 0 0, .int .i64 8])) ∧ Below w.heap.size w w' := by
  have hT := fun W (hb : Below w.heap.size w W) => Tag_good s n v l W (ht.below hb (Nat.le_refl _)) (h.to hb) hl
  have hG := fun W (hb : Below w.heap.size w W) => turned_any s n v l W (ht.below hb (Nat.le_refl _)) (h.to hb) hl
  obtain ⟨A, c, rfl⟩ := h.form
  have X0 : Fx w ((w.alloc (.cells (stC s) 24)).alloc (.cells (bxC n (.slice A l.length c) t) 30)) [(w.heap.size, 24, stC s), (w.heap.size + 1, 30, bxC n (.slice A l.length c) t)] [] [] := ((Fx.nil w).newB w.heap.size rfl (stC s) 24).newB (w.heap.size + 1) (by simp) (bxC n (.slice A l.length c) t) 30
  generalize hidF s n l = H at *
  generalize tagF s n l = T at *
  generalize l.length = m at *
  have hE := fun W => neq_st W T t
  have hz : ∃ z, z = sameS T t := ⟨_, rfl⟩
  obtain ⟨z, hz⟩ := hz
  rw [← hz] at hE ⊢
  replace X0 := hide X0; replace hT := hide hT; replace hG := hide hG
  clear h hl hz
  go_enter Tryd.func12, Tryd.ntmps12
  go_upto_region 1 with (fail)
  generalize hW : World.alloc (World.alloc w _) _ = W at *
  clear hW
  have c0 : W.cell? ⟨w.heap.size, 0, none⟩ = some (u32v s.a) := ((unhide X0).get 0 rfl).cell 0
  have c1 : W.cell? ⟨w.heap.size, 1, none⟩ = some (u32v s.b) := ((unhide X0).get 0 rfl).cell 1
  have c2 : W.cell? ⟨w.heap.size, 2, none⟩ = some (u32v s.c) := ((unhide X0).get 0 rfl).cell 2
  have c3 : W.cell? ⟨w.heap.size, 3, none⟩ = some (u32v s.d) := ((unhide X0).get 0 rfl).cell 3
  have b0 : W.cell? ⟨w.heap.size + 1, 0, none⟩ = some (u64v n) := ((unhide X0).get 1 rfl).cell 0
  have b1 : W.cell? ⟨w.heap.size + 1, 1, none⟩ = some (.slice A m c) := ((unhide X0).get 1 rfl).cell 1
  go_upto_region 4 with (first
    | (go_at_call 20; refine (unhide hT _ (unhide X0).bl).mono ?_; rintro e w2 ⟨rfl, hb2⟩
       have X2 : Fx w (w2.alloc (.cells (stC T) 24)) [(w.heap.size, 24, stC s), (w.heap.size + 1, 30, bxC n (.slice A m c) t), (w2.heap.size, 24, stC T)] [] [] := ((unhide X0).call hb2).newB w2.heap.size rfl (stC T) 24
       replace X2 := hide X2
       clear hb2)
    | fail)
  generalize w2.heap.size = g2 at *
  generalize World.alloc w2 _ = W2 at *
  clear c0 c1 c2 c3 b0 b1
  have c0 : W2.cell? ⟨w.heap.size, 0, none⟩ = some (u32v s.a) := ((unhide X2).get 0 rfl).cell 0
  have c1 : W2.cell? ⟨w.heap.size, 1, none⟩ = some (u32v s.b) := ((unhide X2).get 0 rfl).cell 1
  have c2 : W2.cell? ⟨w.heap.size, 2, none⟩ = some (u32v s.c) := ((unhide X2).get 0 rfl).cell 2
  have c3 : W2.cell? ⟨w.heap.size, 3, none⟩ = some (u32v s.d) := ((unhide X2).get 0 rfl).cell 3
  have b0 : W2.cell? ⟨w.heap.size + 1, 0, none⟩ = some (u64v n) := ((unhide X2).get 1 rfl).cell 0
  have b1 : W2.cell? ⟨w.heap.size + 1, 1, none⟩ = some (.slice A m c) := ((unhide X2).get 1 rfl).cell 1
  have b2 : W2.cell? ⟨w.heap.size + 1, 2, none⟩ = some (u32v t.a) := ((unhide X2).get 1 rfl).cell 2
  have b3 : W2.cell? ⟨w.heap.size + 1, 3, none⟩ = some (u32v t.b) := ((unhide X2).get 1 rfl).cell 3
  have b4 : W2.cell? ⟨w.heap.size + 1, 4, none⟩ = some (u32v t.c) := ((unhide X2).get 1 rfl).cell 4
  have b5 : W2.cell? ⟨w.heap.size + 1, 5, none⟩ = some (u32v t.d) := ((unhide X2).get 1 rfl).cell 5
  have t0 : W2.cell? ⟨g2, 0, none⟩ = some (u32v T.a) := ((unhide X2).get 2 rfl).cell 0
  have t1 : W2.cell? ⟨g2, 1, none⟩ = some (u32v T.b) := ((unhide X2).get 2 rfl).cell 1
  have t2 : W2.cell? ⟨g2, 2, none⟩ = some (u32v T.c) := ((unhide X2).get 2 rfl).cell 2
  have t3 : W2.cell? ⟨g2, 3, none⟩ = some (u32v T.d) := ((unhide X2).get 2 rfl).cell 3
  cases z with
  | false =>
    go_wp2_with (fail)
    go_ret2
    exact ⟨rfl, (unhide X2).bl⟩
  | true =>
    go_wp2_with (first
      | (go_at_call 25; refine (unhide hG _ (unhide X2).bl).mono ?_; rintro e w3 ⟨A3, c3', rfl, o3, hb3⟩)
      | fail)
    go_ret2
    exact ⟨⟨A3, c3', rfl, ownsRow_mono o3 (unhide X2).bl.size⟩, bl_call (unhide X2).bl hb3⟩
end Go.Proofs.YtlgahaidnpgnaaaDoor
