import Derived.Test.YtjjamplgecioaaaDoorW10
namespace Go.Proofs.YtjjamplgecioaaaDoor
open Go.RowKit

section
attribute [local go_sem] r_xor
set_option maxHeartbeats 1000000 in
theorem takeIn_any (lo : Nat) (s : St) (v : Value) (l : List UInt8) (w : World) (ht : Tab w) (h : Bs lo w.heap.size w v l) (hl : l.length = 8) :
    Calls Tryd.prog 22 #[stV s, v] w fun e w' => e = .returned (stV (inF s l)) ∧ Below w.heap.size w w' := by
  obtain ⟨A, c, rfl⟩ : ∃ A c, v = .slice A 8 c := by obtain ⟨A, c, e, _⟩ := id h; exact ⟨A, c, by rw [e, hl]⟩
  have hB : Blk ((w.alloc (.cells (stC s) 24)).alloc (.cells zC 24)) w.heap.size 24 (stC s) := Blk.alloc (Blk.new rfl) _
  have hZ : Blk ((w.alloc (.cells (stC s) 24)).alloc (.cells zC 24)) (w.heap.size + 1) 24 zC := Blk.new (by simp)
  have hb : Below w.heap.size w ((w.alloc (.cells (stC s) 24)).alloc (.cells zC 24)) := bl_alloc (bl_alloc (Below.refl _ _) _) _
  obtain ⟨A1, c1, s1, b1⟩ := h.cut_l 4 4 rfl (by omega)
  rw [hl] at s1 b1
  replace s1 : ∀ W, (Instr.slice 25 (.slice A 8 c) (some (.int .i64 4)) none none).run Tryd.prog W = .ok (.slice A1 4 c1) W := s1
  replace b1 : Bs lo w.heap.size w (.slice A1 4 c1) (l.drop 4) := b1
  have n0 := fun W' (hb : Below w.heap.size w W') => number_any _ _ _ _ W' (h.below hb (Nat.le_refl _)) (by omega)
  have n1 := fun W' (hb : Below w.heap.size w W') => number_any _ _ _ _ W' (b1.below hb (Nat.le_refl _)) (by rw [List.length_drop]; omega)
  have hp := fun S W' (hb : Below w.heap.size w W') => perm_any S W' (ht.below hb (Nat.le_refl _))
  have hL : inF s l = permF ⟨s.a ^^^ four l, s.b ^^^ four (l.drop 4), s.c, s.d⟩ := by
    unfold inF; rw [four_take4, four_take4]
  obtain ⟨x0, e0⟩ : ∃ x, x = four l := ⟨_, rfl⟩
  obtain ⟨x1, e1⟩ : ∃ x, x = four (l.drop 4) := ⟨_, rfl⟩
  rw [← e0] at n0; rw [← e1] at n1; rw [← e0, ← e1] at hL
  clear h b1 e0 e1 hl
  obtain ⟨a, b, c', d⟩ := s
  replace n0 := hide n0; replace n1 := hide n1; replace hp := hide hp; replace hL := hide hL; replace hB := hide hB; replace hZ := hide hZ; replace hb := hide hb; replace ht := hide ht
  go_enter Tryd.func22, Tryd.ntmps22
  go_upto_region 1 with (fail)
  generalize hW : World.alloc (World.alloc w _) _ = W at *
  clear hW
  have c0 : W.cell? ⟨w.heap.size, 0, none⟩ = some (u32v a) := (unhide hB).cell 0
  have f0 : W.frozen? ⟨w.heap.size, 0, none⟩ = false := (unhide hB).frozen 0
  go_region_law (first
    | (go_simp; go_at_call 26; refine (unhide n0 _ (unhide hb).drew).mono ?_; rintro e w1 ⟨rfl, m1, rfl⟩))
  all_goals
    have B1 : Blk ((W.drewN (1 + m1)).setCell ⟨w.heap.size, 0, none⟩ (.int .u32 (n32 (a ^^^ x0)))) w.heap.size 24 (stC ⟨a ^^^ x0, b, c', d⟩) := ((unhide hB).drewN _).set 0 _
    have Z1 : Blk ((W.drewN (1 + m1)).setCell ⟨w.heap.size, 0, none⟩ (.int .u32 (n32 (a ^^^ x0)))) (w.heap.size + 1) 24 zC := ((unhide hZ).drewN _).far (by simp) _
    have b1 : Below w.heap.size w ((W.drewN (1 + m1)).setCell ⟨w.heap.size, 0, none⟩ (.int .u32 (n32 (a ^^^ x0)))) := (below_drewN (unhide hb) _).setCell (Nat.le_refl _) _
    generalize (W.drewN (1 + m1)).setCell ⟨w.heap.size, 0, none⟩ (.int .u32 (n32 (a ^^^ x0))) = W1 at *
    have c1 : W1.cell? ⟨w.heap.size, 1, none⟩ = some (u32v b) := B1.cell 1
    have f1 : W1.frozen? ⟨w.heap.size, 1, none⟩ = false := B1.frozen 1
    replace B1 := hide B1; replace Z1 := hide Z1; replace b1 := hide b1
    clear c0 f0
    go_upto_region 2 with (fail)
    go_region_law (first
      | (go_simp; go_at_call 26; refine (unhide n1 _ (unhide b1).drew).mono ?_; rintro e w1 ⟨rfl, m2, rfl⟩))
  all_goals
    have B2 : Blk ((W1.drewN (1 + m2)).setCell ⟨w.heap.size, 1, none⟩ (.int .u32 (n32 (b ^^^ x1)))) w.heap.size 24 (stC ⟨a ^^^ x0, b ^^^ x1, c', d⟩) := ((unhide B1).drewN _).set 1 _
    have Z2 : Blk ((W1.drewN (1 + m2)).setCell ⟨w.heap.size, 1, none⟩ (.int .u32 (n32 (b ^^^ x1)))) (w.heap.size + 1) 24 zC := ((unhide Z1).drewN _).far (by simp) _
    have b2 : Below w.heap.size w ((W1.drewN (1 + m2)).setCell ⟨w.heap.size, 1, none⟩ (.int .u32 (n32 (b ^^^ x1)))) := (below_drewN (unhide b1) _).setCell (Nat.le_refl _) _
    generalize (W1.drewN (1 + m2)).setCell ⟨w.heap.size, 1, none⟩ (.int .u32 (n32 (b ^^^ x1))) = W2 at *
    obtain ⟨S, hS⟩ : ∃ S : St, S = ⟨a ^^^ x0, b ^^^ x1, c', d⟩ := ⟨_, rfl⟩
    have hL' := unhide hL
    simp only [] at hL'
    rw [← hS] at B2 hL'
    have hcall := unhide hp S W2 b2
    have l2 := Z2.lt
    have l0 := B2.lt
    replace hL' := hide hL'
    clear hS c1 f1
    replace B2 := hide B2; replace Z2 := hide Z2; replace b2 := hide b2; replace hcall := hide hcall
    go_wp2_with (first
      | (refine wpList_load_row rfl 24 (.tmp 2) rfl w.heap.size rfl 24 (stC S) (0, 0) _ (unhide B2) Tryd.underlying24 rfl size24 ?_)
      | (go_at_call 20; refine (unhide hcall).mono ?_; rintro e w3 ⟨rfl, hb3⟩; have Z3 := Blk.below (unhide Z2) hb3 l2; have b3 := bl_call (unhide b2) hb3; replace Z3 := hide Z3; replace b3 := hide b3)
      | (refine wpList_store_row rfl 24 (.tmp 4) (.tmp 19) rfl (w.heap.size + 1) (stC _) rfl rfl 24 zC (unhide Z3) size24 rfl (stC_one _) ?_)
      | fail)
    exact bodyPost_ret (v := stV _) (results_cell_row Tryd.results22 _ _ _ _ _ (0, 0) _ rfl ((unhide Z3).row _) Tryd.underlying24 rfl size24) rfl ⟨by rw [unhide hL'], bl_row (unhide b3) _ (by omega)⟩
end
end Go.Proofs.YtjjamplgecioaaaDoor
