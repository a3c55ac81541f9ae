import Derived.Test.YtlgahaidnpgnaaaDoorW10
namespace Go.Proofs.YtlgahaidnpgnaaaDoor
open Go.RowKit

set_option maxHeartbeats 400000 in
theorem OfR_bad (lo : Nat) (v : Value) (l : List UInt8) (w : World) (h : Bs lo w.heap.size w v l) (hl : l.length ≠ 16) :
    Calls Tryd.prog 35 #[v] w fun e w' => e = .returned (.tuple #[stV zS, .int .i64 2]) ∧ Below w.heap.size w w' := by
  obtain ⟨A, c, rfl, _⟩ := h
  have h1 : ¬ (l.length : Int) = 16 := by omega
  have hB : Blk (w.alloc (.cells zC 24)) w.heap.size 24 zC := Blk.new rfl
  have hb : Below w.heap.size w (w.alloc (.cells zC 24)) := bl_alloc (Below.refl _ _) _
  replace hB := hide hB; replace hb := hide hb
  clear hl
  go_enter Tryd.func35, Tryd.ntmps35
  go_wp2_with (first
    | (refine wpList_store_row rfl 24 (.tmp 2) (.tmp 7) rfl w.heap.size zC rfl rfl 24 zC (unhide hB) size24 rfl (stC_one zS) ?_)
    | fail)
  exact ret_st2 rfl w.heap.size zS _ rfl rfl ((unhide hB).row _) rfl ⟨rfl, bl_row (unhide hb) _ (Nat.le_refl _)⟩

theorem Blk.set4 {w : World} {g : Nat} {t : TypeId} {a b c d x y z u : Value} (h : Blk w g t #[a, b, c, d]) : Blk ((((w.setCell ⟨g, 0, none⟩ x).setCell ⟨g, 1, none⟩ y).setCell ⟨g, 2, none⟩ z).setCell ⟨g, 3, none⟩ u) g t #[x, y, z, u] := by
  simpa using (((h.set 0 x).set 1 y).set 2 z).set 3 u
theorem below_set4 {B g : Nat} {a w : World} {x y z u : Value} (h : Below B a w) (hg : B ≤ g) : Below B a ((((w.setCell ⟨g, 0, none⟩ x).setCell ⟨g, 1, none⟩ y).setCell ⟨g, 2, none⟩ z).setCell ⟨g, 3, none⟩ u) :=
  (((h.setCell hg _).setCell hg _).setCell hg _).setCell hg _
set_option maxHeartbeats 1000000 in
theorem OfR_good (lo : Nat) (v : Value) (l : List UInt8) (w : World) (h : Bs lo w.heap.size w v l) (hl : l.length = 16) :
    Calls Tryd.prog 35 #[v] w fun e w' => e = .returned (.tuple #[stV (ofF l), .int .i64 0]) ∧ Below w.heap.size w w' := by
  obtain ⟨A, c, rfl⟩ : ∃ A c, v = .slice A 16 c := by obtain ⟨A, c, e, _⟩ := id h; exact ⟨A, c, by rw [e, hl]⟩
  have hB : Blk (w.alloc (.cells zC 24)) w.heap.size 24 zC := Blk.new rfl
  have hb : Below w.heap.size w (w.alloc (.cells zC 24)) := bl_alloc (Below.refl _ _) _
  obtain ⟨A0, c0, s0, b0⟩ := h.cut_h 4 4 rfl (by omega)
  obtain ⟨A1, c1, s1, b1⟩ := h.cut_lh 4 8 4 8 rfl rfl (by omega) (by omega)
  obtain ⟨A2, c2, s2, b2⟩ := h.cut_lh 8 12 8 12 rfl rfl (by omega) (by omega)
  obtain ⟨A3, c3, s3, b3⟩ := h.cut_l 12 12 rfl (by omega)
  rw [hl] at s3 b3
  have hL : ofF l = ⟨four (l.take 4), four ((l.drop 4).take 4), four ((l.drop 8).take 4), four (l.drop 12)⟩ := rfl
  have hk : ∀ W' m, (Blk W' w.heap.size 24 zC ∧ Below w.heap.size w W') → (Blk (W'.drewN m) w.heap.size 24 zC ∧ Below w.heap.size w (W'.drewN m)) := fun W' m h => ⟨h.1.drewN m, below_drewN h.2 m⟩
  have n0 := fun W' (h' : Blk W' w.heap.size 24 zC ∧ Below w.heap.size w W') => (fourR_any _ _ _ _ W' (b0.below h'.2 (Nat.le_refl _)) (by rw [List.length_take]; omega)).mono fun e w1 (h : _ ∧ _) => show e = .returned (u32v (four (l.take 4))) ∧ (Blk w1 w.heap.size 24 zC ∧ Below w.heap.size w w1) from ⟨h.1, by obtain ⟨m, rfl⟩ := h.2; exact hk _ m h'⟩
  have n1 := fun W' (h' : Blk W' w.heap.size 24 zC ∧ Below w.heap.size w W') => (fourR_any _ _ _ _ W' (b1.below h'.2 (Nat.le_refl _)) (by rw [List.length_take, List.length_drop]; omega)).mono fun e w1 (h : _ ∧ _) => show e = .returned (u32v (four ((l.drop 4).take 4))) ∧ (Blk w1 w.heap.size 24 zC ∧ Below w.heap.size w w1) from ⟨h.1, by obtain ⟨m, rfl⟩ := h.2; exact hk _ m h'⟩
  have n2 := fun W' (h' : Blk W' w.heap.size 24 zC ∧ Below w.heap.size w W') => (fourR_any _ _ _ _ W' (b2.below h'.2 (Nat.le_refl _)) (by rw [List.length_take, List.length_drop]; omega)).mono fun e w1 (h : _ ∧ _) => show e = .returned (u32v (four ((l.drop 8).take 4))) ∧ (Blk w1 w.heap.size 24 zC ∧ Below w.heap.size w w1) from ⟨h.1, by obtain ⟨m, rfl⟩ := h.2; exact hk _ m h'⟩
  have n3 := fun W' (h' : Blk W' w.heap.size 24 zC ∧ Below w.heap.size w W') => (fourR_any _ _ _ _ W' (b3.below h'.2 (Nat.le_refl _)) (by rw [List.length_drop]; omega)).mono fun e w1 (h : _ ∧ _) => show e = .returned (u32v (four (l.drop 12))) ∧ (Blk w1 w.heap.size 24 zC ∧ Below w.heap.size w w1) from ⟨h.1, by obtain ⟨m, rfl⟩ := h.2; exact hk _ m h'⟩
  have P0 : Blk (w.alloc (.cells zC 24)).drew w.heap.size 24 zC ∧ Below w.heap.size w (w.alloc (.cells zC 24)).drew := ⟨hB.drew, hb.drew⟩
  obtain ⟨x0, e0⟩ : ∃ x, x = four (l.take 4) := ⟨_, rfl⟩
  obtain ⟨x1, e1⟩ : ∃ x, x = four ((l.drop 4).take 4) := ⟨_, rfl⟩
  obtain ⟨x2, e2⟩ : ∃ x, x = four ((l.drop 8).take 4) := ⟨_, rfl⟩
  obtain ⟨x3, e3⟩ : ∃ x, x = four (l.drop 12) := ⟨_, rfl⟩
  rw [← e0] at n0; rw [← e1] at n1; rw [← e2] at n2; rw [← e3] at n3
  rw [← e0, ← e1, ← e2, ← e3] at hL
  replace hL := hide hL; replace n0 := hide n0; replace n1 := hide n1; replace n2 := hide n2; replace n3 := hide n3; replace P0 := hide P0
  clear h b0 b1 b2 b3 hk e0 e1 e2 e3 hB hb
  have tk0 : True := trivial
  have tk1 : True := trivial
  have tk2 : True := trivial
  have tk3 : True := trivial
  go_enter Tryd.func35, Tryd.ntmps35
  go_upto_region 3 with (fail)
  generalize hW : World.alloc w _ = W at *
  clear hW hl
  go_region_held3 (fun _ => True) (trivial) (first
    | (go_at_call 45; have _t := tk0; refine (unhide n0 _ (unhide P0)).mono ?_; rintro e w1 ⟨rfl, P1⟩; replace P1 := hide P1; clear tk0 _t)
    | (go_at_call 45; have _t := tk1; refine (unhide n1 _ (unhide P1)).mono ?_; rintro e w2 ⟨rfl, P2⟩; replace P2 := hide P2; clear tk1 _t)
    | (go_at_call 45; have _t := tk2; refine (unhide n2 _ (unhide P2)).mono ?_; rintro e w3 ⟨rfl, P3⟩; replace P3 := hide P3; clear tk2 _t)
    | (go_at_call 45; have _t := tk3; refine (unhide n3 _ (unhide P3)).mono ?_; rintro e w4 ⟨rfl, P4⟩
       have c0 : w4.cell? ⟨w.heap.size, 0, none⟩ = some (.int .u32 0) := (unhide (hide P4)).1.cell 0
       have c1 : w4.cell? ⟨w.heap.size, 1, none⟩ = some (.int .u32 0) := (unhide (hide P4)).1.cell 1
       have c2 : w4.cell? ⟨w.heap.size, 2, none⟩ = some (.int .u32 0) := (unhide (hide P4)).1.cell 2
       have c3 : w4.cell? ⟨w.heap.size, 3, none⟩ = some (.int .u32 0) := (unhide (hide P4)).1.cell 3
       have f0 : w4.frozen? ⟨w.heap.size, 0, none⟩ = false := (unhide (hide P4)).1.frozen 0
       have f1 : w4.frozen? ⟨w.heap.size, 1, none⟩ = false := (unhide (hide P4)).1.frozen 1
       have f2 : w4.frozen? ⟨w.heap.size, 2, none⟩ = false := (unhide (hide P4)).1.frozen 2
       have f3 : w4.frozen? ⟨w.heap.size, 3, none⟩ = false := (unhide (hide P4)).1.frozen 3
       replace P4 := hide P4; clear tk3 _t))
  have Q4 : Blk _ w.heap.size 24 (stC ⟨x0, x1, x2, x3⟩) := Blk.set4 (x := u32v x0) (y := u32v x1) (z := u32v x2) (u := u32v x3) (unhide P4).1
  have R4 : Below w.heap.size w _ := below_set4 (x := u32v x0) (y := u32v x1) (z := u32v x2) (u := u32v x3) (unhide P4).2 (Nat.le_refl _)
  replace Q4 := hide Q4; replace R4 := hide R4
  go_wp2_with (fail)
  exact ret_st2 rfl w.heap.size ⟨x0, x1, x2, x3⟩ (.int .i64 0) rfl rfl (unhide Q4) rfl ⟨by rw [unhide hL], unhide R4⟩
end Go.Proofs.YtlgahaidnpgnaaaDoor
