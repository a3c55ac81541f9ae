import Derived.Test.YthkccpemgmpadaaGreatDoorU26
namespace Go.Proofs.YthkccpemgmpadaaGreatDoor
set_option maxRecDepth 100000
open Go.RowKit
theorem Blk.set4 {w : World} {g : Nat} {t : TypeId} {a b c d x y z u : Value} (h : Blk w g t #[a, b, c, d]) : Blk ((((w.setCell ⟨g, 0, none⟩ x).setCell ⟨g, 1, none⟩ y).setCell ⟨g, 2, none⟩ z).setCell ⟨g, 3, none⟩ u) g t #[x, y, z, u] := by
  simpa using (((h.set 0 x).set 1 y).set 2 z).set 3 u
theorem below_set4 {B g : Nat} {a w : World} {x y z u : Value} (h : Below B a w) (hg : B ≤ g) : Below B a ((((w.setCell ⟨g, 0, none⟩ x).setCell ⟨g, 1, none⟩ y).setCell ⟨g, 2, none⟩ z).setCell ⟨g, 3, none⟩ u) :=
  (((h.setCell hg _).setCell hg _).setCell hg _).setCell hg _
set_option maxHeartbeats 1000000 in
theorem OfR_good (lo : Nat) (v : Value) (l : List UInt8) (w : World) (h : Bs lo w.heap.size w v l) (hl : l.length = 16) :
    Calls Tryz.prog 47 #[v] w fun e w' => e = .returned (.tuple #[stV (ofF l), .int .i64 0]) ∧ Below w.heap.size w w' := by
  obtain ⟨A, c, rfl⟩ : ∃ A c, v = .slice A 16 c := by obtain ⟨A, c, e, _⟩ := id h; exact ⟨A, c, by rw [e, hl]⟩
  have hB : Blk (w.alloc (.cells zC 24)) w.heap.size 24 zC := Blk.new rfl
  have hb : Below w.heap.size w (w.alloc (.cells zC 24)) := bl_alloc (Below.refl _ _) _
  obtain ⟨A0, c0, s0, b0⟩ := h.cut_h 4 4 rfl (by omega)
  obtain ⟨A1, c1, s1, b1⟩ := h.cut_lh 4 8 4 8 rfl rfl (by omega) (by omega)
  obtain ⟨A2, c2, s2, b2⟩ := h.cut_lh 8 12 8 12 rfl rfl (by omega) (by omega)
  obtain ⟨A3, c3, s3, b3⟩ := h.cut_l 12 12 rfl (by omega)
  rw [hl] at s3 b3
  have hL : ofF l = ⟨four (l.take 4), four ((l.drop 4).take 4), four ((l.drop 8).take 4), four (l.drop 12)⟩ := rfl
  have hk : ∀ W' m, (Blk W' w.heap.size 24 zC ∧ Below w.heap.size w W') → (Blk (W'.drewN m) w.heap.size 24 zC ∧ Below w.heap.size w (W'.drewN m)) := fun W' m h => ⟨h.1.drewN m, below_drewN h.2 m⟩
  have n0 := fun W' (h' : Blk W' w.heap.size 24 zC ∧ Below w.heap.size w W') => (fourR_any _ _ _ _ W' (b0.below h'.2 (Nat.le_refl _)) (by rw [List.length_take]; omega)).mono fun e w1 (h : _ ∧ _) => show e = .returned (u32v (four (l.take 4))) ∧ (Blk w1 w.heap.size 24 zC ∧ Below w.heap.size w w1) from ⟨h.1, by obtain ⟨m, rfl⟩ := h.2; exact hk _ m h'⟩
  have n1 := fun W' (h' : Blk W' w.heap.size 24 zC ∧ Below w.heap.size w W') => (fourR_any _ _ _ _ W' (b1.below h'.2 (Nat.le_refl _)) (by rw [List.length_take, List.length_drop]; omega)).mono fun e w1 (h : _ ∧ _) => show e = .returned (u32v (four ((l.drop 4).take 4))) ∧ (Blk w1 w.heap.size 24 zC ∧ Below w.heap.size w w1) from ⟨h.1, by obtain ⟨m, rfl⟩ := h.2; exact hk _ m h'⟩
  have n2 := fun W' (h' : Blk W' w.heap.size 24 zC ∧ Below w.heap.size w W') => (fourR_any _ _ _ _ W' (b2.below h'.2 (Nat.le_refl _)) (by rw [List.length_take, List.length_drop]; omega)).mono fun e w1 (h : _ ∧ _) => show e = .returned (u32v (four ((l.drop 8).take 4))) ∧ (Blk w1 w.heap.size 24 zC ∧ Below w.heap.size w w1) from ⟨h.1, by obtain ⟨m, rfl⟩ := h.2; exact hk _ m h'⟩
  have n3 := fun W' (h' : Blk W' w.heap.size 24 zC ∧ Below w.heap.size w W') => (fourR_any _ _ _ _ W' (b3.below h'.2 (Nat.le_refl _)) (by rw [List.length_drop]; omega)).mono fun e w1 (h : _ ∧ _) => show e = .returned (u32v (four (l.drop 12))) ∧ (Blk w1 w.heap.size 24 zC ∧ Below w.heap.size w w1) from ⟨h.1, by obtain ⟨m, rfl⟩ := h.2; exact hk _ m h'⟩
  have P0 : Blk (w.alloc (.cells zC 24)).drew w.heap.size 24 zC ∧ Below w.heap.size w (w.alloc (.cells zC 24)).drew := ⟨hB.drew, hb.drew⟩
  obtain ⟨x0, e0⟩ : ∃ x, x = four (l.take 4) := ⟨_, rfl⟩
  obtain ⟨x1, e1⟩ : ∃ x, x = four ((l.drop 4).take 4) := ⟨_, rfl⟩
  obtain ⟨x2, e2⟩ : ∃ x, x = four ((l.drop 8).take 4) := ⟨_, rfl⟩
  obtain ⟨x3, e3⟩ : ∃ x, x = four (l.drop 12) := ⟨_, rfl⟩
  rw [← e0] at n0; rw [← e1] at n1; rw [← e2] at n2; rw [← e3] at n3
  rw [← e0, ← e1, ← e2, ← e3] at hL
  replace hL := hide hL; replace n0 := hide n0; replace n1 := hide n1; replace n2 := hide n2; replace n3 := hide n3; replace P0 := hide P0
  clear h b0 b1 b2 b3 hk e0 e1 e2 e3 hB hb
  have tk0 : True := trivial
  have tk1 : True := trivial
  have tk2 : True := trivial
  have tk3 : True := trivial
  go_enter Tryz.func47, Tryz.ntmps47
  go_upto_region 3 with (fail)
  generalize hW : World.alloc w _ = W at *
  clear hW hl
  go_region_held3 (fun _ => True) (trivial) (first
    | (go_at_call 76; have _t := tk0; refine (unhide n0 _ (unhide P0)).mono ?_; rintro e w1 ⟨rfl, P1⟩; replace P1 := hide P1; clear tk0 _t)
    | (go_at_call 76; have _t := tk1; refine (unhide n1 _ (unhide P1)).mono ?_; rintro e w2 ⟨rfl, P2⟩; replace P2 := hide P2; clear tk1 _t)
    | (go_at_call 76; have _t := tk2; refine (unhide n2 _ (unhide P2)).mono ?_; rintro e w3 ⟨rfl, P3⟩; replace P3 := hide P3; clear tk2 _t)
    | (go_at_call 76; have _t := tk3; refine (unhide n3 _ (unhide P3)).mono ?_; rintro e w4 ⟨rfl, P4⟩
       have c0 : w4.cell? ⟨w.heap.size, 0, none⟩ = some (.int .u32 0) := (unhide (hide P4)).1.cell 0
       have c1 : w4.cell? ⟨w.heap.size, 1, none⟩ = some (.int .u32 0) := (unhide (hide P4)).1.cell 1
       have c2 : w4.cell? ⟨w.heap.size, 2, none⟩ = some (.int .u32 0) := (unhide (hide P4)).1.cell 2
       have c3 : w4.cell? ⟨w.heap.size, 3, none⟩ = some (.int .u32 0) := (unhide (hide P4)).1.cell 3
       have f0 : w4.frozen? ⟨w.heap.size, 0, none⟩ = false := (unhide (hide P4)).1.frozen 0
       have f1 : w4.frozen? ⟨w.heap.size, 1, none⟩ = false := (unhide (hide P4)).1.frozen 1
       have f2 : w4.frozen? ⟨w.heap.size, 2, none⟩ = false := (unhide (hide P4)).1.frozen 2
       have f3 : w4.frozen? ⟨w.heap.size, 3, none⟩ = false := (unhide (hide P4)).1.frozen 3
       replace P4 := hide P4; clear tk3 _t))
  have Q4 : Blk _ w.heap.size 24 (stC ⟨x0, x1, x2, x3⟩) := Blk.set4 (x := u32v x0) (y := u32v x1) (z := u32v x2) (u := u32v x3) (unhide P4).1
  have R4 : Below w.heap.size w _ := below_set4 (x := u32v x0) (y := u32v x1) (z := u32v x2) (u := u32v x3) (unhide P4).2 (Nat.le_refl _)
  replace Q4 := hide Q4; replace R4 := hide R4
  go_wp2_with (fail)
  exact ret_st2 rfl w.heap.size ⟨x0, x1, x2, x3⟩ (.int .i64 0) rfl rfl (unhide Q4) rfl ⟨by rw [unhide hL], unhide R4⟩
end Go.Proofs.YthkccpemgmpadaaGreatDoor

namespace Go.Proofs.YthkccpemgmpadaaGreatDoor
set_option maxRecDepth 100000
open Go.RowKit
section
attribute [local go_sem] r_xor
set_option maxHeartbeats 1000000 in
theorem takeIn_any (lo : Nat) (s : St) (v : Value) (l : List UInt8) (w : World) (ht : Tab w) (h : Bs lo w.heap.size w v l) (hl : l.length = 8) :
    Calls Tryz.prog 137 #[stV s, v] w fun e w' => e = .returned (stV (inF s l)) ∧ Below w.heap.size w w' := by
  obtain ⟨A, c, rfl⟩ : ∃ A c, v = .slice A 8 c := by obtain ⟨A, c, e, _⟩ := id h; exact ⟨A, c, by rw [e, hl]⟩
  have hB : Blk ((w.alloc (.cells (stC s) 24)).alloc (.cells zC 24)) w.heap.size 24 (stC s) := Blk.alloc (Blk.new rfl) _
  have hZ : Blk ((w.alloc (.cells (stC s) 24)).alloc (.cells zC 24)) (w.heap.size + 1) 24 zC := Blk.new (by simp)
  have hb : Below w.heap.size w ((w.alloc (.cells (stC s) 24)).alloc (.cells zC 24)) := bl_alloc (bl_alloc (Below.refl _ _) _) _
  obtain ⟨A1, c1, s1, b1⟩ := h.cut_l 4 4 rfl (by omega)
  rw [hl] at s1 b1
  replace s1 : ∀ W, (Instr.slice 29 (.slice A 8 c) (some (.int .i64 4)) none none).run Tryz.prog W = .ok (.slice A1 4 c1) W := s1
  replace b1 : Bs lo w.heap.size w (.slice A1 4 c1) (l.drop 4) := b1
  have n0 := fun W' (hb : Below w.heap.size w W') => number_any _ _ _ _ W' (h.below hb (Nat.le_refl _)) (by omega)
  have n1 := fun W' (hb : Below w.heap.size w W') => number_any _ _ _ _ W' (b1.below hb (Nat.le_refl _)) (by rw [List.length_drop]; omega)
  have hp := fun S W' (hb : Below w.heap.size w W') => perm_any S W' (ht.below hb (Nat.le_refl _))
  have hL : inF s l = permF ⟨s.a ^^^ four l, s.b ^^^ four (l.drop 4), s.c, s.d⟩ := by
    unfold inF; rw [four_take4, four_take4]
  obtain ⟨x0, e0⟩ : ∃ x, x = four l := ⟨_, rfl⟩
  obtain ⟨x1, e1⟩ : ∃ x, x = four (l.drop 4) := ⟨_, rfl⟩
  rw [← e0] at n0; rw [← e1] at n1; rw [← e0, ← e1] at hL
  clear h b1 e0 e1 hl
  obtain ⟨a, b, c', d⟩ := s
  replace n0 := hide n0; replace n1 := hide n1; replace hp := hide hp; replace hL := hide hL; replace hB := hide hB; replace hZ := hide hZ; replace hb := hide hb; replace ht := hide ht
  go_enter Tryz.func137, Tryz.ntmps137
  go_upto_region 1 with (fail)
  generalize hW : World.alloc (World.alloc w _) _ = W at *
  clear hW
  have c0 : W.cell? ⟨w.heap.size, 0, none⟩ = some (u32v a) := (unhide hB).cell 0
  have f0 : W.frozen? ⟨w.heap.size, 0, none⟩ = false := (unhide hB).frozen 0
  go_region_law (first
    | (go_simp; go_at_call 106; refine (unhide n0 _ (unhide hb).drew).mono ?_; rintro e w1 ⟨rfl, m1, rfl⟩))
  all_goals
    have B1 : Blk ((W.drewN (1 + m1)).setCell ⟨w.heap.size, 0, none⟩ (.int .u32 (n32 (a ^^^ x0)))) w.heap.size 24 (stC ⟨a ^^^ x0, b, c', d⟩) := ((unhide hB).drewN _).set 0 _
    have Z1 : Blk ((W.drewN (1 + m1)).setCell ⟨w.heap.size, 0, none⟩ (.int .u32 (n32 (a ^^^ x0)))) (w.heap.size + 1) 24 zC := ((unhide hZ).drewN _).far (by simp) _
    have b1 : Below w.heap.size w ((W.drewN (1 + m1)).setCell ⟨w.heap.size, 0, none⟩ (.int .u32 (n32 (a ^^^ x0)))) := (below_drewN (unhide hb) _).setCell (Nat.le_refl _) _
    generalize (W.drewN (1 + m1)).setCell ⟨w.heap.size, 0, none⟩ (.int .u32 (n32 (a ^^^ x0))) = W1 at *
    have c1 : W1.cell? ⟨w.heap.size, 1, none⟩ = some (u32v b) := B1.cell 1
    have f1 : W1.frozen? ⟨w.heap.size, 1, none⟩ = false := B1.frozen 1
    replace B1 := hide B1; replace Z1 := hide Z1; replace b1 := hide b1
    clear c0 f0
    go_upto_region 2 with (fail)
    go_region_law (first
      | (go_simp; go_at_call 106; refine (unhide n1 _ (unhide b1).drew).mono ?_; rintro e w1 ⟨rfl, m2, rfl⟩))
  all_goals
    have B2 : Blk ((W1.drewN (1 + m2)).setCell ⟨w.heap.size, 1, none⟩ (.int .u32 (n32 (b ^^^ x1)))) w.heap.size 24 (stC ⟨a ^^^ x0, b ^^^ x1, c', d⟩) := ((unhide B1).drewN _).set 1 _
    have Z2 : Blk ((W1.drewN (1 + m2)).setCell ⟨w.heap.size, 1, none⟩ (.int .u32 (n32 (b ^^^ x1)))) (w.heap.size + 1) 24 zC := ((unhide Z1).drewN _).far (by simp) _
    have b2 : Below w.heap.size w ((W1.drewN (1 + m2)).setCell ⟨w.heap.size, 1, none⟩ (.int .u32 (n32 (b ^^^ x1)))) := (below_drewN (unhide b1) _).setCell (Nat.le_refl _) _
    generalize (W1.drewN (1 + m2)).setCell ⟨w.heap.size, 1, none⟩ (.int .u32 (n32 (b ^^^ x1))) = W2 at *
    obtain ⟨S, hS⟩ : ∃ S : St, S = ⟨a ^^^ x0, b ^^^ x1, c', d⟩ := ⟨_, rfl⟩
    have hL' := unhide hL
    simp only [] at hL'
    rw [← hS] at B2 hL'
    have hcall := unhide hp S W2 b2
    have l2 := Z2.lt
    have l0 := B2.lt
    replace hL' := hide hL'
    clear hS c1 f1
    replace B2 := hide B2; replace Z2 := hide Z2; replace b2 := hide b2; replace hcall := hide hcall
    go_wp2_with (first
      | (refine wpList_load_row rfl 24 (.tmp 2) rfl w.heap.size rfl 24 (stC S) (0, 0) _ (unhide B2) Tryz.underlying24 rfl size24 ?_)
      | (go_at_call 136; refine (unhide hcall).mono ?_; rintro e w3 ⟨rfl, hb3⟩; have Z3 := Blk.below (unhide Z2) hb3 l2; have b3 := bl_call (unhide b2) hb3; replace Z3 := hide Z3; replace b3 := hide b3)
      | (refine wpList_store_row rfl 24 (.tmp 4) (.tmp 19) rfl (w.heap.size + 1) (stC _) rfl rfl 24 zC (unhide Z3) size24 rfl (stC_one _) ?_)
      | fail)
    exact bodyPost_ret (v := stV _) (results_cell_row Tryz.results137 _ _ _ _ _ (0, 0) _ rfl ((unhide Z3).row _) Tryz.underlying24 rfl size24) rfl ⟨by rw [unhide hL'], bl_row (unhide b3) _ (by omega)⟩
end
end Go.Proofs.YthkccpemgmpadaaGreatDoor

namespace Go.Proofs.YthkccpemgmpadaaGreatDoor
set_option maxRecDepth 100000
open Go.RowKit
theorem pad_cells {l : List UInt8} (hl : l.length < 8) : (splice (List.replicate 8 (Value.int .u8 0)) 0 (l.map u8v)).toArray.setIfInBounds l.length (.int .u8 128) = ((padF l).map u8v).toArray := by
  have e : l.length % 8 = l.length := Nat.mod_eq_of_lt hl
  rw [List.setIfInBounds_toArray]
  congr 1
  unfold splice padF
  simp only [List.take_zero, List.nil_append, List.length_map, Nat.zero_add, List.map_append, List.map_cons, List.map_replicate, e, List.drop_replicate]
  rw [List.set_append_right _ _ (by simp)]
  congr 1
  rw [List.length_map, Nat.sub_self]
  have : 8 - l.length = (7 - l.length) + 1 := by omega
  rw [this, List.replicate_succ]
  rfl
theorem pad_zero {l : List UInt8} (hl : l.length < 8) : (splice (List.replicate 8 (Value.int .u8 0)) 0 (l.map u8v)).toArray[l.length]? = some (.int .u8 0) := by
  unfold splice
  simp only [List.take_zero, List.nil_append, List.length_map, Nat.zero_add, List.drop_replicate]
  rw [List.getElem?_toArray, List.getElem?_append_right (by simp), List.length_map, Nat.sub_self, List.getElem?_replicate, if_pos (by omega)]
theorem absorb_last {s : St} {l : List UInt8} (hl : l.length < 8) : absorbF s l = inF s (padF l) := by
  unfold absorbF
  have : l.length / 8 + 1 = 1 := by omega
  rw [this]; rfl
theorem pad_len8 {l : List UInt8} (hl : l.length < 8) : (padF l).length = 8 := by rw [pad_len]; omega
theorem Bs.of_blk {w : World} {g n : Nat} {t : TypeId} {l : List UInt8} (h : Blk w g t (l.map u8v).toArray) (hn : n = l.length) (h63 : n ≤ 1000000) : Bs 0 w.heap.size w (.slice (some ⟨g, 0, none⟩) n n) l := by
  subst hn
  refine ⟨_, _, rfl, Nat.le_refl _, by omega, fun _ => ⟨g, 0, rfl, Nat.zero_le _, h.lt, fun i hi => ?_⟩⟩
  rw [h.cell]
  simp [hi]
set_option maxHeartbeats 1000000 in
theorem Absorb_good (lo : Nat) (s : St) (v : Value) (l : List UInt8) (w : World) (ht : Tab w) (h : Bs lo w.heap.size w v l) (hl : l.length ≤ 131072) :
    Calls Tryz.prog 124 #[stV s, v] w fun e w' => e = .returned (.tuple #[stV (absorbF s l), .int .i64 0]) ∧ Below w.heap.size w w' := by
  obtain ⟨A, c, rfl⟩ : ∃ A c, v = .slice A l.length c := by obtain ⟨A, c, e, _⟩ := id h; exact ⟨A, c, e⟩
  have hB : Blk ((w.alloc (.cells (stC s) 24)).alloc (.cells zC 24)) w.heap.size 24 (stC s) := Blk.alloc (Blk.new rfl) _
  have hZ : Blk ((w.alloc (.cells (stC s) 24)).alloc (.cells zC 24)) (w.heap.size + 1) 24 zC := Blk.new (by simp)
  have hb : Below w.heap.size w ((w.alloc (.cells (stC s) 24)).alloc (.cells zC 24)) := bl_alloc (bl_alloc (Below.refl _ _) _) _
  have hp := fun S v l' W' (hb : Below w.heap.size w W') (h : Bs lo w.heap.size w v l') (hl : l'.length = 8) => takeIn_any lo S v l' W' (ht.below hb (Nat.le_refl _)) ((h.below hb (Nat.le_refl _)).mono (Nat.le_refl _) hb.size) hl
  have hp2 := fun S v l' W' (hb : Below w.heap.size w W') (h : Bs 0 W'.heap.size W' v l') (hl : l'.length = 8) => takeIn_any 0 S v l' W' (ht.below hb (Nat.le_refl _)) h hl
  have h1 : (l.length : Int) ≤ 131072 := by omega
  replace hB := hide hB; replace hZ := hide hZ; replace hb := hide hb; replace hp := hide hp; replace hp2 := hide hp2; replace h := hide h
  go_enter Tryz.func124, Tryz.ntmps124
  go_upto_region 1 with (fail)
  generalize hW : World.alloc (World.alloc w _) _ = W at *
  clear hW
  go_wp2
  go_loopw [1] (fun v wr => ∃ S l' A c, v = .slice A l'.length c ∧ l'.length ≤ 131072 ∧ Hid (Bs lo w.heap.size w (.slice A l'.length c) l') ∧ Hid (absorbF S l' = absorbF s l) ∧ Hid (Blk wr w.heap.size 24 (stC S)) ∧ Hid (Blk wr (w.heap.size + 1) 24 zC) ∧ Hid (Below w.heap.size w wr)) (fun v _ => (match v with | .slice _ n _ => n | _ => 0))
  case atStart => exact ⟨s, l, A, c, rfl, hl, h, hide rfl, hB, hZ, hb⟩
  case round =>
    obtain ⟨S, l', A', c', rfl, hl', h', ha, B, Z, b⟩ := hrel
    by_cases h8 : 8 ≤ l'.length
    · obtain ⟨A1, c1, s1, b1⟩ := (unhide h').cut_h 8 8 rfl h8
      obtain ⟨A2, c2, s2, b2⟩ := (unhide h').cut_l 8 8 rfl h8
      have hq := fun W' (hb : Below w.heap.size w W') => unhide hp S _ _ W' hb b1 (by rw [List.length_take]; omega)
      have hin : inF S (l'.take 8) = inF S l' := inF_take
      have hab : absorbF (inF S l') (l'.drop 8) = absorbF s l := by rw [← absorb_blocks h8]; exact unhide ha
      have hdl : (l'.drop 8).length = l'.length - 8 := by rw [List.length_drop]
      rw [hin] at hq
      have k8 : (8 : Int) ≤ (l'.length : Int) := by omega
      have l0 := (unhide B).lt
      have l1 := (unhide Z).lt
      have c0 : wr.cell? ⟨w.heap.size, 0, none⟩ = some (u32v S.a) := (unhide B).cell 0
      have c1 : wr.cell? ⟨w.heap.size, 1, none⟩ = some (u32v S.b) := (unhide B).cell 1
      have c2 : wr.cell? ⟨w.heap.size, 2, none⟩ = some (u32v S.c) := (unhide B).cell 2
      have c3 : wr.cell? ⟨w.heap.size, 3, none⟩ = some (u32v S.d) := (unhide B).cell 3
      generalize inF S l' = S' at *
      generalize hl2 : l'.drop 8 = l2 at *
      rw [← hdl] at s2 b2
      have hlt : l2.length < l'.length := by omega
      replace hq := hide hq; replace b2 := hide b2; replace hab := hide hab; replace hlt := hide hlt
      clear hin ha h' b1 hl2 hdl
      go_upto_region 4 with (fail)
      go_region_law (first
        | (go_simp; go_at_call 137; refine (unhide hq _ (unhide b).drew).mono ?_; rintro e w1 ⟨rfl, hb1⟩
           have B1 : Blk w1 w.heap.size 24 (stC S) := Blk.below ((unhide B).drew) hb1 l0
           have Z1 : Blk w1 (w.heap.size + 1) 24 zC := Blk.below ((unhide Z).drew) hb1 l1
           have bb : Below w.heap.size w w1 := bl_call (unhide b).drew hb1
           have d0 : w1.cell? ⟨w.heap.size, 0, none⟩ = some (u32v S.a) := B1.cell 0
           have d1 : w1.cell? ⟨w.heap.size, 1, none⟩ = some (u32v S.b) := B1.cell 1
           have d2 : w1.cell? ⟨w.heap.size, 2, none⟩ = some (u32v S.c) := B1.cell 2
           have d3 : w1.cell? ⟨w.heap.size, 3, none⟩ = some (u32v S.d) := B1.cell 3
           have f0 : w1.frozen? ⟨w.heap.size, 0, none⟩ = false := B1.frozen 0
           have f1 : w1.frozen? ⟨w.heap.size, 1, none⟩ = false := B1.frozen 1
           have f2 : w1.frozen? ⟨w.heap.size, 2, none⟩ = false := B1.frozen 2
           have f3 : w1.frozen? ⟨w.heap.size, 3, none⟩ = false := B1.frozen 3
           replace B1 := hide B1; replace Z1 := hide Z1; replace bb := hide bb))
      have B2 : Blk _ w.heap.size 24 (stC S') := Blk.set4 (x := u32v S'.a) (y := u32v S'.b) (z := u32v S'.c) (u := u32v S'.d) (unhide B1)
      have Z2 : Blk ((((w1.setCell ⟨w.heap.size, 0, none⟩ (u32v S'.a)).setCell ⟨w.heap.size, 1, none⟩ (u32v S'.b)).setCell ⟨w.heap.size, 2, none⟩ (u32v S'.c)).setCell ⟨w.heap.size, 3, none⟩ (u32v S'.d)) (w.heap.size + 1) 24 zC := ((((unhide Z1).far (by simp) _).far (by simp) _).far (by simp) _).far (by simp) _
      have bb2 : Below w.heap.size w _ := below_set4 (x := u32v S'.a) (y := u32v S'.b) (z := u32v S'.c) (u := u32v S'.d) (unhide bb) (Nat.le_refl _)
      replace B2 := hide B2; replace Z2 := hide Z2; replace bb2 := hide bb2
      generalize (((w1.setCell ⟨w.heap.size, 0, none⟩ (u32v S'.a)).setCell ⟨w.heap.size, 1, none⟩ (u32v S'.b)).setCell ⟨w.heap.size, 2, none⟩ (u32v S'.c)).setCell ⟨w.heap.size, 3, none⟩ (u32v S'.d) = w2 at *
      clear c0 c1 c2 c3 d0 d1 d2 d3 f0 f1 f2 f3
      go_wp2
      go_roundw
      case rel => exact ⟨S', l2, _, _, rfl, by have := unhide hlt; omega, b2, hab, B2, Z2, bb2⟩
      case measure => exact unhide hlt
    · have hl8 : l'.length < 8 := by omega
      have hS := absorb_last (s := S) hl8
      have hab : inF S (padF l') = absorbF s l := by rw [← hS]; exact unhide ha
      have hpl := pad_len8 hl8
      have hpc := pad_cells hl8
      have k8 : (l'.length : Int) < 8 := by omega
      have hG : Blk (wr.alloc (.cells (List.replicate 8 (Value.int .u8 0)).toArray 165)) wr.heap.size 165 (List.replicate 8 (Value.int .u8 0)).toArray := Blk.new rfl
      have hb0 : Below w.heap.size w (wr.alloc (.cells (List.replicate 8 (Value.int .u8 0)).toArray 165)) := bl_alloc (unhide b) _
      have hB0 := (unhide B).alloc (.cells (List.replicate 8 (Value.int .u8 0)).toArray 165)
      have hZ0 := (unhide Z).alloc (.cells (List.replicate 8 (Value.int .u8 0)).toArray 165)
      have hsrc : SrcOk (wr.alloc (.cells (List.replicate 8 (Value.int .u8 0)).toArray 165)) A' (l'.map u8v).length (l'.map u8v) := by rw [List.length_map]; exact ((unhide h').below hb0 (Nat.le_refl _)).src.2
      have hm : l'.length = Nat.min l'.length 8 := (Nat.min_eq_left (by omega)).symm
      have hml : (l'.map u8v).length = l'.length * 1 := by simp
      have hfit : 0 + (l'.map u8v).length ≤ (List.replicate 8 (Value.int .u8 0)).length := by simp; omega
      have ho := u8s_one l'
      have hpz := pad_zero hl8
      have hgw : w.heap.size + 1 < wr.heap.size := (unhide Z).lt
      replace hab := hide hab; replace hpc := hide hpc; replace hpl := hide hpl; replace hsrc := hide hsrc; replace hG := hide hG; replace hb0 := hide hb0; replace hB0 := hide hB0; replace hZ0 := hide hZ0; replace hm := hide hm; replace hml := hide hml; replace hfit := hide hfit; replace ho := hide ho; replace hpz := hide hpz
      clear hS ha h8
      go_upto_region 7 with (fail)
      go_wp2_with (first
        | (refine wpList_copyN rfl (.tmp 21) (.tmp 22) 29 29 rfl 5 1 Tryz.underlying29 (by kernel_rfl) (some ⟨wr.heap.size, 0, none⟩) A' 8 8 l'.length c' rfl rfl wr.heap.size 0 (List.replicate 8 (Value.int .u8 0)) 165 (unhide hG) (l'.map u8v) l'.length (unhide hm) (unhide hml) (fun _ => ⟨rfl, unhide hsrc⟩) (unhide hfit) (unhide ho) ?_
           intro w5 hG5 hO5
           have c5 : w5.cell? ⟨wr.heap.size, l'.length, none⟩ = some (.int .u8 0) := ((unhide hG5).cell l'.length).trans (unhide hpz)
           have f5 : w5.frozen? ⟨wr.heap.size, l'.length, none⟩ = false := (unhide hG5).frozen _)
        | fail)
      have hG6 : Blk (w5.setCell ⟨wr.heap.size, l'.length, none⟩ (.int .u8 128)) wr.heap.size 165 ((padF l').map u8v).toArray := by rw [← unhide hpc]; exact (unhide hG5).set l'.length _
      have hB6 := (Blk.only (unhide hB0) hO5 (by omega)).far (p := ⟨wr.heap.size, l'.length, none⟩) (show w.heap.size ≠ wr.heap.size by omega) (.int .u8 128)
      have hZ6 := (Blk.only (unhide hZ0) hO5 (by omega)).far (p := ⟨wr.heap.size, l'.length, none⟩) (show w.heap.size + 1 ≠ wr.heap.size by omega) (.int .u8 128)
      have hb6 : Below w.heap.size w (w5.setCell ⟨wr.heap.size, l'.length, none⟩ (.int .u8 128)) := ((unhide hb0).trans (hO5.below (by omega))).setCell (by simp; omega) _
      generalize w5.setCell ⟨wr.heap.size, l'.length, none⟩ (.int .u8 128) = w6 at *
      have hbs : Bs 0 w6.heap.size w6 (.slice (some ⟨wr.heap.size, 0, none⟩) 8 8) (padF l') := Bs.of_blk hG6 (unhide hpl).symm (by omega)
      have hq := fun W' (hb : Below w.heap.size w W') (hb' : Below w6.heap.size w6 W') => unhide hp2 S _ _ W' hb ((hbs.below hb' (Nat.le_refl _)).mono (Nat.le_refl _) hb'.size) (unhide hpl)
      rw [unhide hab] at hq
      have l0 := hB6.lt
      have l1 := hZ6.lt
      have c0 : w6.cell? ⟨w.heap.size, 0, none⟩ = some (u32v S.a) := hB6.cell 0
      have c1 : w6.cell? ⟨w.heap.size, 1, none⟩ = some (u32v S.b) := hB6.cell 1
      have c2 : w6.cell? ⟨w.heap.size, 2, none⟩ = some (u32v S.c) := hB6.cell 2
      have c3 : w6.cell? ⟨w.heap.size, 3, none⟩ = some (u32v S.d) := hB6.cell 3
      obtain ⟨S', hS'⟩ : ∃ S', S' = absorbF s l := ⟨_, rfl⟩
      rw [← hS'] at hq
      replace hS' := hide hS'
      generalize wr.heap.size = g6 at *
      replace hq := hide hq; replace hZ6 := hide hZ6; replace hb6 := hide hb6
      clear hbs hG6 hB6 c5 f5 hO5 hG5 hsrc hG hb0 hB0 hZ0 hpz hpc hml hm hfit ho hab hpl
      go_region_law (first
        | (go_simp; go_at_call 137; refine (unhide hq _ (unhide hb6).drew (Below.refl _ _).drew).mono ?_; rintro e w7 ⟨rfl, hb7⟩
           have Z7 : Blk w7 (w.heap.size + 1) 24 zC := Blk.below ((unhide hZ6).drew) hb7 l1
           have bb : Below w.heap.size w w7 := bl_call (unhide hb6).drew hb7
           have d0 : w7.cell? ⟨w.heap.size + 1, 0, none⟩ = some (.int .u32 0) := Z7.cell 0
           have d1 : w7.cell? ⟨w.heap.size + 1, 1, none⟩ = some (.int .u32 0) := Z7.cell 1
           have d2 : w7.cell? ⟨w.heap.size + 1, 2, none⟩ = some (.int .u32 0) := Z7.cell 2
           have d3 : w7.cell? ⟨w.heap.size + 1, 3, none⟩ = some (.int .u32 0) := Z7.cell 3
           have f0 : w7.frozen? ⟨w.heap.size + 1, 0, none⟩ = false := Z7.frozen 0
           have f1 : w7.frozen? ⟨w.heap.size + 1, 1, none⟩ = false := Z7.frozen 1
           have f2 : w7.frozen? ⟨w.heap.size + 1, 2, none⟩ = false := Z7.frozen 2
           have f3 : w7.frozen? ⟨w.heap.size + 1, 3, none⟩ = false := Z7.frozen 3
           replace Z7 := hide Z7; replace bb := hide bb))
      all_goals
        have Z8 : Blk _ (w.heap.size + 1) 24 (stC S') := Blk.set4 (x := u32v S'.a) (y := u32v S'.b) (z := u32v S'.c) (u := u32v S'.d) (unhide Z7)
        have bb8 : Below w.heap.size w _ := below_set4 (g := w.heap.size + 1) (x := u32v S'.a) (y := u32v S'.b) (z := u32v S'.c) (u := u32v S'.d) (unhide bb) (by omega)
        replace Z8 := hide Z8; replace bb8 := hide bb8
        go_wp2_with (fail)
        exact ret_st2 rfl (w.heap.size + 1) S' (.int .i64 0) rfl rfl (unhide Z8) rfl ⟨by rw [unhide hS'], unhide bb8⟩
end Go.Proofs.YthkccpemgmpadaaGreatDoor

namespace Go.Proofs.YthkccpemgmpadaaGreatDoor
set_option maxRecDepth 100000
open Go.RowKit
def padI (l : List UInt8) (i : Nat) : List UInt8 := l ++ 128 :: List.replicate i 0
theorem padI_len (l : List UInt8) (i : Nat) : (padI l i).length = l.length + 1 + i := by simp [padI]; omega
theorem padI_succ (l : List UInt8) (i : Nat) : padI l i ++ [0] = padI l (i + 1) := by
  unfold padI
  rw [List.append_assoc, List.cons_append, ← List.replicate_succ']
theorem one_src (w : World) (x : UInt8) : SrcOk (w.alloc (.cells #[u8v x] 5)) (some ⟨w.heap.size, 0, none⟩) 1 ([x].map u8v) := fun _ => by
  refine ⟨_, rfl, fun j u hu => ?_⟩
  rw [add_none, (Blk.new (w := w) (t := 5) (cs := #[u8v x]) rfl).cell, Nat.zero_add]
  simpa using hu
theorem one_src0 (w : World) : SrcOk (w.alloc (.cells #[.int .u8 0] 5)) (some ⟨w.heap.size, 0, none⟩) 1 (([0] : List UInt8).map u8v) := one_src w 0
theorem one_src128 (w : World) : SrcOk (w.alloc (.cells #[.int .u8 128] 5)) (some ⟨w.heap.size, 0, none⟩) 1 (([128] : List UInt8).map u8v) := one_src w 128
theorem Agree.setCell {lo hi : Nat} {a w : World} (h : Agree lo hi a w) {p : Addr} (hp : p.block < lo) (u : Value) : Agree lo hi a (w.setCell p u) := fun k h1 h2 => (Below.heap_setCell w p u k (by omega)).trans (h k h1 h2)
theorem own_row_lt {w : World} {base g : Nat} {e : TypeId} {size : Nat} {v : Value} {n : Nat} {xs : List Value} (h : w.ownsRow base e size v n xs) (C : Array Value) (hg : g < base) : (w.setRow g C).ownsRow base e size v n xs := by
  obtain ⟨h1, h2⟩ := h
  refine ⟨h1, ?_⟩
  rcases h2 with h2 | ⟨g', cap, cur, hv, hb, hh, r⟩
  · exact .inl h2
  · exact .inr ⟨g', cap, cur, hv, hb, (setRow_other w g g' C (by omega)).trans hh, r⟩
section
attribute [local go_sem] r_xor
set_option maxHeartbeats 1000000 in
theorem AbsorbR_good (lo : Nat) (s : St) (v : Value) (l : List UInt8) (w : World) (h : Bs lo w.heap.size w v l) (hl : l.length ≤ 131072) :
    Calls Tryz.prog 77 #[stV s, v] w fun e w' => e = .returned (.tuple #[stV (absorbF s l), .int .i64 0]) ∧ Below w.heap.size w w' := by
  obtain ⟨i0, hi0, hz0, hz1, hz2⟩ := info_parts info5
  obtain ⟨A, c, rfl⟩ : ∃ A c, v = .slice A l.length c := by obtain ⟨A, c, e, _⟩ := id h; exact ⟨A, c, e⟩
  have hB : Blk ((w.alloc (.cells (stC s) 24)).alloc (.cells zC 24)) w.heap.size 24 (stC s) := Blk.alloc (Blk.new rfl) _
  have hZ : Blk ((w.alloc (.cells (stC s) 24)).alloc (.cells zC 24)) (w.heap.size + 1) 24 zC := Blk.new (by simp)
  have hb : Below w.heap.size w ((w.alloc (.cells (stC s) 24)).alloc (.cells zC 24)) := bl_alloc (bl_alloc (Below.refl _ _) _) _
  have hsz : ((w.alloc (.cells (stC s) 24)).alloc (.cells zC 24)).heap.size = w.heap.size + 2 := by simp
  have hsrc := (h.below hb (Nat.le_refl _)).src.2
  have h1 : (l.length : Int) ≤ 131072 := by omega
  have hl1 : (l.map u8v).length = l.length * 1 := by simp
  have ho1 := u8s_one l
  have ho2 := u8s_one [128]
  have ho3 := u8s_one [0]
  have b1 : 0 + l.length ≤ maxLen := by simp only [maxLen]; omega
  have b2 : (0 + l.length) * 1 ≤ 140737488355328 := by omega
  have b3 : l.length + 1 ≤ maxLen := by simp only [maxLen]; omega
  have b4 : (l.length + 1) * 1 ≤ 140737488355328 := by omega
  replace hB := hide hB; replace hZ := hide hZ; replace hb := hide hb; replace hsrc := hide hsrc; replace hsz := hide hsz
  replace hl1 := hide hl1; replace ho1 := hide ho1; replace ho2 := hide ho2; replace ho3 := hide ho3; replace b1 := hide b1; replace b2 := hide b2; replace b3 := hide b3; replace b4 := hide b4
  clear h
  go_enter Tryz.func77, Tryz.ntmps77
  go_upto_region 3 with (fail)
  generalize hW : World.alloc (World.alloc w _) _ = W at *
  clear hW
  have tok1 : True := trivial
  go_wp2_with (first
    | (at_builtin
       have _t := tok1
       refine wpList_app _ rfl (.const (.slice none 0 0)) (.tmp 12) 29 rfl (w.heap.size + 2) 5 i0 _ 1 1 Tryz.underlying29 hi0 hz0 hz1 hz2 rfl (Nat.succ_pos _) _ 0 [] rfl (World.ownsRow_nil _ _ _ _) A l.length c (l.map u8v) rfl (unhide hl1) (unhide hsrc) (unhide ho1) (unhide b1) (unhide b2) (Nat.le_of_eq (unhide hsz).symm) ?_
       intro v1 w1 hown1 hg1
       have hb1 : Below W.heap.size W w1 := (Below.refl _ _).grown hg1 (Nat.le_refl _) (by intro k hk; simp [Act.eval, Value.ownBlock] at hk)
       rw [Nat.zero_add, List.nil_append] at hown1
       obtain ⟨A1, c1, rfl⟩ := ownsRow_form hown1
       have hs1 : w.heap.size + 2 ≤ w1.heap.size := Nat.le_trans (Nat.le_of_eq (unhide hsz).symm) hb1.size
       replace hown1 := hide hown1; replace hb1 := hide hb1; replace hs1 := hide hs1
       clear tok1 _t hg1)
    | (at_builtin
       refine wpList_app _ rfl (.tmp 13) (.tmp 14) 29 rfl (w.heap.size + 2) 5 i0 _ 1 1 Tryz.underlying29 hi0 hz0 hz1 hz2 rfl (Nat.succ_pos _) _ l.length (l.map u8v) rfl ((unhide hown1).alloc _) (some ⟨w1.heap.size, 0, none⟩) 1 1 (([128] : List UInt8).map u8v) rfl rfl (one_src128 w1) (unhide ho2) (unhide b3) (unhide b4) (le_alloc (unhide hs1)) ?_
       intro v2 w2 hown2 hg2
       have hb2 : Below (w.heap.size + 2) w1 w2 := bl_app (unhide hs1) (unhide hown1) hg2
       have o2 : OwnB w2 (w.heap.size + 2) v2 (padI l 0) := own_app hown2 (by simp)
       obtain ⟨A2, c2, rfl⟩ := o2.form
       clear hown2 hg2
       replace o2 := hide o2; replace hb2 := hide hb2)
    | fail)
  have B2 : Blk w2 w.heap.size 24 (stC s) := Blk.below (Blk.below (unhide hB) (unhide hb1) (unhide hB).lt) (unhide hb2) (by omega)
  have Z2 : Blk w2 (w.heap.size + 1) 24 zC := Blk.below (Blk.below (unhide hZ) (unhide hb1) (unhide hZ).lt) (unhide hb2) (by omega)
  have b2' : Below w.heap.size w w2 := (bl_call (unhide hb) (unhide hb1)).trans ((unhide hb2).mono (by omega))
  have hs2 : w.heap.size + 2 ≤ w2.heap.size := Nat.le_trans (unhide hs1) (unhide hb2).size
  replace B2 := hide B2; replace Z2 := hide Z2; replace b2' := hide b2'; replace hs2 := hide hs2
  clear hB hZ hb hsrc hl1 ho1 ho2 b1 b2 b3 b4 hown1 hb1 hs1 hb2 hsz
  go_loopw [6] (fun v wr => ∃ i n A c, v = .slice A n c ∧ Hid (n = l.length + 1 + i) ∧ Hid (i ≤ 7 - l.length % 8) ∧ Hid (OwnB wr (w.heap.size + 2) (.slice A n c) (padI l i)) ∧ Hid (Blk wr w.heap.size 24 (stC s)) ∧ Hid (Blk wr (w.heap.size + 1) 24 zC) ∧ Hid (Below w.heap.size w wr) ∧ Hid (w.heap.size + 2 ≤ wr.heap.size)) (fun v _ => (match v with | .slice _ n _ => l.length + 8 - n | _ => 0))
  case atStart => exact ⟨0, _, _, _, rfl, hide (padI_len l 0), hide (Nat.zero_le _), o2, B2, Z2, b2', hs2⟩
  case round =>
    obtain ⟨i, n, A3, c3, rfl, hn, hi, o3, B3, Z3, b3', hs3⟩ := hrel
    by_cases h7 : i < 7 - l.length % 8
    · have hne : ((n : Int) % 8 != 0) = true := by have := unhide hn; rw [bne_iff_ne]; omega
      have hpl := padI_len l i
      have hz3 : (padI l i).length + 1 ≤ maxLen := by rw [hpl]; simp only [maxLen]; omega
      have hz4 : ((padI l i).length + 1) * 1 ≤ 140737488355328 := by rw [hpl]; omega
      have hn1 : n + 1 = l.length + 1 + (i + 1) := by have := unhide hn; omega
      have hnp : (padI l i).length = n := by rw [hpl]; exact (unhide hn).symm
      rw [hnp] at hz3 hz4
      have o3' : wr.ownsRow (w.heap.size + 2) 5 1 (.slice A3 n c3) n ((padI l i).map u8v) := by have := unhide o3; unfold OwnB at this; rw [hnp] at this; exact this
      have hm : l.length + 8 - (n + 1) < l.length + 8 - n := by have := unhide hn; omega
      replace hz3 := hide hz3; replace hz4 := hide hz4; replace hn1 := hide hn1; replace hnp := hide hnp; replace o3' := hide o3'; replace hm := hide hm; replace h7 := hide h7
      clear hpl o3
      go_wp2_with (first
        | (at_builtin
           refine wpList_app _ rfl (.tmp 20) (.tmp 21) 29 rfl (w.heap.size + 2) 5 i0 _ 1 1 Tryz.underlying29 hi0 hz0 hz1 hz2 rfl (Nat.succ_pos _) _ n ((padI l i).map u8v) rfl ((unhide o3').alloc _) (some ⟨wr.heap.size, 0, none⟩) 1 1 (([0] : List UInt8).map u8v) rfl rfl (one_src0 wr) (unhide ho3) (unhide hz3) (unhide hz4) (le_alloc (unhide hs3)) ?_
           intro v4 w4 hown4 hg4
           have hb4 : Below (w.heap.size + 2) wr w4 := bl_app (unhide hs3) (unhide o3') hg4
           rw [← List.map_append, padI_succ] at hown4
           obtain ⟨A4, c4, rfl⟩ := ownsRow_form hown4
           have B4 : Blk w4 w.heap.size 24 (stC s) := Blk.below (unhide B3) hb4 (by omega)
           have Z4 : Blk w4 (w.heap.size + 1) 24 zC := Blk.below (unhide Z3) hb4 (by omega)
           have b4 : Below w.heap.size w w4 := (unhide b3').trans (hb4.mono (by omega))
           have hs4 : w.heap.size + 2 ≤ w4.heap.size := Nat.le_trans (unhide hs3) hb4.size
           clear hg4 hb4
           replace hown4 := hide hown4; replace B4 := hide B4; replace Z4 := hide Z4; replace b4 := hide b4; replace hs4 := hide hs4)
        | fail)
      go_roundw
      case rel =>
        refine ⟨i + 1, n + 1, A4, c4, rfl, hn1, hide (by have := unhide h7; omega), hide ?_, B4, Z4, b4, hs4⟩
        have := unhide hown4
        have e : n + 1 = (padI l (i + 1)).length := by rw [padI_len]; exact unhide hn1
        unfold OwnB
        rw [← e]
        exact this
      case measure => exact unhide hm
    · have he : ((n : Int) % 8 != 0) = false := by have := unhide hn; have := unhide hi; rw [bne_eq_false_iff_eq]; omega
      have hie : i = 7 - l.length % 8 := by have := unhide hi; omega
      subst hie
      have hTl := pad_len l
      have hF : absF (l.length / 8 + 1) s (padF l) = absorbF s l := rfl
      have o4 : OwnB wr (w.heap.size + 2) (.slice A3 n c3) (padF l) := unhide o3
      have hnT : n = (padF l).length := by rw [hTl]; have := unhide hn; omega
      obtain ⟨T, hT⟩ : ∃ T, T = padF l := ⟨_, rfl⟩
      obtain ⟨N, hN⟩ : ∃ N, N = l.length / 8 + 1 := ⟨_, rfl⟩
      rw [← hN] at hF hTl
      rw [← hT] at hF hTl o4 hnT
      obtain ⟨F, hFe⟩ : ∃ F, F = absorbF s l := ⟨_, rfl⟩
      rw [← hFe] at hF
      have hN1 : N ≤ 16385 := by omega
      have hnN : n = N * 8 := by rw [hnT, hTl]
      unfold OwnB at o4
      rw [← hnT] at o4
      replace hF := hide hF; replace hFe := hide hFe; replace o4 := hide o4; replace hnT := hide hnT; replace hnN := hide hnN
      clear hT hN hTl o3 hn hi
      go_wp2_with (fail)
      clear he
      go_loopw [7] (fun v wr => ∃ (j k : Nat) (S : St), v = .int .i64 k ∧ j ≤ N ∧ Hid (k = 8 * j) ∧ Hid (absF (N - j) S (T.drop k) = F) ∧ Hid (wr.ownsRow (w.heap.size + 2) 5 1 (.slice A3 n c3) n (T.map u8v)) ∧ Hid (Blk wr w.heap.size 24 (stC S)) ∧ Hid (Blk wr (w.heap.size + 1) 24 zC) ∧ Hid (Below w.heap.size w wr)) (fun v _ => n - (intOf v).toNat)
      case atStart => exact ⟨0, 0, s, rfl, Nat.zero_le _, hide rfl, hide (by rw [List.drop_zero]; exact unhide hF), o4, B3, Z3, b3'⟩
      case round =>
        obtain ⟨j, k, S, rfl, hj, hk, hA, o, B, Z, b⟩ := hrel
        by_cases hlt : j < N
        · have hkn : k + 8 ≤ n := by have := unhide hk; have := unhide hnN; omega
          have k1 : (k : Int) < (n : Int) := by omega
          have k2 : (k : Int) + 4 ≤ (n : Int) := by omega
          have k3 : (k : Int) + 8 ≤ (n : Int) := by omega
          have hnb : n ≤ 200000 := by have := unhide hnN; omega
          have i4 : IntKind.i64.wrap ((k : Int) + 4) = (k : Int) + 4 := IntWalk.i64_in _ (by omega)
          have i8 : IntKind.i64.wrap ((k : Int) + 8) = (k : Int) + 8 := IntWalk.i64_in _ (by omega)
          have hbs : Bs (w.heap.size + 2) wr.heap.size wr (.slice A3 n c3) T := by
            have := unhide o
            rw [unhide hnT] at this ⊢
            exact Bs.of_own this
          obtain ⟨Aa, ca, sa, ba⟩ := hbs.cut_lh k (k + 4) (k : Int) ((k : Int) + 4) rfl (by omega) (by omega) (by rw [← unhide hnT]; omega)
          obtain ⟨Ab, cb, sb, bb⟩ := hbs.cut_lh (k + 4) (k + 8) ((k : Int) + 4) ((k : Int) + 8) (by omega) (by omega) (by omega) (by rw [← unhide hnT]; omega)
          rw [show k + 4 - k = 4 by omega] at sa ba
          rw [show k + 8 - (k + 4) = 4 by omega] at sb bb
          have la : ((T.drop k).take 4).length = 4 := by rw [List.length_take, List.length_drop, ← unhide hnT]; omega
          have lb : ((T.drop (k + 4)).take 4).length = 4 := by rw [List.length_take, List.length_drop, ← unhide hnT]; omega
          have n0 := fun W' (ha : Agree (w.heap.size + 2) wr.heap.size wr W') => fourR_any _ _ _ _ W' (ba.keep ha) (Nat.le_of_eq la.symm)
          have n1 := fun W' (ha : Agree (w.heap.size + 2) wr.heap.size wr W') => fourR_any _ _ _ _ W' (bb.keep ha) (Nat.le_of_eq lb.symm)
          have hst : absF (N - (j + 1)) (permF ⟨S.a ^^^ four ((T.drop k).take 4), S.b ^^^ four ((T.drop (k + 4)).take 4), S.c, S.d⟩) (T.drop (k + 8)) = F := by
            have := unhide hA
            rw [show N - j = (N - (j + 1)) + 1 by omega, absF, List.drop_drop] at this
            unfold inF at this
            rw [List.drop_drop] at this
            exact this
          obtain ⟨x0, e0⟩ : ∃ x, x = four ((T.drop k).take 4) := ⟨_, rfl⟩
          obtain ⟨x1, e1⟩ : ∃ x, x = four ((T.drop (k + 4)).take 4) := ⟨_, rfl⟩
          rw [← e0] at n0 hst; rw [← e1] at n1 hst
          have l0 := (unhide B).lt
          have l1 := (unhide Z).lt
          have c0 : wr.cell? ⟨w.heap.size, 0, none⟩ = some (u32v S.a) := (unhide B).cell 0
          have f0 : wr.frozen? ⟨w.heap.size, 0, none⟩ = false := (unhide B).frozen 0
          obtain ⟨sA, sB, sC, sD⟩ := S
          simp only [] at c0 hst
          replace n0 := hide n0; replace n1 := hide n1; replace hst := hide hst
          clear hbs ba bb la lb e0 e1 hA
          go_upto_region 9 with (fail)
          go_region_law (first
            | (go_simp; go_at_call 76; refine (unhide n0 wr.drew (Agree.refl _ _ wr)).mono ?_; rintro e w1 ⟨rfl, m1, rfl⟩))
          all_goals
            have hg0 : w.heap.size < w.heap.size + 2 := by omega
            have B1 : Blk ((wr.drewN (1 + m1)).setCell ⟨w.heap.size, 0, none⟩ (.int .u32 (n32 (sA ^^^ x0)))) w.heap.size 24 (stC ⟨sA ^^^ x0, sB, sC, sD⟩) := ((unhide B).drewN _).set 0 _
            have Z1 : Blk ((wr.drewN (1 + m1)).setCell ⟨w.heap.size, 0, none⟩ (.int .u32 (n32 (sA ^^^ x0)))) (w.heap.size + 1) 24 zC := ((unhide Z).drewN _).far (by simp) _
            have b1 : Below w.heap.size w ((wr.drewN (1 + m1)).setCell ⟨w.heap.size, 0, none⟩ (.int .u32 (n32 (sA ^^^ x0)))) := (below_drewN (unhide b) _).setCell (Nat.le_refl _) _
            have o1 : ((wr.drewN (1 + m1)).setCell ⟨w.heap.size, 0, none⟩ (.int .u32 (n32 (sA ^^^ x0)))).ownsRow (w.heap.size + 2) 5 1 (.slice A3 n c3) n (T.map u8v) := ownsRow_setCell' (own_drew (unhide o)) hg0 _
            have a1 : Agree (w.heap.size + 2) wr.heap.size wr ((wr.drewN (1 + m1)).setCell ⟨w.heap.size, 0, none⟩ (.int .u32 (n32 (sA ^^^ x0)))) := (Agree.refl _ _ wr).setCell hg0 _
            generalize (wr.drewN (1 + m1)).setCell ⟨w.heap.size, 0, none⟩ (.int .u32 (n32 (sA ^^^ x0))) = W1 at *
            have c1 : W1.cell? ⟨w.heap.size, 1, none⟩ = some (u32v sB) := B1.cell 1
            have f1 : W1.frozen? ⟨w.heap.size, 1, none⟩ = false := B1.frozen 1
            replace B1 := hide B1; replace Z1 := hide Z1; replace b1 := hide b1; replace o1 := hide o1; replace a1 := hide a1
            clear c0 f0
            go_upto_region 10 with (fail)
            go_region_law (first
              | (go_simp; go_at_call 76; refine (unhide n1 W1.drew (unhide a1)).mono ?_; rintro e w1 ⟨rfl, m2, rfl⟩))
          all_goals
            have B2 : Blk ((W1.drewN (1 + m2)).setCell ⟨w.heap.size, 1, none⟩ (.int .u32 (n32 (sB ^^^ x1)))) w.heap.size 24 (stC ⟨sA ^^^ x0, sB ^^^ x1, sC, sD⟩) := ((unhide B1).drewN _).set 1 _
            have Z2 : Blk ((W1.drewN (1 + m2)).setCell ⟨w.heap.size, 1, none⟩ (.int .u32 (n32 (sB ^^^ x1)))) (w.heap.size + 1) 24 zC := ((unhide Z1).drewN _).far (by simp) _
            have b2 : Below w.heap.size w ((W1.drewN (1 + m2)).setCell ⟨w.heap.size, 1, none⟩ (.int .u32 (n32 (sB ^^^ x1)))) := (below_drewN (unhide b1) _).setCell (Nat.le_refl _) _
            have o2 : ((W1.drewN (1 + m2)).setCell ⟨w.heap.size, 1, none⟩ (.int .u32 (n32 (sB ^^^ x1)))).ownsRow (w.heap.size + 2) 5 1 (.slice A3 n c3) n (T.map u8v) := ownsRow_setCell' (own_drew (unhide o1)) hg0 _
            generalize (W1.drewN (1 + m2)).setCell ⟨w.heap.size, 1, none⟩ (.int .u32 (n32 (sB ^^^ x1))) = W2 at *
            have l2 := Z2.lt
            have l0' := B2.lt
            obtain ⟨S, hS⟩ : ∃ S : St, S = ⟨sA ^^^ x0, sB ^^^ x1, sC, sD⟩ := ⟨_, rfl⟩
            have hst' := unhide hst
            rw [← hS] at B2 hst'
            have hcall := permR_any S W2
            obtain ⟨S', hS'⟩ : ∃ S', S' = permF S := ⟨_, rfl⟩
            rw [← hS'] at hcall hst'
            have hm : n - (k + 8) < n - k := by omega
            replace B2 := hide B2; replace Z2 := hide Z2; replace b2 := hide b2; replace o2 := hide o2; replace hcall := hide hcall; replace hst' := hide hst'; replace hm := hide hm
            clear c1 f1 hS hS' hst n0 n1 B1 Z1 b1 o1 a1
            go_wp2_with (first
              | (refine wpList_load_row rfl 24 (.tmp 2) rfl w.heap.size rfl 24 (stC S) (0, 0) _ (unhide B2) Tryz.underlying24 rfl size24 ?_)
              | (go_at_call 113; refine (unhide hcall).mono ?_; rintro e w5 ⟨rfl, hb5⟩
                 have B5 := Blk.below (unhide B2) hb5 l0'
                 have Z5 := Blk.below (unhide Z2) hb5 l2
                 have b5 := bl_call (unhide b2) hb5
                 have o5 := own_below (unhide o2) hb5 (Nat.le_refl _)
                 replace B5 := hide B5; replace Z5 := hide Z5; replace b5 := hide b5; replace o5 := hide o5)
              | (refine wpList_store_row rfl 24 (.tmp 2) (.tmp 51) rfl w.heap.size (stC S') rfl rfl 24 (stC S) (unhide B5) size24 rfl (stC_one _) ?_)
              | fail)
            have B6 := (unhide B5).row (stC S')
            have Z6 := (unhide Z5).row_other (g' := w.heap.size) (stC S') (by omega)
            have b6 := bl_row (g := w.heap.size) (unhide b5) (stC S') (Nat.le_refl _)
            have o6 := own_row_lt (g := w.heap.size) (unhide o5) (stC S') (by omega)
            go_roundw
            case rel => exact ⟨j + 1, k + 8, S', by go_num, by omega, hide (by have := unhide hk; omega), hst', hide o6, hide B6, hide Z6, hide b6⟩
            case measure => simp [intOf]; have := unhide hm; omega
        · obtain rfl : j = N := by omega
          have hkn : ¬ (k : Int) < (n : Int) := by have := unhide hk; have := unhide hnN; omega
          have hSF : S = F := by
            have := unhide hA
            rw [Nat.sub_self] at this
            exact this
          replace hSF := hide hSF
          clear hA hk
          go_wp2_with (first
            | (refine wpList_load_row rfl 24 (.tmp 2) rfl w.heap.size rfl 24 (stC S) (0, 0) _ (unhide B) Tryz.underlying24 rfl size24 ?_)
            | (refine wpList_store_row rfl 24 (.tmp 4) (.tmp 52) rfl (w.heap.size + 1) (stC S) rfl rfl 24 zC (unhide Z) size24 rfl (stC_one _) ?_)
            | fail)
          exact ret_st2 rfl (w.heap.size + 1) S (.int .i64 0) rfl rfl ((unhide Z).row _) rfl ⟨by rw [unhide hSF, unhide hFe], bl_row (unhide b) _ (by omega)⟩
end
end Go.Proofs.YthkccpemgmpadaaGreatDoor
