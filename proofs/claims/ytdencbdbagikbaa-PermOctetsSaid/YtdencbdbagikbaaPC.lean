import Derived.Test.YtdencbdbagikbaaPB
namespace Go.Proofs.Ytdencbdbagikbaa
open Go.RowKit

theorem alloc_lt (w : World) (o : Obj) : w.heap.size < (w.alloc o).heap.size := by simp
theorem eql_self (w : World) (s : St) : (binOp .eql 24 (stV s) (stV s)).run Try.prog w = .ok (.bool true) w := by rw [eql_st, sameS_self]
theorem Bs.to {lo : Nat} {w w' : World} {v : Value} {l : List UInt8} (h : Bs lo w.heap.size w v l) (hb : Below w.heap.size w w') : Bs lo w'.heap.size w' v l :=
  (h.below hb (Nat.le_refl _)).mono (Nat.le_refl _) hb.size
set_option maxHeartbeats 400000 in
theorem octets_gate (s : St) (v : Value) (l : List UInt8) (w : World) (h : Bs 0 w.heap.size w v l) (hg : 100 < l.length) :
    Calls Try.prog 3 #[stV s, v] w fun e w' => e = .returned (.bool true) ∧ Below w.heap.size w w' := by
  obtain ⟨A1, c1, rfl⟩ : ∃ A c, v = .slice A l.length c := by obtain ⟨A, c, e, _⟩ := id h; exact ⟨A, c, e⟩
  have g1 : (100 : Int) < (l.length : Int) := by omega
  clear h
  go_enter Try.func3, Try.ntmps3
  go_wp2_with (first
    | (go_at_call 4; refine (live_any _).mono ?_; rintro e w1 ⟨rfl, hb1⟩)
    | fail)
  go_ret
  exact ⟨rfl, by (repeat (first | with_reducible exact Below.refl _ _ | with_reducible assumption | with_reducible refine Below.drew ?_ | with_reducible refine bl_alloc ?_ _ | with_reducible refine bl_call ?_ (by assumption) | (focus (with_reducible refine Below.setCell ?_ ?_ _; rotate_left; focus (first | omega | (simp <;> omega)))) | fail))⟩

section
attribute [local go_sem] guard24
set_option maxHeartbeats 1000000 in
theorem octets_Good (s : St) (v : Value) (l : List UInt8) (w : World) (h : Bs 0 w.heap.size w v l) (_ : l.length ≤ 100) (h16 : l.length = 16) :
    Calls Try.prog 3 #[stV s, v] w fun e w' => e = .returned (.bool true) ∧ Below w.heap.size w w' := by
  have hA : Blk (w.alloc (.cells (stC s) 24)) w.heap.size 24 (stC s) := Blk.new rfl
  have hb : Below w.heap.size w (w.alloc (.cells (stC s) 24)) := bl_alloc (Below.refl _ _) _
  have q6 := fun W' (_ : Below w.heap.size w W') => Octets_any s W'
  have q5 := fun v' W' (hv : Bs 0 W'.heap.size W' v' (octs4 s)) => Of_good 0 v' (octs4 s) W' hv rfl
  rw [of_octs] at q5
  have r5 := fun W' (hb : Below w.heap.size w W') => Of_good 0 v l W' (h.to hb) h16
  have r6 := fun W' (_ : Below w.heap.size w W') => Octets_any (ofF l) W'
  rw [octs_of h16] at r6
  obtain ⟨Y, hY⟩ : ∃ Y, Y = ofF l := ⟨_, rfl⟩
  rw [← hY] at r5 r6
  clear hY
  have z1 : (l.length : Int) = 16 := by omega
  have E1 := fun W => eql_self W s
  have g1 : ¬ (100 : Int) < (l.length : Int) := by omega
  obtain ⟨A1, c1, rfl⟩ : ∃ A c, v = .slice A l.length c := by obtain ⟨A, c, e, _⟩ := id h; exact ⟨A, c, e⟩
  replace q6 := hide q6; replace q5 := hide q5; replace r5 := hide r5; replace r6 := hide r6; replace h := hide h; replace hA := hide hA; replace hb := hide hb
  clear h16
  have tk0 : True := trivial
  have tk1 : True := trivial
  go_enter Try.func3, Try.ntmps3
  go_upto_region 1 with (fail)
  generalize hW : World.alloc w _ = W at *
  clear hW
  go_wp2_with (first
    | (go_at_call 4; refine (live_any _).mono ?_; rintro e w1 ⟨rfl, hb1⟩
       have b1 : Below w.heap.size w w1 := bl_call (unhide hb) hb1
       have A1 : Blk w1 w.heap.size 24 (stC s) := Blk.below (unhide hA) hb1 (unhide hA).lt
       replace b1 := hide b1; replace A1 := hide A1; clear hb1)
    | (refine wpList_load_row rfl 24 (.tmp 2) rfl w.heap.size rfl 24 (stC s) (0, 0) _ (unhide A1) Try.underlying24 rfl size24 ?_)
    | (go_at_call 6; have _t := tk0; refine (unhide q6 w1 (unhide b1)).mono ?_; rintro e w2 ⟨v1, rfl, o1, hx⟩
       have O2 : Bs 0 w2.heap.size w2 v1 (octs4 s) := (Bs.of_own o1).mono (Nat.zero_le _) (Nat.le_refl _)
       have b2 : Below w.heap.size w w2 := bl_call (unhide b1) hx
       have A2 : Blk w2 w.heap.size 24 (stC s) := Blk.below (unhide A1) hx (unhide A1).lt
       obtain ⟨Aa, ca, rfl⟩ := (show ∃ A c, v1 = .slice A 16 c from o1.form)
       replace b2 := hide b2; replace A2 := hide A2; replace O2 := hide O2; clear hx tk0 _t o1)
    | (go_at_call 5; have _t := tk1; refine (unhide q5 _ w2 (unhide O2)).mono ?_; rintro e w3 ⟨rfl, hx⟩
       have b3 : Below w.heap.size w w3 := bl_call (unhide b2) hx
       have A3 : Blk w3 w.heap.size 24 (stC s) := Blk.below (unhide A2) hx (unhide A2).lt
       replace b3 := hide b3; replace A3 := hide A3; clear hx tk1 _t)
    | (go_at_call 5; refine (unhide r5 (w3.alloc (.cells (stC s) 24)) (bl_alloc (unhide b3) _)).mono ?_; rintro e w4 ⟨rfl, hx⟩
       have b4 : Below w.heap.size w w4 := bl_call (bl_alloc (unhide b3) _) hx
       have A4 : Blk w4 w.heap.size 24 (stC s) := Blk.below ((unhide A3).alloc _) hx ((unhide A3).alloc _).lt
       have X4 : Blk w4 w3.heap.size 24 (stC s) := Blk.below (w := w3.alloc (.cells (stC s) 24)) (Blk.new rfl) hx (alloc_lt w3 _)
       have ka0 : w4.cell? ⟨w.heap.size, 0, none⟩ = some (u32v s.a) := A4.cell 0
       have ka1 : w4.cell? ⟨w.heap.size, 1, none⟩ = some (u32v s.b) := A4.cell 1
       have ka2 : w4.cell? ⟨w.heap.size, 2, none⟩ = some (u32v s.c) := A4.cell 2
       have ka3 : w4.cell? ⟨w.heap.size, 3, none⟩ = some (u32v s.d) := A4.cell 3
       have kx0 : w4.cell? ⟨w3.heap.size, 0, none⟩ = some (u32v s.a) := X4.cell 0
       have kx1 : w4.cell? ⟨w3.heap.size, 1, none⟩ = some (u32v s.b) := X4.cell 1
       have kx2 : w4.cell? ⟨w3.heap.size, 2, none⟩ = some (u32v s.c) := X4.cell 2
       have kx3 : w4.cell? ⟨w3.heap.size, 3, none⟩ = some (u32v s.d) := X4.cell 3
       have la := A4.lt
       have lx := X4.lt
       replace b4 := hide b4; clear hx A4 X4)
    | (go_at_call 6; refine (unhide r6 (w4.alloc (.cells (stC Y) 24)) (bl_alloc (unhide b4) _)).mono ?_; rintro e w5 ⟨v1, rfl, o1, hx⟩
       have O5 : Bs 0 w5.heap.size w5 v1 l := (Bs.of_own o1).mono (Nat.zero_le _) (Nat.le_refl _)
       have b5 : Below w.heap.size w w5 := bl_call (bl_alloc (unhide b4) _) hx
       have H5 := Bs.to (unhide h) b5
       obtain ⟨Ab, cb, rfl⟩ := o1.form
       replace b5 := hide b5; replace O5 := hide O5; replace H5 := hide H5; clear hx o1)
    | (go_at_call 7; refine (same_true _ _ _ _ _ _ _ _ w5 (unhide O5) (unhide H5) rfl).mono ?_; rintro e w7 ⟨rfl, rfl⟩)
    | fail)
  go_ret
  exact ⟨rfl, unhide b5⟩
set_option maxHeartbeats 1000000 in
theorem octets_Bad (s : St) (v : Value) (l : List UInt8) (w : World) (h : Bs 0 w.heap.size w v l) (hl : l.length ≤ 100) (h16 : ¬ l.length = 16) :
    Calls Try.prog 3 #[stV s, v] w fun e w' => e = .returned (.bool true) ∧ Below w.heap.size w w' := by
  have hA : Blk (w.alloc (.cells (stC s) 24)) w.heap.size 24 (stC s) := Blk.new rfl
  have hb : Below w.heap.size w (w.alloc (.cells (stC s) 24)) := bl_alloc (Below.refl _ _) _
  have q6 := fun W' (_ : Below w.heap.size w W') => Octets_any s W'
  have q5 := fun v' W' (hv : Bs 0 W'.heap.size W' v' (octs4 s)) => Of_good 0 v' (octs4 s) W' hv rfl
  rw [of_octs] at q5
  have r5 := fun W' (hb : Below w.heap.size w W') => Of_bad 0 v l W' (h.to hb) h16
  have r6 : True := trivial
  obtain ⟨Y, hY⟩ : ∃ Y, Y = zS := ⟨_, rfl⟩
  rw [← hY] at r5
  clear hY
  have z1 : ((l.length : Int) == 16) = false := by rw [beq_eq_false_iff_ne]; omega
  have E1 := fun W => eql_self W s
  have g1 : ¬ (100 : Int) < (l.length : Int) := by omega
  obtain ⟨A1, c1, rfl⟩ : ∃ A c, v = .slice A l.length c := by obtain ⟨A, c, e, _⟩ := id h; exact ⟨A, c, e⟩
  replace q6 := hide q6; replace q5 := hide q5; replace r5 := hide r5; replace r6 := hide r6; replace h := hide h; replace hA := hide hA; replace hb := hide hb
  clear hl h16
  have tk0 : True := trivial
  have tk1 : True := trivial
  go_enter Try.func3, Try.ntmps3
  go_upto_region 1 with (fail)
  generalize hW : World.alloc w _ = W at *
  clear hW
  go_wp2_with (first
    | (go_at_call 4; refine (live_any _).mono ?_; rintro e w1 ⟨rfl, hb1⟩
       have b1 : Below w.heap.size w w1 := bl_call (unhide hb) hb1
       have A1 : Blk w1 w.heap.size 24 (stC s) := Blk.below (unhide hA) hb1 (unhide hA).lt
       replace b1 := hide b1; replace A1 := hide A1; clear hb1)
    | (refine wpList_load_row rfl 24 (.tmp 2) rfl w.heap.size rfl 24 (stC s) (0, 0) _ (unhide A1) Try.underlying24 rfl size24 ?_)
    | (go_at_call 6; have _t := tk0; refine (unhide q6 w1 (unhide b1)).mono ?_; rintro e w2 ⟨v1, rfl, o1, hx⟩
       have O2 : Bs 0 w2.heap.size w2 v1 (octs4 s) := (Bs.of_own o1).mono (Nat.zero_le _) (Nat.le_refl _)
       have b2 : Below w.heap.size w w2 := bl_call (unhide b1) hx
       have A2 : Blk w2 w.heap.size 24 (stC s) := Blk.below (unhide A1) hx (unhide A1).lt
       obtain ⟨Aa, ca, rfl⟩ := (show ∃ A c, v1 = .slice A 16 c from o1.form)
       replace b2 := hide b2; replace A2 := hide A2; replace O2 := hide O2; clear hx tk0 _t o1)
    | (go_at_call 5; have _t := tk1; refine (unhide q5 _ w2 (unhide O2)).mono ?_; rintro e w3 ⟨rfl, hx⟩
       have b3 : Below w.heap.size w w3 := bl_call (unhide b2) hx
       have A3 : Blk w3 w.heap.size 24 (stC s) := Blk.below (unhide A2) hx (unhide A2).lt
       replace b3 := hide b3; replace A3 := hide A3; clear hx tk1 _t)
    | (go_at_call 5; refine (unhide r5 (w3.alloc (.cells (stC s) 24)) (bl_alloc (unhide b3) _)).mono ?_; rintro e w4 ⟨rfl, hx⟩
       have b4 : Below w.heap.size w w4 := bl_call (bl_alloc (unhide b3) _) hx
       have A4 : Blk w4 w.heap.size 24 (stC s) := Blk.below ((unhide A3).alloc _) hx ((unhide A3).alloc _).lt
       have X4 : Blk w4 w3.heap.size 24 (stC s) := Blk.below (w := w3.alloc (.cells (stC s) 24)) (Blk.new rfl) hx (alloc_lt w3 _)
       have ka0 : w4.cell? ⟨w.heap.size, 0, none⟩ = some (u32v s.a) := A4.cell 0
       have ka1 : w4.cell? ⟨w.heap.size, 1, none⟩ = some (u32v s.b) := A4.cell 1
       have ka2 : w4.cell? ⟨w.heap.size, 2, none⟩ = some (u32v s.c) := A4.cell 2
       have ka3 : w4.cell? ⟨w.heap.size, 3, none⟩ = some (u32v s.d) := A4.cell 3
       have kx0 : w4.cell? ⟨w3.heap.size, 0, none⟩ = some (u32v s.a) := X4.cell 0
       have kx1 : w4.cell? ⟨w3.heap.size, 1, none⟩ = some (u32v s.b) := X4.cell 1
       have kx2 : w4.cell? ⟨w3.heap.size, 2, none⟩ = some (u32v s.c) := X4.cell 2
       have kx3 : w4.cell? ⟨w3.heap.size, 3, none⟩ = some (u32v s.d) := X4.cell 3
       have la := A4.lt
       have lx := X4.lt
       replace b4 := hide b4; clear hx A4 X4)
    | (go_at_call 6; refine (unhide r6 (w4.alloc (.cells (stC Y) 24)) (bl_alloc (unhide b4) _)).mono ?_; rintro e w5 ⟨v1, rfl, o1, hx⟩
       have O5 : Bs 0 w5.heap.size w5 v1 l := (Bs.of_own o1).mono (Nat.zero_le _) (Nat.le_refl _)
       have b5 : Below w.heap.size w w5 := bl_call (bl_alloc (unhide b4) _) hx
       have H5 := Bs.to (unhide h) b5
       obtain ⟨Ab, cb, rfl⟩ := o1.form
       replace b5 := hide b5; replace O5 := hide O5; replace H5 := hide H5; clear hx o1)
    | (go_at_call 7; refine (same_true _ _ _ _ _ _ _ _ w5 (unhide O5) (unhide H5) rfl).mono ?_; rintro e w7 ⟨rfl, rfl⟩)
    | fail)
  go_ret
  exact ⟨rfl, bl_alloc (unhide b4) _⟩
end
theorem octets_law (s : St) (v : Value) (l : List UInt8) (w : World) (h : Bs 0 w.heap.size w v l) :
    Calls Try.prog 3 #[stV s, v] w fun e w' => e = .returned (.bool true) ∧ Below w.heap.size w w' := by
  by_cases hg : 100 < l.length
  · exact octets_gate s v l w h hg
  · by_cases h16 : l.length = 16
    · exact octets_Good s v l w h (by omega) h16
    · exact octets_Bad s v l w h (by omega) h16
end Go.Proofs.Ytdencbdbagikbaa
