import Derived.Test.YtdencbdbagikbaaDoorW16
namespace Go.Proofs.YtdencbdbagikbaaDoor
open Go.RowKit

theorem eql_self (w : World) (s : St) : (binOp .eql 24 (stV s) (stV s)).run Tryd.prog w = .ok (.bool true) w := by rw [eql_st, sameS_self]
section
attribute [local go_sem] guard24
set_option maxHeartbeats 1000000 in
theorem back_law (s t : St) (w : World) (ht : Tab w) : Calls Tryd.prog 5 #[stV s, stV t] w fun e w' => e = .returned (.bool true) ∧ Below w.heap.size w w' := by
  have hA : Blk ((w.alloc (.cells (stC s) 24)).alloc (.cells (stC t) 24)) w.heap.size 24 (stC s) := Blk.alloc (Blk.new rfl) _
  have hB : Blk ((w.alloc (.cells (stC s) 24)).alloc (.cells (stC t) 24)) (w.heap.size + 1) 24 (stC t) := Blk.new (by simp)
  have hb : Below w.heap.size w ((w.alloc (.cells (stC s) 24)).alloc (.cells (stC t) 24)) := bl_alloc (bl_alloc (Below.refl _ _) _) _
  have hp := fun S W' (hb : Below w.heap.size w W') => perm_any S W' (ht.below hb (Nat.le_refl _))
  have hk := fun S W' (hb : Below w.heap.size w W') => back_any S W' (ht.below hb (Nat.le_refl _))
  have e1 : backF (permF s) = s := back_perm s
  have e2 : permF (backF s) = s := perm_back s
  have e3 : sameS (permF s) (permF t) = sameS s t := by rw [Bool.eq_iff_iff, sameS_iff, sameS_iff, perm_inj]
  have q0 := hp s; have q1 := hk (permF s); have q2 := hk s; have q3 := hp (backF s); have q4 := hp s; have q5 := hp t
  rw [e1] at q1; rw [e2] at q3
  clear e1 e2 hp hk
  generalize permF s = P at *
  generalize permF t = Q at *
  generalize backF s = R at *
  have E1 := fun W => eql_self W s
  have E2 := fun W => eql_st W P Q
  have E3 := fun W => eql_st W s t
  rw [e3] at E2
  generalize sameS s t = z at *
  replace q0 := hide q0; replace q1 := hide q1; replace q2 := hide q2; replace q3 := hide q3; replace q4 := hide q4; replace q5 := hide q5
  replace hA := hide hA; replace hB := hide hB; replace hb := hide hb
  clear e3 ht
  go_enter Tryd.func5, Tryd.ntmps5
  go_upto_region 1 with (fail)
  generalize hW : World.alloc (World.alloc w _) _ = W at *
  clear hW
  go_wp2_with (go_at_call 9; refine (live_any _).mono ?_; rintro e w1 ⟨rfl, hb1⟩
               have b1 : Below w.heap.size w w1 := bl_call (unhide hb) hb1
               have A1 : Blk w1 w.heap.size 24 (stC s) := Blk.below (unhide hA) hb1 (unhide hA).lt
               have B1 : Blk w1 (w.heap.size + 1) 24 (stC t) := Blk.below (unhide hB) hb1 (unhide hB).lt)
  have c100 : w1.cell? ⟨w.heap.size, 0, none⟩ = some (u32v s.a) := A1.cell 0
  have c101 : w1.cell? ⟨w.heap.size, 1, none⟩ = some (u32v s.b) := A1.cell 1
  have c102 : w1.cell? ⟨w.heap.size, 2, none⟩ = some (u32v s.c) := A1.cell 2
  have c103 : w1.cell? ⟨w.heap.size, 3, none⟩ = some (u32v s.d) := A1.cell 3
  have c110 : w1.cell? ⟨w.heap.size + 1, 0, none⟩ = some (u32v t.a) := B1.cell 0
  have c111 : w1.cell? ⟨w.heap.size + 1, 1, none⟩ = some (u32v t.b) := B1.cell 1
  have c112 : w1.cell? ⟨w.heap.size + 1, 2, none⟩ = some (u32v t.c) := B1.cell 2
  have c113 : w1.cell? ⟨w.heap.size + 1, 3, none⟩ = some (u32v t.d) := B1.cell 3
  have q9 : w.heap.size < w1.heap.size := A1.lt
  have q8 : w.heap.size < w.heap.size + 1 := by omega
  replace b1 := hide b1; replace A1 := hide A1; replace B1 := hide B1
  clear hA hB hb hb1
  have tk0 : True := trivial
  have tk1 : True := trivial
  have tk2 : True := trivial
  have tk3 : True := trivial
  have tk4 : True := trivial
  have tk5 : True := trivial
  go_region_held3 (fun W => W.cell? ⟨w.heap.size, 0, none⟩ = some (u32v s.a) ∧ W.cell? ⟨w.heap.size, 1, none⟩ = some (u32v s.b) ∧ W.cell? ⟨w.heap.size, 2, none⟩ = some (u32v s.c) ∧ W.cell? ⟨w.heap.size, 3, none⟩ = some (u32v s.d) ∧ W.cell? ⟨w.heap.size + 1, 0, none⟩ = some (u32v t.a) ∧ W.cell? ⟨w.heap.size + 1, 1, none⟩ = some (u32v t.b) ∧ W.cell? ⟨w.heap.size + 1, 2, none⟩ = some (u32v t.c) ∧ W.cell? ⟨w.heap.size + 1, 3, none⟩ = some (u32v t.d)) (first | exact ⟨by with_reducible assumption, by with_reducible assumption, by with_reducible assumption, by with_reducible assumption, by with_reducible assumption, by with_reducible assumption, by with_reducible assumption, by with_reducible assumption⟩ | exact ⟨by go_simp, by go_simp, by go_simp, by go_simp, by go_simp, by go_simp, by go_simp, by go_simp⟩) (first
    | (go_at_call 12; have _t := tk0; refine (unhide q0 w1.drew (unhide b1).drew).mono ?_; rintro e x0 ⟨rfl, hb⟩
       have b2 : Below w.heap.size w x0 := bl_call (unhide b1).drew hb
       have A2 : Blk x0 w.heap.size 24 (stC s) := Blk.below (unhide A1).drew hb ((unhide A1).drew.lt)
       have B2 : Blk x0 (w.heap.size + 1) 24 (stC t) := Blk.below (unhide B1).drew hb (((unhide B1).drew).lt)
       have c200 : x0.cell? ⟨w.heap.size, 0, none⟩ = some (u32v s.a) := A2.cell 0
       have c201 : x0.cell? ⟨w.heap.size, 1, none⟩ = some (u32v s.b) := A2.cell 1
       have c202 : x0.cell? ⟨w.heap.size, 2, none⟩ = some (u32v s.c) := A2.cell 2
       have c203 : x0.cell? ⟨w.heap.size, 3, none⟩ = some (u32v s.d) := A2.cell 3
       have c210 : x0.cell? ⟨w.heap.size + 1, 0, none⟩ = some (u32v t.a) := B2.cell 0
       have c211 : x0.cell? ⟨w.heap.size + 1, 1, none⟩ = some (u32v t.b) := B2.cell 1
       have c212 : x0.cell? ⟨w.heap.size + 1, 2, none⟩ = some (u32v t.c) := B2.cell 2
       have c213 : x0.cell? ⟨w.heap.size + 1, 3, none⟩ = some (u32v t.d) := B2.cell 3
       replace b2 := hide b2; replace A2 := hide A2; replace B2 := hide B2; clear hb tk0 _t)
    | (go_at_call 21; have _t := tk1; refine (unhide q1 x0 (unhide b2)).mono ?_; rintro e x1 ⟨rfl, hb⟩
       have b3 : Below w.heap.size w x1 := bl_call (unhide b2) hb
       have A3 : Blk x1 w.heap.size 24 (stC s) := Blk.below (unhide A2) hb (unhide A2).lt
       have B3 : Blk x1 (w.heap.size + 1) 24 (stC t) := Blk.below (unhide B2) hb (unhide B2).lt
       have c300 : x1.cell? ⟨w.heap.size, 0, none⟩ = some (u32v s.a) := A3.cell 0
       have c301 : x1.cell? ⟨w.heap.size, 1, none⟩ = some (u32v s.b) := A3.cell 1
       have c302 : x1.cell? ⟨w.heap.size, 2, none⟩ = some (u32v s.c) := A3.cell 2
       have c303 : x1.cell? ⟨w.heap.size, 3, none⟩ = some (u32v s.d) := A3.cell 3
       have c310 : x1.cell? ⟨w.heap.size + 1, 0, none⟩ = some (u32v t.a) := B3.cell 0
       have c311 : x1.cell? ⟨w.heap.size + 1, 1, none⟩ = some (u32v t.b) := B3.cell 1
       have c312 : x1.cell? ⟨w.heap.size + 1, 2, none⟩ = some (u32v t.c) := B3.cell 2
       have c313 : x1.cell? ⟨w.heap.size + 1, 3, none⟩ = some (u32v t.d) := B3.cell 3
       replace b3 := hide b3; replace A3 := hide A3; replace B3 := hide B3; clear hb tk1 _t)
    | (go_at_call 21; have _t := tk2; refine (unhide q2 x1 (unhide b3)).mono ?_; rintro e x2 ⟨rfl, hb⟩
       have b4 : Below w.heap.size w x2 := bl_call (unhide b3) hb
       have A4 : Blk x2 w.heap.size 24 (stC s) := Blk.below (unhide A3) hb (unhide A3).lt
       have B4 : Blk x2 (w.heap.size + 1) 24 (stC t) := Blk.below (unhide B3) hb (unhide B3).lt
       have c400 : x2.cell? ⟨w.heap.size, 0, none⟩ = some (u32v s.a) := A4.cell 0
       have c401 : x2.cell? ⟨w.heap.size, 1, none⟩ = some (u32v s.b) := A4.cell 1
       have c402 : x2.cell? ⟨w.heap.size, 2, none⟩ = some (u32v s.c) := A4.cell 2
       have c403 : x2.cell? ⟨w.heap.size, 3, none⟩ = some (u32v s.d) := A4.cell 3
       have c410 : x2.cell? ⟨w.heap.size + 1, 0, none⟩ = some (u32v t.a) := B4.cell 0
       have c411 : x2.cell? ⟨w.heap.size + 1, 1, none⟩ = some (u32v t.b) := B4.cell 1
       have c412 : x2.cell? ⟨w.heap.size + 1, 2, none⟩ = some (u32v t.c) := B4.cell 2
       have c413 : x2.cell? ⟨w.heap.size + 1, 3, none⟩ = some (u32v t.d) := B4.cell 3
       replace b4 := hide b4; replace A4 := hide A4; replace B4 := hide B4; clear hb tk2 _t)
    | (go_at_call 12; have _t := tk3; refine (unhide q3 x2 (unhide b4)).mono ?_; rintro e x3 ⟨rfl, hb⟩
       have b5 : Below w.heap.size w x3 := bl_call (unhide b4) hb
       have A5 : Blk x3 w.heap.size 24 (stC s) := Blk.below (unhide A4) hb (unhide A4).lt
       have B5 : Blk x3 (w.heap.size + 1) 24 (stC t) := Blk.below (unhide B4) hb (unhide B4).lt
       have c500 : x3.cell? ⟨w.heap.size, 0, none⟩ = some (u32v s.a) := A5.cell 0
       have c501 : x3.cell? ⟨w.heap.size, 1, none⟩ = some (u32v s.b) := A5.cell 1
       have c502 : x3.cell? ⟨w.heap.size, 2, none⟩ = some (u32v s.c) := A5.cell 2
       have c503 : x3.cell? ⟨w.heap.size, 3, none⟩ = some (u32v s.d) := A5.cell 3
       have c510 : x3.cell? ⟨w.heap.size + 1, 0, none⟩ = some (u32v t.a) := B5.cell 0
       have c511 : x3.cell? ⟨w.heap.size + 1, 1, none⟩ = some (u32v t.b) := B5.cell 1
       have c512 : x3.cell? ⟨w.heap.size + 1, 2, none⟩ = some (u32v t.c) := B5.cell 2
       have c513 : x3.cell? ⟨w.heap.size + 1, 3, none⟩ = some (u32v t.d) := B5.cell 3
       replace b5 := hide b5; replace A5 := hide A5; replace B5 := hide B5; clear hb tk3 _t)
    | (go_at_call 12; have _t := tk4; refine (unhide q4 x3 (unhide b5)).mono ?_; rintro e x4 ⟨rfl, hb⟩
       have b6 : Below w.heap.size w x4 := bl_call (unhide b5) hb
       have A6 : Blk x4 w.heap.size 24 (stC s) := Blk.below (unhide A5) hb (unhide A5).lt
       have B6 : Blk x4 (w.heap.size + 1) 24 (stC t) := Blk.below (unhide B5) hb (unhide B5).lt
       have c600 : x4.cell? ⟨w.heap.size, 0, none⟩ = some (u32v s.a) := A6.cell 0
       have c601 : x4.cell? ⟨w.heap.size, 1, none⟩ = some (u32v s.b) := A6.cell 1
       have c602 : x4.cell? ⟨w.heap.size, 2, none⟩ = some (u32v s.c) := A6.cell 2
       have c603 : x4.cell? ⟨w.heap.size, 3, none⟩ = some (u32v s.d) := A6.cell 3
       have c610 : x4.cell? ⟨w.heap.size + 1, 0, none⟩ = some (u32v t.a) := B6.cell 0
       have c611 : x4.cell? ⟨w.heap.size + 1, 1, none⟩ = some (u32v t.b) := B6.cell 1
       have c612 : x4.cell? ⟨w.heap.size + 1, 2, none⟩ = some (u32v t.c) := B6.cell 2
       have c613 : x4.cell? ⟨w.heap.size + 1, 3, none⟩ = some (u32v t.d) := B6.cell 3
       replace b6 := hide b6; replace A6 := hide A6; replace B6 := hide B6; clear hb tk4 _t)
    | (go_at_call 12; have _t := tk5; refine (unhide q5 x4 (unhide b6)).mono ?_; rintro e x5 ⟨rfl, hb⟩
       have b7 : Below w.heap.size w x5 := bl_call (unhide b6) hb
       have A7 : Blk x5 w.heap.size 24 (stC s) := Blk.below (unhide A6) hb (unhide A6).lt
       have B7 : Blk x5 (w.heap.size + 1) 24 (stC t) := Blk.below (unhide B6) hb (unhide B6).lt
       have c700 : x5.cell? ⟨w.heap.size, 0, none⟩ = some (u32v s.a) := A7.cell 0
       have c701 : x5.cell? ⟨w.heap.size, 1, none⟩ = some (u32v s.b) := A7.cell 1
       have c702 : x5.cell? ⟨w.heap.size, 2, none⟩ = some (u32v s.c) := A7.cell 2
       have c703 : x5.cell? ⟨w.heap.size, 3, none⟩ = some (u32v s.d) := A7.cell 3
       have c710 : x5.cell? ⟨w.heap.size + 1, 0, none⟩ = some (u32v t.a) := B7.cell 0
       have c711 : x5.cell? ⟨w.heap.size + 1, 1, none⟩ = some (u32v t.b) := B7.cell 1
       have c712 : x5.cell? ⟨w.heap.size + 1, 2, none⟩ = some (u32v t.c) := B7.cell 2
       have c713 : x5.cell? ⟨w.heap.size + 1, 3, none⟩ = some (u32v t.d) := B7.cell 3
       replace b7 := hide b7; replace A7 := hide A7; replace B7 := hide B7; clear hb tk5 _t))
  all_goals go_wp2_with (fail)
  all_goals go_ret
  all_goals exact ⟨rfl, unhide b7⟩
end
end Go.Proofs.YtdencbdbagikbaaDoor
