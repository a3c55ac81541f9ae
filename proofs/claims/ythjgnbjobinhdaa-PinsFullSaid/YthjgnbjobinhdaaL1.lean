import Derived.Test.YthjgnbjobinhdaaP13
namespace Go.Proofs.Ythjgnbjobinhdaa
open Go.RowKit
set_option maxRecDepth 100000

theorem back_open {l : List Pn} {g : Int} (h0 : 0 ≤ g) (h : openE l g = 0) : closeE (openL l g) g = 0 ∧ closeL (openL l g) g = l ∧ manyP (openL l g) g = manyP l g + 1 ∧ (∀ o, o ≠ g → manyP (openL l g) o = manyP l o) ∧ Pins l ∧ Pins (openL l g) ∧ 0 ≤ manyP l g ∧ manyP l g ≤ 63 ∧ g ≤ 1099511627776 := by
  have hp := pins_open l h0
  obtain ⟨h1, h2, h3⟩ := open_ok.1 h
  obtain ⟨h4, h5⟩ := may_iff.1 h1
  have h6 := many_lo h5 g
  have e1 : manyP (openL l g) g = manyP l g + 1 := by rw [openL_ok h, many_put h5.up (by omega), if_pos rfl]
  have e2 : closeE (openL l g) g = 0 := close_ok.2 ⟨may_iff.2 ⟨h4, hp⟩, by rw [e1]; omega⟩
  refine ⟨e2, ?_, e1, fun o ho => ?_, h5, hp, h6.1, by omega, h4⟩
  · rw [closeL_ok e2, e1, openL_ok h, put_put, show manyP l g + 1 - 1 = manyP l g by omega]
    exact put_same h5 g h0 h4
  · rw [openL_ok h, many_put h5.up (by omega), if_neg ho]
theorem same_self (l : List Pn) : sameB l l = true := same_iff.2 rfl

set_option maxHeartbeats 4000000 in
theorem PinsBack_any (v : Value) (l : List Pn) (g o : Int) (w : World) (h : Pns 0 w.heap.size w v l) (hs : SmL l) (h0 : 0 ≤ g) :
    Calls Try.prog 4 #[v, .int .u64 g, .int .u64 o] w fun e w' => e = .returned (.bool true) ∧ Below w.heap.size w w' := by
  have hL := fun W => live_any W
  have hB : Hid (Below w.heap.size w w) := hide (Below.refl _ _)
  have hl := h
  obtain ⟨A, c, rfl, h1, h2, h3⟩ := h
  clear h3
  replace hL := hide hL; replace hl := hide hl
  by_cases h70 : 70 < l.length
  · have d70 : (70 : Int) < (l.length : Int) := by omega
    clear hs
    have tk0 : True := trivial
    go_enter Try.func4, Try.ntmps4
    go_wp2_with (first
      | (have _t := tk0; clear tk0 _t; go_at_call 8; with_reducible refine (unhide hL _).mono ?_; rintro ez wz0 ⟨rfl, bz0⟩; have szz0 := bz0.size; replace hB := hide ((unhide hB).trans (bz0.mono (unhide hB).size)); replace hl := hide ((unhide hl).grow bz0); clear bz0)
      | fail)
    go_ret
    exact ⟨rfl, unhide hB⟩
  · have d70 : ¬ (70 : Int) < (l.length : Int) := by omega
    have hO := fun W (h : Pns 0 W.heap.size W (.slice A l.length c) l) => Open_any 0 W.heap.size _ l g W h (Nat.le_refl _) hs
    by_cases hE : openE l g = 0
    · obtain ⟨b1, b2, b3, b4, b5, b6, b7, b8, b9⟩ := back_open h0 hE
      have hM := fun W x (h : Pns 0 W.heap.size W (.slice A l.length c) l) => Many_any 0 W.heap.size _ l x W h (Nat.le_refl _) hs
      have hC := fun W va (h : Pns 0 W.heap.size W va (openL l g)) => Close_any 0 W.heap.size va (openL l g) g W h (Nat.le_refl _) b6.sm
      have hN := fun W va x (h : Pns 0 W.heap.size W va (openL l g)) => Many_any 0 W.heap.size va (openL l g) x W h (Nat.le_refl _) b6.sm
      have hK := fun W va (h : Pns 0 W.heap.size W va (openL l g)) => check_any 0 W.heap.size va (openL l g) W h (Nat.le_refl _) b6.sm
      have hS := fun W vb (h : Pns 0 W.heap.size W vb l) (h' : Pns 0 W.heap.size W (.slice A l.length c) l) => Same_any 0 W.heap.size 0 W.heap.size vb _ l l W h h' (Nat.le_refl _) (Nat.le_refl _)
      rw [same_self] at hS
      rw [hE] at hO
      rw [b1, b2] at hC
      have ck : checkE (openL l g) = 0 := by unfold checkE; rw [pins_iff.2 b6]; rfl
      rw [ck] at hK
      have my1 : may l g = true := may_iff.2 ⟨b9, b5⟩
      have my2 : may (openL l g) g = true := may_iff.2 ⟨b9, b6⟩
      have hM1 := fun W h => hM W g h
      have hN1 := fun W va h => hN W va g h
      unfold manyN manyE at hM1 hN1
      rw [my1, if_pos rfl, if_pos rfl] at hM1
      rw [my2, if_pos rfl, if_pos rfl, b3] at hN1
      have my3 : may (openL l g) o = may l o := by
        rw [Bool.eq_iff_iff, may_iff, may_iff]
        exact ⟨fun h => ⟨h.1, b5⟩, fun h => ⟨h.1, b6⟩⟩
      have hM2 := fun W h => hM W o h
      have hN2 := fun W va h => hN W va o h
      have me : manyE (openL l g) o = manyE l o := by unfold manyE; rw [my3]
      have mn : o ≠ g → manyN (openL l g) o = manyN l o := fun e => by unfold manyN; rw [my3, b4 o e]
      rw [me] at hN2
      clear hM hN my1 my2 my3 ck me b1 b2 b3 b4 b5 b6 hE hs h0 b9
      generalize manyE l o = eo at *
      generalize manyN l o = xo at *
      generalize manyN (openL l g) o = yo at *
      generalize manyP l g = n at *
      generalize openL l g = a at *
      replace hO := hide hO; replace hM1 := hide hM1; replace hM2 := hide hM2; replace hN1 := hide hN1; replace hN2 := hide hN2; replace hC := hide hC; replace hK := hide hK; replace hS := hide hS
      by_cases hog : o = g
      · have d1 : (o == g) = true := by rw [beq_iff_eq]; exact hog
        clear mn hog
        have tk0 : True := trivial
        have tk1 : True := trivial
        have tk2 : True := trivial
        have tk3 : True := trivial
        have tk4 : True := trivial
        have tk5 : True := trivial
        have tk6 : True := trivial
        have tk7 : True := trivial
        have tk8 : True := trivial
        go_enter Try.func4, Try.ntmps4
        go_wp2_with (first
          | (have _t := tk0; clear tk0 _t; go_at_call 8; with_reducible refine (unhide hL _).mono ?_; rintro ez wz0 ⟨rfl, bz0⟩; have szz0 := bz0.size; replace hB := hide ((unhide hB).trans (bz0.mono (unhide hB).size)); replace hl := hide ((unhide hl).grow bz0); clear bz0)
          | (have _t := tk1; clear tk1 _t; go_at_call 9; with_reducible refine (unhide hO _ (unhide hl)).mono ?_; rintro ez wz1 ⟨va, rfl, oha, bz1⟩; have szz1 := bz1.size; replace hB := hide ((unhide hB).trans (bz1.mono (unhide hB).size)); replace hl := hide ((unhide hl).grow bz1); (have ha := hide (oha.all)); clear oha; clear bz1)
          | (have _t := tk2; clear tk2 _t; go_at_call 11; with_reducible refine (unhide hC _ _ (unhide ha)).mono ?_; rintro ez wz2 ⟨vb, rfl, ohb, bz2⟩; have szz2 := bz2.size; replace hB := hide ((unhide hB).trans (bz2.mono (unhide hB).size)); replace hl := hide ((unhide hl).grow bz2); replace ha := hide ((unhide ha).grow bz2); (have hb := hide (ohb.all)); clear ohb; clear bz2)
          | (have _t := tk3; clear tk3 _t; go_at_call 13; with_reducible refine (unhide hM1 _ (unhide hl)).mono ?_; rintro ez wz3 ⟨rfl, bz3⟩; have szz3 := bz3.size; replace hB := hide ((unhide hB).trans (bz3.mono (unhide hB).size)); replace hl := hide ((unhide hl).grow bz3); replace ha := hide ((unhide ha).grow bz3); replace hb := hide ((unhide hb).grow bz3); clear bz3)
          | (have _t := tk4; clear tk4 _t; go_at_call 13; with_reducible refine (unhide hN1 _ _ (unhide ha)).mono ?_; rintro ez wz4 ⟨rfl, bz4⟩; have szz4 := bz4.size; replace hB := hide ((unhide hB).trans (bz4.mono (unhide hB).size)); replace hl := hide ((unhide hl).grow bz4); replace ha := hide ((unhide ha).grow bz4); replace hb := hide ((unhide hb).grow bz4); clear bz4)
          | (have _t := tk5; clear tk5 _t; go_at_call 20; with_reducible refine (unhide hS _ _ (unhide hb) (unhide hl)).mono ?_; rintro ez wz5 ⟨rfl, bz5⟩; have szz5 := bz5.size; replace hB := hide ((unhide hB).trans (bz5.mono (unhide hB).size)); replace hl := hide ((unhide hl).grow bz5); replace ha := hide ((unhide ha).grow bz5); replace hb := hide ((unhide hb).grow bz5); clear bz5)
          | (have _t := tk6; clear tk6 _t; go_at_call 18; with_reducible refine (unhide hK _ _ (unhide ha)).mono ?_; rintro ez wz6 ⟨rfl, bz6⟩; have szz6 := bz6.size; replace hB := hide ((unhide hB).trans (bz6.mono (unhide hB).size)); replace hl := hide ((unhide hl).grow bz6); replace ha := hide ((unhide ha).grow bz6); replace hb := hide ((unhide hb).grow bz6); clear bz6)
          | (have _t := tk7; clear tk7 _t; go_at_call 13; with_reducible refine (unhide hM2 _ (unhide hl)).mono ?_; rintro ez wz7 ⟨rfl, bz7⟩; have szz7 := bz7.size; replace hB := hide ((unhide hB).trans (bz7.mono (unhide hB).size)); replace hl := hide ((unhide hl).grow bz7); replace ha := hide ((unhide ha).grow bz7); replace hb := hide ((unhide hb).grow bz7); clear bz7)
          | (have _t := tk8; clear tk8 _t; go_at_call 13; with_reducible refine (unhide hN2 _ _ (unhide ha)).mono ?_; rintro ez wz8 ⟨rfl, bz8⟩; have szz8 := bz8.size; replace hB := hide ((unhide hB).trans (bz8.mono (unhide hB).size)); replace hl := hide ((unhide hl).grow bz8); replace ha := hide ((unhide ha).grow bz8); replace hb := hide ((unhide hb).grow bz8); clear bz8)
          | fail)
        go_ret
        exact ⟨rfl, unhide hB⟩
      · have d1 : (o == g) = false := by rw [beq_eq_false_iff_ne]; exact hog
        have d2 := mn hog
        clear mn hog
        rw [d2] at hN2
        clear d2
        have tk0 : True := trivial
        have tk1 : True := trivial
        have tk2 : True := trivial
        have tk3 : True := trivial
        have tk4 : True := trivial
        have tk5 : True := trivial
        have tk6 : True := trivial
        have tk7 : True := trivial
        have tk8 : True := trivial
        go_enter Try.func4, Try.ntmps4
        go_wp2_with (first
          | (have _t := tk0; clear tk0 _t; go_at_call 8; with_reducible refine (unhide hL _).mono ?_; rintro ez wz0 ⟨rfl, bz0⟩; have szz0 := bz0.size; replace hB := hide ((unhide hB).trans (bz0.mono (unhide hB).size)); replace hl := hide ((unhide hl).grow bz0); clear bz0)
          | (have _t := tk1; clear tk1 _t; go_at_call 9; with_reducible refine (unhide hO _ (unhide hl)).mono ?_; rintro ez wz1 ⟨va, rfl, oha, bz1⟩; have szz1 := bz1.size; replace hB := hide ((unhide hB).trans (bz1.mono (unhide hB).size)); replace hl := hide ((unhide hl).grow bz1); (have ha := hide (oha.all)); clear oha; clear bz1)
          | (have _t := tk2; clear tk2 _t; go_at_call 11; with_reducible refine (unhide hC _ _ (unhide ha)).mono ?_; rintro ez wz2 ⟨vb, rfl, ohb, bz2⟩; have szz2 := bz2.size; replace hB := hide ((unhide hB).trans (bz2.mono (unhide hB).size)); replace hl := hide ((unhide hl).grow bz2); replace ha := hide ((unhide ha).grow bz2); (have hb := hide (ohb.all)); clear ohb; clear bz2)
          | (have _t := tk3; clear tk3 _t; go_at_call 13; with_reducible refine (unhide hM1 _ (unhide hl)).mono ?_; rintro ez wz3 ⟨rfl, bz3⟩; have szz3 := bz3.size; replace hB := hide ((unhide hB).trans (bz3.mono (unhide hB).size)); replace hl := hide ((unhide hl).grow bz3); replace ha := hide ((unhide ha).grow bz3); replace hb := hide ((unhide hb).grow bz3); clear bz3)
          | (have _t := tk4; clear tk4 _t; go_at_call 13; with_reducible refine (unhide hN1 _ _ (unhide ha)).mono ?_; rintro ez wz4 ⟨rfl, bz4⟩; have szz4 := bz4.size; replace hB := hide ((unhide hB).trans (bz4.mono (unhide hB).size)); replace hl := hide ((unhide hl).grow bz4); replace ha := hide ((unhide ha).grow bz4); replace hb := hide ((unhide hb).grow bz4); clear bz4)
          | (have _t := tk5; clear tk5 _t; go_at_call 20; with_reducible refine (unhide hS _ _ (unhide hb) (unhide hl)).mono ?_; rintro ez wz5 ⟨rfl, bz5⟩; have szz5 := bz5.size; replace hB := hide ((unhide hB).trans (bz5.mono (unhide hB).size)); replace hl := hide ((unhide hl).grow bz5); replace ha := hide ((unhide ha).grow bz5); replace hb := hide ((unhide hb).grow bz5); clear bz5)
          | (have _t := tk6; clear tk6 _t; go_at_call 18; with_reducible refine (unhide hK _ _ (unhide ha)).mono ?_; rintro ez wz6 ⟨rfl, bz6⟩; have szz6 := bz6.size; replace hB := hide ((unhide hB).trans (bz6.mono (unhide hB).size)); replace hl := hide ((unhide hl).grow bz6); replace ha := hide ((unhide ha).grow bz6); replace hb := hide ((unhide hb).grow bz6); clear bz6)
          | (have _t := tk7; clear tk7 _t; go_at_call 13; with_reducible refine (unhide hM2 _ (unhide hl)).mono ?_; rintro ez wz7 ⟨rfl, bz7⟩; have szz7 := bz7.size; replace hB := hide ((unhide hB).trans (bz7.mono (unhide hB).size)); replace hl := hide ((unhide hl).grow bz7); replace ha := hide ((unhide ha).grow bz7); replace hb := hide ((unhide hb).grow bz7); clear bz7)
          | (have _t := tk8; clear tk8 _t; go_at_call 13; with_reducible refine (unhide hN2 _ _ (unhide ha)).mono ?_; rintro ez wz8 ⟨rfl, bz8⟩; have szz8 := bz8.size; replace hB := hide ((unhide hB).trans (bz8.mono (unhide hB).size)); replace hl := hide ((unhide hl).grow bz8); replace ha := hide ((unhide ha).grow bz8); replace hb := hide ((unhide hb).grow bz8); clear bz8)
          | fail)
        go_ret
        exact ⟨rfl, unhide hB⟩
    · rw [openL_no hE] at hO
      have d1 : (openE l g != 0) = true := by rw [bne_iff_ne]; exact hE
      clear hE hs
      generalize openE l g = er at *
      replace hO := hide hO
      have tk0 : True := trivial
      have tk1 : True := trivial
      go_enter Try.func4, Try.ntmps4
      go_wp2_with (first
        | (have _t := tk0; clear tk0 _t; go_at_call 8; with_reducible refine (unhide hL _).mono ?_; rintro ez wz0 ⟨rfl, bz0⟩; have szz0 := bz0.size; replace hB := hide ((unhide hB).trans (bz0.mono (unhide hB).size)); replace hl := hide ((unhide hl).grow bz0); clear bz0)
        | (have _t := tk1; clear tk1 _t; go_at_call 9; with_reducible refine (unhide hO _ (unhide hl)).mono ?_; rintro ez wz1 ⟨va, rfl, oha, bz1⟩; have szz1 := bz1.size; replace hB := hide ((unhide hB).trans (bz1.mono (unhide hB).size)); replace hl := hide ((unhide hl).grow bz1); obtain ⟨Aa, ca, rfl⟩ := own_form oha; (have ha := hide (oha.all)); clear oha; clear bz1)
        | fail)
      go_ret
      exact ⟨rfl, unhide hB⟩
end Go.Proofs.Ythjgnbjobinhdaa
