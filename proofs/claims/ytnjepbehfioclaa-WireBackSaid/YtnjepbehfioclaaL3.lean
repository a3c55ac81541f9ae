import Derived.Test.YtnjepbehfioclaaL1
namespace Go.Proofs.Ytnjepbehfioclaa
open Go.RowKit
attribute [local go_sem] bz_size bz_toList run_store_float
set_option maxRecDepth 100000

set_option maxHeartbeats 2000000 in
theorem WireBack_any (va vb : Value) (l : List Fl) (b : List UInt8) (w : World) (ha : Fls 0 w.heap.size w va l) (hb : Bs 0 w.heap.size w vb b) (ia : InL l) :
    Calls Try.prog 4 #[va, vb] w fun e w' => e = .returned (.bool true) ∧ Below w.heap.size w w' := by
  have hL := fun W => live_any W
  have hFa := fun W (h : Fls 0 W.heap.size W va l) => cFew va l W h
  have hB : Below w.heap.size w w := Below.refl _ _
  have hb0 := hb
  obtain ⟨Ab, cb, rfl, hjunk⟩ := hb0.openB
  replace hL := hide hL; replace hB := hide hB; replace ha := hide ha; replace hb := hide hb
  clear hb0 hjunk
  cases fa : fewB l with
  | false =>
    rw [fa] at hFa
    replace hFa := hide hFa
    clear fa ia
    go_enter Try.func4, Try.ntmps4
    have tk0 : True := trivial
    have tk1 : True := trivial
    go_wp2_with (first
      | (have _t := tk0; clear tk0 _t; go_at_call 8; refine (unhide hL _).mono ?_; rintro ez wz0 ⟨rfl, bz0⟩; have szz0 := bz0.size; replace hB := hide ((unhide hB).trans (bz0.mono (unhide hB).size)); replace ha := hide (Rd.grow (unhide ha) bz0); replace hb := hide (Rd.grow (unhide hb) bz0); clear bz0)
      | (have _t := tk1; clear tk1 _t; go_at_call 9; refine (unhide hFa _ (unhide ha)).mono ?_; rintro ez wz1 ⟨rfl, bz1⟩; have szz1 := bz1.size; replace hB := hide ((unhide hB).trans (bz1.mono (unhide hB).size)); replace ha := hide (Rd.grow (unhide ha) bz1); replace hb := hide (Rd.grow (unhide hb) bz1); clear bz1)
      | fail)
    all_goals go_ret
    all_goals exact ⟨rfl, unhide hB⟩
  | true =>
    obtain ⟨sa, ua⟩ := small_few ia fa
    rw [fa] at hFa
    replace hFa := hide hFa
    clear fa
    by_cases n1 : 9000 < b.length
    · have d1 : (9000 : Int) < (b.length : Int) := by omega
      clear ia sa ua n1
      go_enter Try.func4, Try.ntmps4
      have tk0 : True := trivial
      have tk1 : True := trivial
      go_wp2_with (first
        | (have _t := tk0; clear tk0 _t; go_at_call 8; refine (unhide hL _).mono ?_; rintro ez wz0 ⟨rfl, bz0⟩; have szz0 := bz0.size; replace hB := hide ((unhide hB).trans (bz0.mono (unhide hB).size)); replace ha := hide (Rd.grow (unhide ha) bz0); replace hb := hide (Rd.grow (unhide hb) bz0); clear bz0)
        | (have _t := tk1; clear tk1 _t; go_at_call 9; refine (unhide hFa _ (unhide ha)).mono ?_; rintro ez wz1 ⟨rfl, bz1⟩; have szz1 := bz1.size; replace hB := hide ((unhide hB).trans (bz1.mono (unhide hB).size)); replace ha := hide (Rd.grow (unhide ha) bz1); replace hb := hide (Rd.grow (unhide hb) bz1); clear bz1)
        | fail)
      all_goals go_ret
      all_goals exact ⟨rfl, unhide hB⟩
    · have d1 : ¬ (9000 : Int) < (b.length : Int) := by omega
      have hR := fun W (h : Bs 0 W.heap.size W (.slice Ab b.length cb) b) => cFrom (.slice Ab b.length cb) b W h
      have hYa := fun W (h : Fls 0 W.heap.size W va l) => cBytes va l W h sa ua
      have hNa := fun W (h : Fls 0 W.heap.size W va l) => cLong va l W h sa
      have hKa := fun W (h : Fls 0 W.heap.size W va l) => cCheck va l W h sa
      have hfc := from_cases b (by omega)
      rcases hfc with hz | ⟨hz, hz2⟩
      · obtain ⟨f1, f2, f3, f4⟩ := from_back hz
        have hYt := fun (v : Value) W (h : Fls 0 W.heap.size W v (fromL b)) => cBytes v (fromL b) W h f3 f4
        have hKt := fun (v : Value) W (h : Fls 0 W.heap.size W v (fromL b)) => cCheck v (fromL b) W h f3
        have hSt := fun (v v' : Value) W (hx : Bs 0 W.heap.size W v b) (hy : Bs 0 W.heap.size W v' b) => cSameB W v v' b b hx hy
        have hbb : (b == b) = true := by simp
        rw [hz] at hR
        rw [f1, bytes_t f1, err_t, f2] at hYt
        rw [f1, err_t] at hKt
        rw [hbb] at hSt
        generalize fromL b = z at *
        replace hR := hide hR; replace hYt := hide hYt; replace hKt := hide hKt; replace hSt := hide hSt
        clear hz f1 f2 f3 f4 n1 hbb
        cases ta : tabB l with
        | false =>
          rw [ta, bytes_f ta, err_f] at hYa hNa
          rw [ta, err_f] at hKa
          replace hYa := hide hYa; replace hNa := hide hNa; replace hKa := hide hKa
          clear ta ia sa ua
          go_enter Try.func4, Try.ntmps4
          have tk0 : True := trivial
          have tk1 : True := trivial
          have tk2 : True := trivial
          have tk3 : True := trivial
          have tk4 : True := trivial
          have tk5 : True := trivial
          have tk6 : True := trivial
          have tk7 : True := trivial
          have tk8 : True := trivial
          go_wp2_with (first
            | (have _t := tk0; clear tk0 _t; go_at_call 8; refine (unhide hL _).mono ?_; rintro ez wz0 ⟨rfl, bz0⟩; have szz0 := bz0.size; replace hB := hide ((unhide hB).trans (bz0.mono (unhide hB).size)); replace ha := hide (Rd.grow (unhide ha) bz0); replace hb := hide (Rd.grow (unhide hb) bz0); clear bz0)
            | (have _t := tk1; clear tk1 _t; go_at_call 9; refine (unhide hFa _ (unhide ha)).mono ?_; rintro ez wz1 ⟨rfl, bz1⟩; have szz1 := bz1.size; replace hB := hide ((unhide hB).trans (bz1.mono (unhide hB).size)); replace ha := hide (Rd.grow (unhide ha) bz1); replace hb := hide (Rd.grow (unhide hb) bz1); clear bz1)
            | (have _t := tk2; clear tk2 _t; go_at_call 16; refine (unhide hR _ (unhide hb)).mono ?_; rintro ez wz2 ⟨A1, c1, rfl, oht, bz2⟩; have szz2 := bz2.size; replace hB := hide ((unhide hB).trans (bz2.mono (unhide hB).size)); replace ha := hide (Rd.grow (unhide ha) bz2); replace hb := hide (Rd.grow (unhide hb) bz2); (have ht := hide (own_fls oht)); clear oht; clear bz2)
            | (have _t := tk3; clear tk3 _t; go_at_call 10; refine (unhide hYt _ _ (unhide ht)).mono ?_; rintro ez wz3 ⟨A2, c2, rfl, ohu, bz3⟩; have szz3 := bz3.size; replace hB := hide ((unhide hB).trans (bz3.mono (unhide hB).size)); replace ha := hide (Rd.grow (unhide ha) bz3); replace hb := hide (Rd.grow (unhide hb) bz3); replace ht := hide (Rd.grow (unhide ht) bz3); (have hu := hide ohu); clear ohu; clear bz3)
            | (have _t := tk4; clear tk4 _t; go_at_call 18; refine (unhide hSt _ _ _ (unhide hu) (unhide hb)).mono ?_; rintro ez wz4 ⟨rfl, bz4⟩; have szz4 := bz4.size; replace hB := hide ((unhide hB).trans (bz4.mono (unhide hB).size)); replace ha := hide (Rd.grow (unhide ha) bz4); replace hb := hide (Rd.grow (unhide hb) bz4); replace ht := hide (Rd.grow (unhide ht) bz4); replace hu := hide (Rd.grow (unhide hu) bz4); clear bz4)
            | (have _t := tk5; clear tk5 _t; go_at_call 20; refine (unhide hKt _ _ (unhide ht)).mono ?_; rintro ez wz5 ⟨rfl, bz5⟩; have szz5 := bz5.size; replace hB := hide ((unhide hB).trans (bz5.mono (unhide hB).size)); replace ha := hide (Rd.grow (unhide ha) bz5); replace hb := hide (Rd.grow (unhide hb) bz5); replace ht := hide (Rd.grow (unhide ht) bz5); replace hu := hide (Rd.grow (unhide hu) bz5); clear bz5)
            | (have _t := tk6; clear tk6 _t; go_at_call 10; refine (unhide hYa _ (unhide ha)).mono ?_; rintro ez wz6 ⟨A7, c7, rfl, ohx, bz6⟩; have szz6 := bz6.size; replace hB := hide ((unhide hB).trans (bz6.mono (unhide hB).size)); replace ha := hide (Rd.grow (unhide ha) bz6); replace hb := hide (Rd.grow (unhide hb) bz6); replace ht := hide (Rd.grow (unhide ht) bz6); replace hu := hide (Rd.grow (unhide hu) bz6); (have hx := hide ohx); clear ohx; clear bz6)
            | (have _t := tk7; clear tk7 _t; go_at_call 14; refine (unhide hNa _ (unhide ha)).mono ?_; rintro ez wz7 ⟨rfl, bz7⟩; have szz7 := bz7.size; replace hB := hide ((unhide hB).trans (bz7.mono (unhide hB).size)); replace ha := hide (Rd.grow (unhide ha) bz7); replace hb := hide (Rd.grow (unhide hb) bz7); replace ht := hide (Rd.grow (unhide ht) bz7); replace hu := hide (Rd.grow (unhide hu) bz7); replace hx := hide (Rd.grow (unhide hx) bz7); clear bz7)
            | (have _t := tk8; clear tk8 _t; go_at_call 20; refine (unhide hKa _ (unhide ha)).mono ?_; rintro ez wz8 ⟨rfl, bz8⟩; have szz8 := bz8.size; replace hB := hide ((unhide hB).trans (bz8.mono (unhide hB).size)); replace ha := hide (Rd.grow (unhide ha) bz8); replace hb := hide (Rd.grow (unhide hb) bz8); replace ht := hide (Rd.grow (unhide ht) bz8); replace hu := hide (Rd.grow (unhide hu) bz8); replace hx := hide (Rd.grow (unhide hx) bz8); clear bz8)
            | fail)
          all_goals go_ret
          all_goals exact ⟨rfl, unhide hB⟩
        | true =>
          have hsm : SmL (l.map canF) := by rw [← (from_of ta ia).1]; exact (from_sm (tabT l)).1
          have hQ := fun W (A7 : Option Addr) (c7 : Nat) (h : Bs 0 W.heap.size W (.slice A7 (tabT l).length c7) (tabT l)) => cFrom (.slice A7 (tabT l).length c7) (tabT l) W h
          have hZ := fun (v : Value) W (h : Fls 0 W.heap.size W v (l.map canF)) (h' : Fls 0 W.heap.size W va l) => cSame W v va (l.map canF) l h h' hsm sa
          rw [(from_of ta ia).1, (from_of ta ia).2] at hQ
          rw [same_back l] at hZ
          rw [ta, bytes_t ta, err_t] at hYa hNa
          generalize tabT l = x at *
          generalize l.map canF = y at *
          replace hYa := hide hYa; replace hNa := hide hNa; replace hQ := hide hQ; replace hZ := hide hZ
          clear ta ia sa ua hKa hsm
          go_enter Try.func4, Try.ntmps4
          have tk0 : True := trivial
          have tk1 : True := trivial
          have tk2 : True := trivial
          have tk3 : True := trivial
          have tk4 : True := trivial
          have tk5 : True := trivial
          have tk6 : True := trivial
          have tk7 : True := trivial
          have tk8 : True := trivial
          have tk9 : True := trivial
          go_wp2_with (first
            | (have _t := tk0; clear tk0 _t; go_at_call 8; refine (unhide hL _).mono ?_; rintro ez wz0 ⟨rfl, bz0⟩; have szz0 := bz0.size; replace hB := hide ((unhide hB).trans (bz0.mono (unhide hB).size)); replace ha := hide (Rd.grow (unhide ha) bz0); replace hb := hide (Rd.grow (unhide hb) bz0); clear bz0)
            | (have _t := tk1; clear tk1 _t; go_at_call 9; refine (unhide hFa _ (unhide ha)).mono ?_; rintro ez wz1 ⟨rfl, bz1⟩; have szz1 := bz1.size; replace hB := hide ((unhide hB).trans (bz1.mono (unhide hB).size)); replace ha := hide (Rd.grow (unhide ha) bz1); replace hb := hide (Rd.grow (unhide hb) bz1); clear bz1)
            | (have _t := tk2; clear tk2 _t; go_at_call 16; refine (unhide hR _ (unhide hb)).mono ?_; rintro ez wz2 ⟨A1, c1, rfl, oht, bz2⟩; have szz2 := bz2.size; replace hB := hide ((unhide hB).trans (bz2.mono (unhide hB).size)); replace ha := hide (Rd.grow (unhide ha) bz2); replace hb := hide (Rd.grow (unhide hb) bz2); (have ht := hide (own_fls oht)); clear oht; clear bz2)
            | (have _t := tk3; clear tk3 _t; go_at_call 10; refine (unhide hYt _ _ (unhide ht)).mono ?_; rintro ez wz3 ⟨A2, c2, rfl, ohu, bz3⟩; have szz3 := bz3.size; replace hB := hide ((unhide hB).trans (bz3.mono (unhide hB).size)); replace ha := hide (Rd.grow (unhide ha) bz3); replace hb := hide (Rd.grow (unhide hb) bz3); replace ht := hide (Rd.grow (unhide ht) bz3); (have hu := hide ohu); clear ohu; clear bz3)
            | (have _t := tk4; clear tk4 _t; go_at_call 18; refine (unhide hSt _ _ _ (unhide hu) (unhide hb)).mono ?_; rintro ez wz4 ⟨rfl, bz4⟩; have szz4 := bz4.size; replace hB := hide ((unhide hB).trans (bz4.mono (unhide hB).size)); replace ha := hide (Rd.grow (unhide ha) bz4); replace hb := hide (Rd.grow (unhide hb) bz4); replace ht := hide (Rd.grow (unhide ht) bz4); replace hu := hide (Rd.grow (unhide hu) bz4); clear bz4)
            | (have _t := tk5; clear tk5 _t; go_at_call 20; refine (unhide hKt _ _ (unhide ht)).mono ?_; rintro ez wz5 ⟨rfl, bz5⟩; have szz5 := bz5.size; replace hB := hide ((unhide hB).trans (bz5.mono (unhide hB).size)); replace ha := hide (Rd.grow (unhide ha) bz5); replace hb := hide (Rd.grow (unhide hb) bz5); replace ht := hide (Rd.grow (unhide ht) bz5); replace hu := hide (Rd.grow (unhide hu) bz5); clear bz5)
            | (have _t := tk6; clear tk6 _t; go_at_call 10; refine (unhide hYa _ (unhide ha)).mono ?_; rintro ez wz6 ⟨A7, c7, rfl, ohx, bz6⟩; have szz6 := bz6.size; replace hB := hide ((unhide hB).trans (bz6.mono (unhide hB).size)); replace ha := hide (Rd.grow (unhide ha) bz6); replace hb := hide (Rd.grow (unhide hb) bz6); replace ht := hide (Rd.grow (unhide ht) bz6); replace hu := hide (Rd.grow (unhide hu) bz6); (have hx := hide ohx); clear ohx; clear bz6)
            | (have _t := tk7; clear tk7 _t; go_at_call 14; refine (unhide hNa _ (unhide ha)).mono ?_; rintro ez wz7 ⟨rfl, bz7⟩; have szz7 := bz7.size; replace hB := hide ((unhide hB).trans (bz7.mono (unhide hB).size)); replace ha := hide (Rd.grow (unhide ha) bz7); replace hb := hide (Rd.grow (unhide hb) bz7); replace ht := hide (Rd.grow (unhide ht) bz7); replace hu := hide (Rd.grow (unhide hu) bz7); replace hx := hide (Rd.grow (unhide hx) bz7); clear bz7)
            | (have _t := tk8; clear tk8 _t; go_at_call 16; refine (unhide hQ _ _ _ (unhide hx)).mono ?_; rintro ez wz8 ⟨A8, c8, rfl, ohy, bz8⟩; have szz8 := bz8.size; replace hB := hide ((unhide hB).trans (bz8.mono (unhide hB).size)); replace ha := hide (Rd.grow (unhide ha) bz8); replace hb := hide (Rd.grow (unhide hb) bz8); replace ht := hide (Rd.grow (unhide ht) bz8); replace hu := hide (Rd.grow (unhide hu) bz8); replace hx := hide (Rd.grow (unhide hx) bz8); (have hy := hide (own_fls ohy)); clear ohy; clear bz8)
            | (have _t := tk9; clear tk9 _t; go_at_call 21; refine (unhide hZ _ _ (unhide hy) (unhide ha)).mono ?_; rintro ez wz9 ⟨rfl, bz9⟩; have szz9 := bz9.size; replace hB := hide ((unhide hB).trans (bz9.mono (unhide hB).size)); replace ha := hide (Rd.grow (unhide ha) bz9); replace hb := hide (Rd.grow (unhide hb) bz9); replace ht := hide (Rd.grow (unhide ht) bz9); replace hu := hide (Rd.grow (unhide hu) bz9); replace hx := hide (Rd.grow (unhide hx) bz9); replace hy := hide (Rd.grow (unhide hy) bz9); clear bz9)
            | fail)
          all_goals go_ret
          all_goals exact ⟨rfl, unhide hB⟩
      · rw [hz, hz2] at hR
        replace hR := hide hR
        clear hz hz2 n1
        cases ta : tabB l with
        | false =>
          rw [ta, bytes_f ta, err_f] at hYa hNa
          rw [ta, err_f] at hKa
          replace hYa := hide hYa; replace hNa := hide hNa; replace hKa := hide hKa
          clear ta ia sa ua
          go_enter Try.func4, Try.ntmps4
          have tk0 : True := trivial
          have tk1 : True := trivial
          have tk2 : True := trivial
          have tk3 : True := trivial
          have tk4 : True := trivial
          have tk5 : True := trivial
          go_wp2_with (first
            | (have _t := tk0; clear tk0 _t; go_at_call 8; refine (unhide hL _).mono ?_; rintro ez wz0 ⟨rfl, bz0⟩; have szz0 := bz0.size; replace hB := hide ((unhide hB).trans (bz0.mono (unhide hB).size)); replace ha := hide (Rd.grow (unhide ha) bz0); replace hb := hide (Rd.grow (unhide hb) bz0); clear bz0)
            | (have _t := tk1; clear tk1 _t; go_at_call 9; refine (unhide hFa _ (unhide ha)).mono ?_; rintro ez wz1 ⟨rfl, bz1⟩; have szz1 := bz1.size; replace hB := hide ((unhide hB).trans (bz1.mono (unhide hB).size)); replace ha := hide (Rd.grow (unhide ha) bz1); replace hb := hide (Rd.grow (unhide hb) bz1); clear bz1)
            | (have _t := tk2; clear tk2 _t; go_at_call 16; refine (unhide hR _ (unhide hb)).mono ?_; rintro ez wz2 ⟨A1, c1, rfl, oht, bz2⟩; have szz2 := bz2.size; replace hB := hide ((unhide hB).trans (bz2.mono (unhide hB).size)); replace ha := hide (Rd.grow (unhide ha) bz2); replace hb := hide (Rd.grow (unhide hb) bz2); (have ht := hide (own_fls oht)); clear oht; clear bz2)
            | (have _t := tk3; clear tk3 _t; go_at_call 10; refine (unhide hYa _ (unhide ha)).mono ?_; rintro ez wz3 ⟨A7, c7, rfl, ohx, bz3⟩; have szz3 := bz3.size; replace hB := hide ((unhide hB).trans (bz3.mono (unhide hB).size)); replace ha := hide (Rd.grow (unhide ha) bz3); replace hb := hide (Rd.grow (unhide hb) bz3); replace ht := hide (Rd.grow (unhide ht) bz3); (have hx := hide ohx); clear ohx; clear bz3)
            | (have _t := tk4; clear tk4 _t; go_at_call 14; refine (unhide hNa _ (unhide ha)).mono ?_; rintro ez wz4 ⟨rfl, bz4⟩; have szz4 := bz4.size; replace hB := hide ((unhide hB).trans (bz4.mono (unhide hB).size)); replace ha := hide (Rd.grow (unhide ha) bz4); replace hb := hide (Rd.grow (unhide hb) bz4); replace ht := hide (Rd.grow (unhide ht) bz4); replace hx := hide (Rd.grow (unhide hx) bz4); clear bz4)
            | (have _t := tk5; clear tk5 _t; go_at_call 20; refine (unhide hKa _ (unhide ha)).mono ?_; rintro ez wz5 ⟨rfl, bz5⟩; have szz5 := bz5.size; replace hB := hide ((unhide hB).trans (bz5.mono (unhide hB).size)); replace ha := hide (Rd.grow (unhide ha) bz5); replace hb := hide (Rd.grow (unhide hb) bz5); replace ht := hide (Rd.grow (unhide ht) bz5); replace hx := hide (Rd.grow (unhide hx) bz5); clear bz5)
            | fail)
          all_goals go_ret
          all_goals exact ⟨rfl, unhide hB⟩
        | true =>
          have hsm : SmL (l.map canF) := by rw [← (from_of ta ia).1]; exact (from_sm (tabT l)).1
          have hQ := fun W (A7 : Option Addr) (c7 : Nat) (h : Bs 0 W.heap.size W (.slice A7 (tabT l).length c7) (tabT l)) => cFrom (.slice A7 (tabT l).length c7) (tabT l) W h
          have hZ := fun (v : Value) W (h : Fls 0 W.heap.size W v (l.map canF)) (h' : Fls 0 W.heap.size W va l) => cSame W v va (l.map canF) l h h' hsm sa
          rw [(from_of ta ia).1, (from_of ta ia).2] at hQ
          rw [same_back l] at hZ
          rw [ta, bytes_t ta, err_t] at hYa hNa
          generalize tabT l = x at *
          generalize l.map canF = y at *
          replace hYa := hide hYa; replace hNa := hide hNa; replace hQ := hide hQ; replace hZ := hide hZ
          clear ta ia sa ua hKa hsm
          go_enter Try.func4, Try.ntmps4
          have tk0 : True := trivial
          have tk1 : True := trivial
          have tk2 : True := trivial
          have tk3 : True := trivial
          have tk4 : True := trivial
          have tk5 : True := trivial
          have tk6 : True := trivial
          go_wp2_with (first
            | (have _t := tk0; clear tk0 _t; go_at_call 8; refine (unhide hL _).mono ?_; rintro ez wz0 ⟨rfl, bz0⟩; have szz0 := bz0.size; replace hB := hide ((unhide hB).trans (bz0.mono (unhide hB).size)); replace ha := hide (Rd.grow (unhide ha) bz0); replace hb := hide (Rd.grow (unhide hb) bz0); clear bz0)
            | (have _t := tk1; clear tk1 _t; go_at_call 9; refine (unhide hFa _ (unhide ha)).mono ?_; rintro ez wz1 ⟨rfl, bz1⟩; have szz1 := bz1.size; replace hB := hide ((unhide hB).trans (bz1.mono (unhide hB).size)); replace ha := hide (Rd.grow (unhide ha) bz1); replace hb := hide (Rd.grow (unhide hb) bz1); clear bz1)
            | (have _t := tk2; clear tk2 _t; go_at_call 16; refine (unhide hR _ (unhide hb)).mono ?_; rintro ez wz2 ⟨A1, c1, rfl, oht, bz2⟩; have szz2 := bz2.size; replace hB := hide ((unhide hB).trans (bz2.mono (unhide hB).size)); replace ha := hide (Rd.grow (unhide ha) bz2); replace hb := hide (Rd.grow (unhide hb) bz2); (have ht := hide (own_fls oht)); clear oht; clear bz2)
            | (have _t := tk3; clear tk3 _t; go_at_call 10; refine (unhide hYa _ (unhide ha)).mono ?_; rintro ez wz3 ⟨A7, c7, rfl, ohx, bz3⟩; have szz3 := bz3.size; replace hB := hide ((unhide hB).trans (bz3.mono (unhide hB).size)); replace ha := hide (Rd.grow (unhide ha) bz3); replace hb := hide (Rd.grow (unhide hb) bz3); replace ht := hide (Rd.grow (unhide ht) bz3); (have hx := hide ohx); clear ohx; clear bz3)
            | (have _t := tk4; clear tk4 _t; go_at_call 14; refine (unhide hNa _ (unhide ha)).mono ?_; rintro ez wz4 ⟨rfl, bz4⟩; have szz4 := bz4.size; replace hB := hide ((unhide hB).trans (bz4.mono (unhide hB).size)); replace ha := hide (Rd.grow (unhide ha) bz4); replace hb := hide (Rd.grow (unhide hb) bz4); replace ht := hide (Rd.grow (unhide ht) bz4); replace hx := hide (Rd.grow (unhide hx) bz4); clear bz4)
            | (have _t := tk5; clear tk5 _t; go_at_call 16; refine (unhide hQ _ _ _ (unhide hx)).mono ?_; rintro ez wz5 ⟨A8, c8, rfl, ohy, bz5⟩; have szz5 := bz5.size; replace hB := hide ((unhide hB).trans (bz5.mono (unhide hB).size)); replace ha := hide (Rd.grow (unhide ha) bz5); replace hb := hide (Rd.grow (unhide hb) bz5); replace ht := hide (Rd.grow (unhide ht) bz5); replace hx := hide (Rd.grow (unhide hx) bz5); (have hy := hide (own_fls ohy)); clear ohy; clear bz5)
            | (have _t := tk6; clear tk6 _t; go_at_call 21; refine (unhide hZ _ _ (unhide hy) (unhide ha)).mono ?_; rintro ez wz6 ⟨rfl, bz6⟩; have szz6 := bz6.size; replace hB := hide ((unhide hB).trans (bz6.mono (unhide hB).size)); replace ha := hide (Rd.grow (unhide ha) bz6); replace hb := hide (Rd.grow (unhide hb) bz6); replace ht := hide (Rd.grow (unhide ht) bz6); replace hx := hide (Rd.grow (unhide hx) bz6); replace hy := hide (Rd.grow (unhide hy) bz6); clear bz6)
            | fail)
          all_goals go_ret
          all_goals exact ⟨rfl, unhide hB⟩
end Go.Proofs.Ytnjepbehfioclaa
