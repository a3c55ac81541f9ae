import Derived.Test.YthjgnbjobinhdaaL1
namespace Go.Proofs.Ythjgnbjobinhdaa
open Go.RowKit
set_option maxRecDepth 100000

theorem put_comm {l : List Pn} (h : Up l) {a b x y : Int} (hn : a ≠ b) : putP (putP l a x) b y = putP (putP l b y) a x := by
  refine up_ext (up_put (up_put h a x) b y) (up_put (up_put h b y) a x) fun p => ?_
  rw [mem_put, mem_put, mem_put, mem_put]
  constructor
  · rintro (⟨⟨h1, h2⟩ | ⟨h1, rfl⟩, h3⟩ | ⟨h1, rfl⟩)
    · exact .inl ⟨.inl ⟨h1, h3⟩, h2⟩
    · exact .inr ⟨h1, rfl⟩
    · exact .inl ⟨.inr ⟨h1, rfl⟩, fun e => hn e.symm⟩
  · rintro (⟨⟨h1, h2⟩ | ⟨h1, rfl⟩, h3⟩ | ⟨h1, rfl⟩)
    · exact .inl ⟨.inl ⟨h1, h3⟩, h2⟩
    · exact .inr ⟨h1, rfl⟩
    · exact .inl ⟨.inr ⟨h1, rfl⟩, hn⟩
theorem open_comm {l : List Pn} {a b : Int} (ha : 0 ≤ a) (hb : 0 ≤ b) (hl : l.length ≤ 60) (h1 : openE l a = 0) (h2 : openE l b = 0) :
    openE (openL l b) a = openE (openL l a) b ∧ openL (openL l b) a = openL (openL l a) b := by
  by_cases e : a = b
  · subst e; exact ⟨rfl, rfl⟩
  · obtain ⟨m1, n1, _⟩ := open_ok.1 h1
    obtain ⟨m2, n2, _⟩ := open_ok.1 h2
    obtain ⟨g1, hp⟩ := may_iff.1 m1
    obtain ⟨g2, _⟩ := may_iff.1 m2
    have x1 := many_lo hp a
    have x2 := many_lo hp b
    have pa := pins_open l ha
    have pb := pins_open l hb
    have ea : manyP (openL l a) b = manyP l b := by rw [openL_ok h1, many_put hp.up (by omega), if_neg (fun h => e h.symm)]
    have eb : manyP (openL l b) a = manyP l a := by rw [openL_ok h2, many_put hp.up (by omega), if_neg e]
    have la : (openL l a).length ≤ 61 := by
      have := len_put hp a (manyP l a + 1)
      rw [openL_ok h1]
      split at this <;> split at this <;> omega
    have lb : (openL l b).length ≤ 61 := by
      have := len_put hp b (manyP l b + 1)
      rw [openL_ok h2]
      split at this <;> split at this <;> omega
    have c1 : openE (openL l a) b = 0 := open_ok.2 ⟨may_iff.2 ⟨g2, pa⟩, by rw [ea]; exact n2, fun _ => by omega⟩
    have c2 : openE (openL l b) a = 0 := open_ok.2 ⟨may_iff.2 ⟨g1, pb⟩, by rw [eb]; exact n1, fun _ => by omega⟩
    refine ⟨c2.trans c1.symm, ?_⟩
    rw [openL_ok c1, openL_ok c2, ea, eb, openL_ok h1, openL_ok h2]
    exact put_comm hp.up (fun h => e h.symm)
theorem close_comm {l : List Pn} {a b : Int} (ha : 0 ≤ a) (hb : 0 ≤ b) (h1 : closeE l a = 0) (h2 : closeE l b = 0) :
    closeE (closeL l b) a = closeE (closeL l a) b ∧ closeL (closeL l b) a = closeL (closeL l a) b ∧ (a ≠ b → closeE (closeL l a) b = 0) := by
  by_cases e : a = b
  · subst e; exact ⟨rfl, rfl, fun h => absurd rfl h⟩
  · obtain ⟨m1, n1⟩ := close_ok.1 h1
    obtain ⟨m2, n2⟩ := close_ok.1 h2
    obtain ⟨g1, hp⟩ := may_iff.1 m1
    obtain ⟨g2, _⟩ := may_iff.1 m2
    have x1 := many_lo hp a
    have x2 := many_lo hp b
    have pa := pins_close l ha
    have pb := pins_close l hb
    have ea : manyP (closeL l a) b = manyP l b := by rw [closeL_ok h1, many_put hp.up (by omega), if_neg (fun h => e h.symm)]
    have eb : manyP (closeL l b) a = manyP l a := by rw [closeL_ok h2, many_put hp.up (by omega), if_neg e]
    have c1 : closeE (closeL l a) b = 0 := close_ok.2 ⟨may_iff.2 ⟨g2, pa⟩, by rw [ea]; exact n2⟩
    have c2 : closeE (closeL l b) a = 0 := close_ok.2 ⟨may_iff.2 ⟨g1, pb⟩, by rw [eb]; exact n1⟩
    refine ⟨c2.trans c1.symm, ?_, fun _ => c1⟩
    rw [closeL_ok c1, closeL_ok c2, ea, eb, closeL_ok h1, closeL_ok h2]
    exact put_comm hp.up (fun h => e h.symm)

set_option maxHeartbeats 4000000 in
theorem PinsOrder_any (v : Value) (l : List Pn) (a b : Int) (w : World) (h : Pns 0 w.heap.size w v l) (hs : SmL l) (ha : 0 ≤ a) (hb : 0 ≤ b) :
    Calls Try.prog 6 #[v, .int .u64 a, .int .u64 b] w fun e w' => e = .returned (.bool true) ∧ Below w.heap.size w w' := by
  have hL := fun W => live_any W
  have hB : Hid (Below w.heap.size w w) := hide (Below.refl _ _)
  have hl := h
  obtain ⟨A, c, rfl, h1, h2, h3⟩ := h
  clear h3
  replace hL := hide hL; replace hl := hide hl
  by_cases h60 : 60 < l.length
  · have d60 : (60 : Int) < (l.length : Int) := by omega
    clear hs
    have tk0 : True := trivial
    go_enter Try.func6, Try.ntmps6
    go_wp2_with (first
      | (have _t := tk0; clear tk0 _t; go_at_call 8; with_reducible refine (unhide hL _).mono ?_; rintro ez wz0 ⟨rfl, bz0⟩; have szz0 := bz0.size; replace hB := hide ((unhide hB).trans (bz0.mono (unhide hB).size)); replace hl := hide ((unhide hl).grow bz0); clear bz0)
      | fail)
    go_ret
    exact ⟨rfl, unhide hB⟩
  · have d60 : ¬ (60 : Int) < (l.length : Int) := by omega
    have hO := fun W x (h : Pns 0 W.heap.size W (.slice A l.length c) l) => Open_any 0 W.heap.size _ l x W h (Nat.le_refl _) hs
    have hC := fun W x (h : Pns 0 W.heap.size W (.slice A l.length c) l) => Close_any 0 W.heap.size _ l x W h (Nat.le_refl _) hs
    have hO2 := fun W v x y (h0 : 0 ≤ x) (h : Pns 0 W.heap.size W v (openL l x)) => Open_any 0 W.heap.size v (openL l x) y W h (Nat.le_refl _) (pins_open l h0).sm
    have hC2 := fun W v x y (h0 : 0 ≤ x) (h : Pns 0 W.heap.size W v (closeL l x)) => Close_any 0 W.heap.size v (closeL l x) y W h (Nat.le_refl _) (pins_close l h0).sm
    have hO1 := fun W h => hO W a h
    have hO1' := fun W h => hO W b h
    have hC1 := fun W h => hC W a h
    have hC1' := fun W h => hC W b h
    have hOx := fun W v h => hO2 W v a b ha h
    have hOy := fun W v h => hO2 W v b a hb h
    have hCx := fun W v h => hC2 W v a b ha h
    have hCy := fun W v h => hC2 W v b a hb h
    have oc := fun h1 h2 => open_comm (l := l) ha hb (by omega) h1 h2
    have cc := fun h1 h2 => close_comm (l := l) ha hb h1 h2
    have hS := fun W v v' (q : List Pn) (h : Pns 0 W.heap.size W v q) (h' : Pns 0 W.heap.size W v' q) => Same_any 0 W.heap.size 0 W.heap.size v v' q q W h h' (Nat.le_refl _) (Nat.le_refl _)
    replace hS := fun W v v' q h h' => (same_self q) ▸ hS W v v' q h h'
    clear hO hC hO2 hC2 hs ha hb h60
    generalize openL (openL l a) b = s1 at *
    generalize openL (openL l b) a = s2 at *
    generalize closeL (closeL l a) b = s3 at *
    generalize closeL (closeL l b) a = s4 at *
    generalize openE (openL l a) b = f1 at *
    generalize openE (openL l b) a = f2 at *
    generalize closeE (closeL l a) b = f3 at *
    generalize closeE (closeL l b) a = f4 at *
    generalize openL l a = x1 at *
    generalize openL l b = y1 at *
    generalize closeL l a = x2 at *
    generalize closeL l b = y2 at *
    generalize openE l a = e1 at *
    generalize openE l b = e2 at *
    generalize closeE l a = e3 at *
    generalize closeE l b = e4 at *
    replace hO1 := hide hO1; replace hO1' := hide hO1'; replace hC1 := hide hC1; replace hC1' := hide hC1'; replace hOx := hide hOx; replace hOy := hide hOy; replace hCx := hide hCx; replace hCy := hide hCy; replace hS := hide hS
    by_cases he1 : e1 = 0
    · by_cases he2 : e2 = 0
      · obtain ⟨g1, g2⟩ := oc he1 he2
        subst he1 he2 g1 g2
        clear oc
        by_cases he3 : e3 = 0
        · by_cases he4 : e4 = 0
          · obtain ⟨g1, g2, g3⟩ := cc he3 he4
            subst he3 he4 g1 g2
            clear cc
            by_cases hab : a = b
            · have d9 : (a == b) = true := beq_iff_eq.2 hab
              clear g3 hab
              have tk0 : True := trivial
              have tk1 : True := trivial
              have tk2 : True := trivial
              have tk3 : True := trivial
              have tk4 : True := trivial
              have tk5 : True := trivial
              have tk6 : True := trivial
              have tk7 : True := trivial
              have tk8 : True := trivial
              have tk9 : True := trivial
              have tk10 : True := trivial
              go_enter Try.func6, Try.ntmps6
              go_wp2_with (first
                | (have _t := tk0; clear tk0 _t; go_at_call 8; with_reducible refine (unhide hL _).mono ?_; rintro ez wz0 ⟨rfl, bz0⟩; have szz0 := bz0.size; replace hB := hide ((unhide hB).trans (bz0.mono (unhide hB).size)); replace hl := hide ((unhide hl).grow bz0); clear bz0)
                | (have _t := tk1; clear tk1 _t; go_at_call 9; with_reducible refine (unhide hO1 _ (unhide hl)).mono ?_; rintro ez wz1 ⟨va, rfl, oxa, bz1⟩; have szz1 := bz1.size; replace hB := hide ((unhide hB).trans (bz1.mono (unhide hB).size)); replace hl := hide ((unhide hl).grow bz1); (have xa := hide (oxa.all)); clear oxa; clear bz1)
                | (have _t := tk2; clear tk2 _t; go_at_call 9; with_reducible refine (unhide hO1' _ (unhide hl)).mono ?_; rintro ez wz2 ⟨vb, rfl, oya, bz2⟩; have szz2 := bz2.size; replace hB := hide ((unhide hB).trans (bz2.mono (unhide hB).size)); replace hl := hide ((unhide hl).grow bz2); replace xa := hide ((unhide xa).grow bz2); (have ya := hide (oya.all)); clear oya; clear bz2)
                | (have _t := tk3; clear tk3 _t; go_at_call 9; with_reducible refine (unhide hOx _ _ (unhide xa)).mono ?_; rintro ez wz3 ⟨vs, rfl, osa, bz3⟩; have szz3 := bz3.size; replace hB := hide ((unhide hB).trans (bz3.mono (unhide hB).size)); replace hl := hide ((unhide hl).grow bz3); replace xa := hide ((unhide xa).grow bz3); replace ya := hide ((unhide ya).grow bz3); (have sa := hide (osa.all)); clear osa; clear bz3)
                | (have _t := tk4; clear tk4 _t; go_at_call 9; with_reducible refine (unhide hOy _ _ (unhide ya)).mono ?_; rintro ez wz4 ⟨vt, rfl, ota, bz4⟩; have szz4 := bz4.size; replace hB := hide ((unhide hB).trans (bz4.mono (unhide hB).size)); replace hl := hide ((unhide hl).grow bz4); replace xa := hide ((unhide xa).grow bz4); replace ya := hide ((unhide ya).grow bz4); replace sa := hide ((unhide sa).grow bz4); (have ta := hide (ota.all)); clear ota; clear bz4)
                | (have _t := tk5; clear tk5 _t; go_at_call 20; with_reducible refine (unhide hS _ _ _ _ (unhide sa) (unhide ta)).mono ?_; rintro ez wz5 ⟨rfl, bz5⟩; have szz5 := bz5.size; replace hB := hide ((unhide hB).trans (bz5.mono (unhide hB).size)); replace hl := hide ((unhide hl).grow bz5); replace xa := hide ((unhide xa).grow bz5); replace ya := hide ((unhide ya).grow bz5); replace sa := hide ((unhide sa).grow bz5); replace ta := hide ((unhide ta).grow bz5); clear bz5)
                | (have _t := tk6; clear tk6 _t; go_at_call 11; with_reducible refine (unhide hC1 _ (unhide hl)).mono ?_; rintro ez wz6 ⟨vc, rfl, oxc, bz6⟩; have szz6 := bz6.size; replace hB := hide ((unhide hB).trans (bz6.mono (unhide hB).size)); replace hl := hide ((unhide hl).grow bz6); replace xa := hide ((unhide xa).grow bz6); replace ya := hide ((unhide ya).grow bz6); replace sa := hide ((unhide sa).grow bz6); replace ta := hide ((unhide ta).grow bz6); (have xc := hide (oxc.all)); clear oxc; clear bz6)
                | (have _t := tk7; clear tk7 _t; go_at_call 11; with_reducible refine (unhide hC1' _ (unhide hl)).mono ?_; rintro ez wz7 ⟨vd, rfl, oyc, bz7⟩; have szz7 := bz7.size; replace hB := hide ((unhide hB).trans (bz7.mono (unhide hB).size)); replace hl := hide ((unhide hl).grow bz7); replace xa := hide ((unhide xa).grow bz7); replace ya := hide ((unhide ya).grow bz7); replace sa := hide ((unhide sa).grow bz7); replace ta := hide ((unhide ta).grow bz7); replace xc := hide ((unhide xc).grow bz7); (have yc := hide (oyc.all)); clear oyc; clear bz7)
                | (have _t := tk8; clear tk8 _t; go_at_call 11; with_reducible refine (unhide hCx _ _ (unhide xc)).mono ?_; rintro ez wz8 ⟨vp, rfl, opa, bz8⟩; have szz8 := bz8.size; replace hB := hide ((unhide hB).trans (bz8.mono (unhide hB).size)); replace hl := hide ((unhide hl).grow bz8); replace xa := hide ((unhide xa).grow bz8); replace ya := hide ((unhide ya).grow bz8); replace sa := hide ((unhide sa).grow bz8); replace ta := hide ((unhide ta).grow bz8); replace xc := hide ((unhide xc).grow bz8); replace yc := hide ((unhide yc).grow bz8); (have pa := hide (opa.all)); clear opa; clear bz8)
                | (have _t := tk9; clear tk9 _t; go_at_call 11; with_reducible refine (unhide hCy _ _ (unhide yc)).mono ?_; rintro ez wz9 ⟨vq, rfl, oqa, bz9⟩; have szz9 := bz9.size; replace hB := hide ((unhide hB).trans (bz9.mono (unhide hB).size)); replace hl := hide ((unhide hl).grow bz9); replace xa := hide ((unhide xa).grow bz9); replace ya := hide ((unhide ya).grow bz9); replace sa := hide ((unhide sa).grow bz9); replace ta := hide ((unhide ta).grow bz9); replace xc := hide ((unhide xc).grow bz9); replace yc := hide ((unhide yc).grow bz9); replace pa := hide ((unhide pa).grow bz9); (have qa := hide (oqa.all)); clear oqa; clear bz9)
                | (have _t := tk10; clear tk10 _t; go_at_call 20; with_reducible refine (unhide hS _ _ _ _ (unhide pa) (unhide qa)).mono ?_; rintro ez wz10 ⟨rfl, bz10⟩; have szz10 := bz10.size; replace hB := hide ((unhide hB).trans (bz10.mono (unhide hB).size)); replace hl := hide ((unhide hl).grow bz10); replace xa := hide ((unhide xa).grow bz10); replace ya := hide ((unhide ya).grow bz10); replace sa := hide ((unhide sa).grow bz10); replace ta := hide ((unhide ta).grow bz10); replace xc := hide ((unhide xc).grow bz10); replace yc := hide ((unhide yc).grow bz10); replace pa := hide ((unhide pa).grow bz10); replace qa := hide ((unhide qa).grow bz10); clear bz10)
                | fail)
              go_ret
              exact ⟨rfl, unhide hB⟩
            · have d9 : (a == b) = false := beq_eq_false_iff_ne.2 hab
              have g4 := g3 hab
              clear g3 hab
              subst g4
              have tk0 : True := trivial
              have tk1 : True := trivial
              have tk2 : True := trivial
              have tk3 : True := trivial
              have tk4 : True := trivial
              have tk5 : True := trivial
              have tk6 : True := trivial
              have tk7 : True := trivial
              have tk8 : True := trivial
              have tk9 : True := trivial
              have tk10 : True := trivial
              go_enter Try.func6, Try.ntmps6
              go_wp2_with (first
                | (have _t := tk0; clear tk0 _t; go_at_call 8; with_reducible refine (unhide hL _).mono ?_; rintro ez wz0 ⟨rfl, bz0⟩; have szz0 := bz0.size; replace hB := hide ((unhide hB).trans (bz0.mono (unhide hB).size)); replace hl := hide ((unhide hl).grow bz0); clear bz0)
                | (have _t := tk1; clear tk1 _t; go_at_call 9; with_reducible refine (unhide hO1 _ (unhide hl)).mono ?_; rintro ez wz1 ⟨va, rfl, oxa, bz1⟩; have szz1 := bz1.size; replace hB := hide ((unhide hB).trans (bz1.mono (unhide hB).size)); replace hl := hide ((unhide hl).grow bz1); (have xa := hide (oxa.all)); clear oxa; clear bz1)
                | (have _t := tk2; clear tk2 _t; go_at_call 9; with_reducible refine (unhide hO1' _ (unhide hl)).mono ?_; rintro ez wz2 ⟨vb, rfl, oya, bz2⟩; have szz2 := bz2.size; replace hB := hide ((unhide hB).trans (bz2.mono (unhide hB).size)); replace hl := hide ((unhide hl).grow bz2); replace xa := hide ((unhide xa).grow bz2); (have ya := hide (oya.all)); clear oya; clear bz2)
                | (have _t := tk3; clear tk3 _t; go_at_call 9; with_reducible refine (unhide hOx _ _ (unhide xa)).mono ?_; rintro ez wz3 ⟨vs, rfl, osa, bz3⟩; have szz3 := bz3.size; replace hB := hide ((unhide hB).trans (bz3.mono (unhide hB).size)); replace hl := hide ((unhide hl).grow bz3); replace xa := hide ((unhide xa).grow bz3); replace ya := hide ((unhide ya).grow bz3); (have sa := hide (osa.all)); clear osa; clear bz3)
                | (have _t := tk4; clear tk4 _t; go_at_call 9; with_reducible refine (unhide hOy _ _ (unhide ya)).mono ?_; rintro ez wz4 ⟨vt, rfl, ota, bz4⟩; have szz4 := bz4.size; replace hB := hide ((unhide hB).trans (bz4.mono (unhide hB).size)); replace hl := hide ((unhide hl).grow bz4); replace xa := hide ((unhide xa).grow bz4); replace ya := hide ((unhide ya).grow bz4); replace sa := hide ((unhide sa).grow bz4); (have ta := hide (ota.all)); clear ota; clear bz4)
                | (have _t := tk5; clear tk5 _t; go_at_call 20; with_reducible refine (unhide hS _ _ _ _ (unhide sa) (unhide ta)).mono ?_; rintro ez wz5 ⟨rfl, bz5⟩; have szz5 := bz5.size; replace hB := hide ((unhide hB).trans (bz5.mono (unhide hB).size)); replace hl := hide ((unhide hl).grow bz5); replace xa := hide ((unhide xa).grow bz5); replace ya := hide ((unhide ya).grow bz5); replace sa := hide ((unhide sa).grow bz5); replace ta := hide ((unhide ta).grow bz5); clear bz5)
                | (have _t := tk6; clear tk6 _t; go_at_call 11; with_reducible refine (unhide hC1 _ (unhide hl)).mono ?_; rintro ez wz6 ⟨vc, rfl, oxc, bz6⟩; have szz6 := bz6.size; replace hB := hide ((unhide hB).trans (bz6.mono (unhide hB).size)); replace hl := hide ((unhide hl).grow bz6); replace xa := hide ((unhide xa).grow bz6); replace ya := hide ((unhide ya).grow bz6); replace sa := hide ((unhide sa).grow bz6); replace ta := hide ((unhide ta).grow bz6); (have xc := hide (oxc.all)); clear oxc; clear bz6)
                | (have _t := tk7; clear tk7 _t; go_at_call 11; with_reducible refine (unhide hC1' _ (unhide hl)).mono ?_; rintro ez wz7 ⟨vd, rfl, oyc, bz7⟩; have szz7 := bz7.size; replace hB := hide ((unhide hB).trans (bz7.mono (unhide hB).size)); replace hl := hide ((unhide hl).grow bz7); replace xa := hide ((unhide xa).grow bz7); replace ya := hide ((unhide ya).grow bz7); replace sa := hide ((unhide sa).grow bz7); replace ta := hide ((unhide ta).grow bz7); replace xc := hide ((unhide xc).grow bz7); (have yc := hide (oyc.all)); clear oyc; clear bz7)
                | (have _t := tk8; clear tk8 _t; go_at_call 11; with_reducible refine (unhide hCx _ _ (unhide xc)).mono ?_; rintro ez wz8 ⟨vp, rfl, opa, bz8⟩; have szz8 := bz8.size; replace hB := hide ((unhide hB).trans (bz8.mono (unhide hB).size)); replace hl := hide ((unhide hl).grow bz8); replace xa := hide ((unhide xa).grow bz8); replace ya := hide ((unhide ya).grow bz8); replace sa := hide ((unhide sa).grow bz8); replace ta := hide ((unhide ta).grow bz8); replace xc := hide ((unhide xc).grow bz8); replace yc := hide ((unhide yc).grow bz8); (have pa := hide (opa.all)); clear opa; clear bz8)
                | (have _t := tk9; clear tk9 _t; go_at_call 11; with_reducible refine (unhide hCy _ _ (unhide yc)).mono ?_; rintro ez wz9 ⟨vq, rfl, oqa, bz9⟩; have szz9 := bz9.size; replace hB := hide ((unhide hB).trans (bz9.mono (unhide hB).size)); replace hl := hide ((unhide hl).grow bz9); replace xa := hide ((unhide xa).grow bz9); replace ya := hide ((unhide ya).grow bz9); replace sa := hide ((unhide sa).grow bz9); replace ta := hide ((unhide ta).grow bz9); replace xc := hide ((unhide xc).grow bz9); replace yc := hide ((unhide yc).grow bz9); replace pa := hide ((unhide pa).grow bz9); (have qa := hide (oqa.all)); clear oqa; clear bz9)
                | (have _t := tk10; clear tk10 _t; go_at_call 20; with_reducible refine (unhide hS _ _ _ _ (unhide pa) (unhide qa)).mono ?_; rintro ez wz10 ⟨rfl, bz10⟩; have szz10 := bz10.size; replace hB := hide ((unhide hB).trans (bz10.mono (unhide hB).size)); replace hl := hide ((unhide hl).grow bz10); replace xa := hide ((unhide xa).grow bz10); replace ya := hide ((unhide ya).grow bz10); replace sa := hide ((unhide sa).grow bz10); replace ta := hide ((unhide ta).grow bz10); replace xc := hide ((unhide xc).grow bz10); replace yc := hide ((unhide yc).grow bz10); replace pa := hide ((unhide pa).grow bz10); replace qa := hide ((unhide qa).grow bz10); clear bz10)
                | fail)
              go_ret
              exact ⟨rfl, unhide hB⟩
          · subst he3
            have d4 : (e4 != 0) = true := bne_iff_ne.2 he4
            clear cc he4
            have tk0 : True := trivial
            have tk1 : True := trivial
            have tk2 : True := trivial
            have tk3 : True := trivial
            have tk4 : True := trivial
            have tk5 : True := trivial
            have tk6 : True := trivial
            have tk7 : True := trivial
            go_enter Try.func6, Try.ntmps6
            go_wp2_with (first
              | (have _t := tk0; clear tk0 _t; go_at_call 8; with_reducible refine (unhide hL _).mono ?_; rintro ez wz0 ⟨rfl, bz0⟩; have szz0 := bz0.size; replace hB := hide ((unhide hB).trans (bz0.mono (unhide hB).size)); replace hl := hide ((unhide hl).grow bz0); clear bz0)
              | (have _t := tk1; clear tk1 _t; go_at_call 9; with_reducible refine (unhide hO1 _ (unhide hl)).mono ?_; rintro ez wz1 ⟨va, rfl, oxa, bz1⟩; have szz1 := bz1.size; replace hB := hide ((unhide hB).trans (bz1.mono (unhide hB).size)); replace hl := hide ((unhide hl).grow bz1); (have xa := hide (oxa.all)); clear oxa; clear bz1)
              | (have _t := tk2; clear tk2 _t; go_at_call 9; with_reducible refine (unhide hO1' _ (unhide hl)).mono ?_; rintro ez wz2 ⟨vb, rfl, oya, bz2⟩; have szz2 := bz2.size; replace hB := hide ((unhide hB).trans (bz2.mono (unhide hB).size)); replace hl := hide ((unhide hl).grow bz2); replace xa := hide ((unhide xa).grow bz2); (have ya := hide (oya.all)); clear oya; clear bz2)
              | (have _t := tk3; clear tk3 _t; go_at_call 9; with_reducible refine (unhide hOx _ _ (unhide xa)).mono ?_; rintro ez wz3 ⟨vs, rfl, osa, bz3⟩; have szz3 := bz3.size; replace hB := hide ((unhide hB).trans (bz3.mono (unhide hB).size)); replace hl := hide ((unhide hl).grow bz3); replace xa := hide ((unhide xa).grow bz3); replace ya := hide ((unhide ya).grow bz3); (have sa := hide (osa.all)); clear osa; clear bz3)
              | (have _t := tk4; clear tk4 _t; go_at_call 9; with_reducible refine (unhide hOy _ _ (unhide ya)).mono ?_; rintro ez wz4 ⟨vt, rfl, ota, bz4⟩; have szz4 := bz4.size; replace hB := hide ((unhide hB).trans (bz4.mono (unhide hB).size)); replace hl := hide ((unhide hl).grow bz4); replace xa := hide ((unhide xa).grow bz4); replace ya := hide ((unhide ya).grow bz4); replace sa := hide ((unhide sa).grow bz4); (have ta := hide (ota.all)); clear ota; clear bz4)
              | (have _t := tk5; clear tk5 _t; go_at_call 20; with_reducible refine (unhide hS _ _ _ _ (unhide sa) (unhide ta)).mono ?_; rintro ez wz5 ⟨rfl, bz5⟩; have szz5 := bz5.size; replace hB := hide ((unhide hB).trans (bz5.mono (unhide hB).size)); replace hl := hide ((unhide hl).grow bz5); replace xa := hide ((unhide xa).grow bz5); replace ya := hide ((unhide ya).grow bz5); replace sa := hide ((unhide sa).grow bz5); replace ta := hide ((unhide ta).grow bz5); clear bz5)
              | (have _t := tk6; clear tk6 _t; go_at_call 11; with_reducible refine (unhide hC1 _ (unhide hl)).mono ?_; rintro ez wz6 ⟨vc, rfl, oxc, bz6⟩; have szz6 := bz6.size; replace hB := hide ((unhide hB).trans (bz6.mono (unhide hB).size)); replace hl := hide ((unhide hl).grow bz6); replace xa := hide ((unhide xa).grow bz6); replace ya := hide ((unhide ya).grow bz6); replace sa := hide ((unhide sa).grow bz6); replace ta := hide ((unhide ta).grow bz6); (have xc := hide (oxc.all)); clear oxc; clear bz6)
              | (have _t := tk7; clear tk7 _t; go_at_call 11; with_reducible refine (unhide hC1' _ (unhide hl)).mono ?_; rintro ez wz7 ⟨vd, rfl, oyc, bz7⟩; have szz7 := bz7.size; replace hB := hide ((unhide hB).trans (bz7.mono (unhide hB).size)); replace hl := hide ((unhide hl).grow bz7); replace xa := hide ((unhide xa).grow bz7); replace ya := hide ((unhide ya).grow bz7); replace sa := hide ((unhide sa).grow bz7); replace ta := hide ((unhide ta).grow bz7); replace xc := hide ((unhide xc).grow bz7); (have yc := hide (oyc.all)); clear oyc; clear bz7)
              | fail)
            go_ret
            exact ⟨rfl, unhide hB⟩
        · have d3 : (e3 != 0) = true := bne_iff_ne.2 he3
          clear cc he3
          have tk0 : True := trivial
          have tk1 : True := trivial
          have tk2 : True := trivial
          have tk3 : True := trivial
          have tk4 : True := trivial
          have tk5 : True := trivial
          have tk6 : True := trivial
          have tk7 : True := trivial
          go_enter Try.func6, Try.ntmps6
          go_wp2_with (first
            | (have _t := tk0; clear tk0 _t; go_at_call 8; with_reducible refine (unhide hL _).mono ?_; rintro ez wz0 ⟨rfl, bz0⟩; have szz0 := bz0.size; replace hB := hide ((unhide hB).trans (bz0.mono (unhide hB).size)); replace hl := hide ((unhide hl).grow bz0); clear bz0)
            | (have _t := tk1; clear tk1 _t; go_at_call 9; with_reducible refine (unhide hO1 _ (unhide hl)).mono ?_; rintro ez wz1 ⟨va, rfl, oxa, bz1⟩; have szz1 := bz1.size; replace hB := hide ((unhide hB).trans (bz1.mono (unhide hB).size)); replace hl := hide ((unhide hl).grow bz1); (have xa := hide (oxa.all)); clear oxa; clear bz1)
            | (have _t := tk2; clear tk2 _t; go_at_call 9; with_reducible refine (unhide hO1' _ (unhide hl)).mono ?_; rintro ez wz2 ⟨vb, rfl, oya, bz2⟩; have szz2 := bz2.size; replace hB := hide ((unhide hB).trans (bz2.mono (unhide hB).size)); replace hl := hide ((unhide hl).grow bz2); replace xa := hide ((unhide xa).grow bz2); (have ya := hide (oya.all)); clear oya; clear bz2)
            | (have _t := tk3; clear tk3 _t; go_at_call 9; with_reducible refine (unhide hOx _ _ (unhide xa)).mono ?_; rintro ez wz3 ⟨vs, rfl, osa, bz3⟩; have szz3 := bz3.size; replace hB := hide ((unhide hB).trans (bz3.mono (unhide hB).size)); replace hl := hide ((unhide hl).grow bz3); replace xa := hide ((unhide xa).grow bz3); replace ya := hide ((unhide ya).grow bz3); (have sa := hide (osa.all)); clear osa; clear bz3)
            | (have _t := tk4; clear tk4 _t; go_at_call 9; with_reducible refine (unhide hOy _ _ (unhide ya)).mono ?_; rintro ez wz4 ⟨vt, rfl, ota, bz4⟩; have szz4 := bz4.size; replace hB := hide ((unhide hB).trans (bz4.mono (unhide hB).size)); replace hl := hide ((unhide hl).grow bz4); replace xa := hide ((unhide xa).grow bz4); replace ya := hide ((unhide ya).grow bz4); replace sa := hide ((unhide sa).grow bz4); (have ta := hide (ota.all)); clear ota; clear bz4)
            | (have _t := tk5; clear tk5 _t; go_at_call 20; with_reducible refine (unhide hS _ _ _ _ (unhide sa) (unhide ta)).mono ?_; rintro ez wz5 ⟨rfl, bz5⟩; have szz5 := bz5.size; replace hB := hide ((unhide hB).trans (bz5.mono (unhide hB).size)); replace hl := hide ((unhide hl).grow bz5); replace xa := hide ((unhide xa).grow bz5); replace ya := hide ((unhide ya).grow bz5); replace sa := hide ((unhide sa).grow bz5); replace ta := hide ((unhide ta).grow bz5); clear bz5)
            | (have _t := tk6; clear tk6 _t; go_at_call 11; with_reducible refine (unhide hC1 _ (unhide hl)).mono ?_; rintro ez wz6 ⟨vc, rfl, oxc, bz6⟩; have szz6 := bz6.size; replace hB := hide ((unhide hB).trans (bz6.mono (unhide hB).size)); replace hl := hide ((unhide hl).grow bz6); replace xa := hide ((unhide xa).grow bz6); replace ya := hide ((unhide ya).grow bz6); replace sa := hide ((unhide sa).grow bz6); replace ta := hide ((unhide ta).grow bz6); (have xc := hide (oxc.all)); clear oxc; clear bz6)
            | (have _t := tk7; clear tk7 _t; go_at_call 11; with_reducible refine (unhide hC1' _ (unhide hl)).mono ?_; rintro ez wz7 ⟨vd, rfl, oyc, bz7⟩; have szz7 := bz7.size; replace hB := hide ((unhide hB).trans (bz7.mono (unhide hB).size)); replace hl := hide ((unhide hl).grow bz7); replace xa := hide ((unhide xa).grow bz7); replace ya := hide ((unhide ya).grow bz7); replace sa := hide ((unhide sa).grow bz7); replace ta := hide ((unhide ta).grow bz7); replace xc := hide ((unhide xc).grow bz7); (have yc := hide (oyc.all)); clear oyc; clear bz7)
            | fail)
          go_ret
          exact ⟨rfl, unhide hB⟩
      · subst he1
        have d2 : (e2 == 0) = false := beq_eq_false_iff_ne.2 he2
        clear oc he2
        by_cases he3 : e3 = 0
        · by_cases he4 : e4 = 0
          · obtain ⟨g1, g2, g3⟩ := cc he3 he4
            subst he3 he4 g1 g2
            clear cc
            by_cases hab : a = b
            · have d9 : (a == b) = true := beq_iff_eq.2 hab
              clear g3 hab
              have tk0 : True := trivial
              have tk1 : True := trivial
              have tk2 : True := trivial
              have tk3 : True := trivial
              have tk4 : True := trivial
              have tk5 : True := trivial
              have tk6 : True := trivial
              have tk7 : True := trivial
              go_enter Try.func6, Try.ntmps6
              go_wp2_with (first
                | (have _t := tk0; clear tk0 _t; go_at_call 8; with_reducible refine (unhide hL _).mono ?_; rintro ez wz0 ⟨rfl, bz0⟩; have szz0 := bz0.size; replace hB := hide ((unhide hB).trans (bz0.mono (unhide hB).size)); replace hl := hide ((unhide hl).grow bz0); clear bz0)
                | (have _t := tk1; clear tk1 _t; go_at_call 9; with_reducible refine (unhide hO1 _ (unhide hl)).mono ?_; rintro ez wz1 ⟨va, rfl, oxa, bz1⟩; have szz1 := bz1.size; replace hB := hide ((unhide hB).trans (bz1.mono (unhide hB).size)); replace hl := hide ((unhide hl).grow bz1); (have xa := hide (oxa.all)); clear oxa; clear bz1)
                | (have _t := tk2; clear tk2 _t; go_at_call 9; with_reducible refine (unhide hO1' _ (unhide hl)).mono ?_; rintro ez wz2 ⟨vb, rfl, oya, bz2⟩; have szz2 := bz2.size; replace hB := hide ((unhide hB).trans (bz2.mono (unhide hB).size)); replace hl := hide ((unhide hl).grow bz2); replace xa := hide ((unhide xa).grow bz2); (have ya := hide (oya.all)); clear oya; clear bz2)
                | (have _t := tk3; clear tk3 _t; go_at_call 11; with_reducible refine (unhide hC1 _ (unhide hl)).mono ?_; rintro ez wz3 ⟨vc, rfl, oxc, bz3⟩; have szz3 := bz3.size; replace hB := hide ((unhide hB).trans (bz3.mono (unhide hB).size)); replace hl := hide ((unhide hl).grow bz3); replace xa := hide ((unhide xa).grow bz3); replace ya := hide ((unhide ya).grow bz3); (have xc := hide (oxc.all)); clear oxc; clear bz3)
                | (have _t := tk4; clear tk4 _t; go_at_call 11; with_reducible refine (unhide hC1' _ (unhide hl)).mono ?_; rintro ez wz4 ⟨vd, rfl, oyc, bz4⟩; have szz4 := bz4.size; replace hB := hide ((unhide hB).trans (bz4.mono (unhide hB).size)); replace hl := hide ((unhide hl).grow bz4); replace xa := hide ((unhide xa).grow bz4); replace ya := hide ((unhide ya).grow bz4); replace xc := hide ((unhide xc).grow bz4); (have yc := hide (oyc.all)); clear oyc; clear bz4)
                | (have _t := tk5; clear tk5 _t; go_at_call 11; with_reducible refine (unhide hCx _ _ (unhide xc)).mono ?_; rintro ez wz5 ⟨vp, rfl, opa, bz5⟩; have szz5 := bz5.size; replace hB := hide ((unhide hB).trans (bz5.mono (unhide hB).size)); replace hl := hide ((unhide hl).grow bz5); replace xa := hide ((unhide xa).grow bz5); replace ya := hide ((unhide ya).grow bz5); replace xc := hide ((unhide xc).grow bz5); replace yc := hide ((unhide yc).grow bz5); (have pa := hide (opa.all)); clear opa; clear bz5)
                | (have _t := tk6; clear tk6 _t; go_at_call 11; with_reducible refine (unhide hCy _ _ (unhide yc)).mono ?_; rintro ez wz6 ⟨vq, rfl, oqa, bz6⟩; have szz6 := bz6.size; replace hB := hide ((unhide hB).trans (bz6.mono (unhide hB).size)); replace hl := hide ((unhide hl).grow bz6); replace xa := hide ((unhide xa).grow bz6); replace ya := hide ((unhide ya).grow bz6); replace xc := hide ((unhide xc).grow bz6); replace yc := hide ((unhide yc).grow bz6); replace pa := hide ((unhide pa).grow bz6); (have qa := hide (oqa.all)); clear oqa; clear bz6)
                | (have _t := tk7; clear tk7 _t; go_at_call 20; with_reducible refine (unhide hS _ _ _ _ (unhide pa) (unhide qa)).mono ?_; rintro ez wz7 ⟨rfl, bz7⟩; have szz7 := bz7.size; replace hB := hide ((unhide hB).trans (bz7.mono (unhide hB).size)); replace hl := hide ((unhide hl).grow bz7); replace xa := hide ((unhide xa).grow bz7); replace ya := hide ((unhide ya).grow bz7); replace xc := hide ((unhide xc).grow bz7); replace yc := hide ((unhide yc).grow bz7); replace pa := hide ((unhide pa).grow bz7); replace qa := hide ((unhide qa).grow bz7); clear bz7)
                | fail)
              go_ret
              exact ⟨rfl, unhide hB⟩
            · have d9 : (a == b) = false := beq_eq_false_iff_ne.2 hab
              have g4 := g3 hab
              clear g3 hab
              subst g4
              have tk0 : True := trivial
              have tk1 : True := trivial
              have tk2 : True := trivial
              have tk3 : True := trivial
              have tk4 : True := trivial
              have tk5 : True := trivial
              have tk6 : True := trivial
              have tk7 : True := trivial
              go_enter Try.func6, Try.ntmps6
              go_wp2_with (first
                | (have _t := tk0; clear tk0 _t; go_at_call 8; with_reducible refine (unhide hL _).mono ?_; rintro ez wz0 ⟨rfl, bz0⟩; have szz0 := bz0.size; replace hB := hide ((unhide hB).trans (bz0.mono (unhide hB).size)); replace hl := hide ((unhide hl).grow bz0); clear bz0)
                | (have _t := tk1; clear tk1 _t; go_at_call 9; with_reducible refine (unhide hO1 _ (unhide hl)).mono ?_; rintro ez wz1 ⟨va, rfl, oxa, bz1⟩; have szz1 := bz1.size; replace hB := hide ((unhide hB).trans (bz1.mono (unhide hB).size)); replace hl := hide ((unhide hl).grow bz1); (have xa := hide (oxa.all)); clear oxa; clear bz1)
                | (have _t := tk2; clear tk2 _t; go_at_call 9; with_reducible refine (unhide hO1' _ (unhide hl)).mono ?_; rintro ez wz2 ⟨vb, rfl, oya, bz2⟩; have szz2 := bz2.size; replace hB := hide ((unhide hB).trans (bz2.mono (unhide hB).size)); replace hl := hide ((unhide hl).grow bz2); replace xa := hide ((unhide xa).grow bz2); (have ya := hide (oya.all)); clear oya; clear bz2)
                | (have _t := tk3; clear tk3 _t; go_at_call 11; with_reducible refine (unhide hC1 _ (unhide hl)).mono ?_; rintro ez wz3 ⟨vc, rfl, oxc, bz3⟩; have szz3 := bz3.size; replace hB := hide ((unhide hB).trans (bz3.mono (unhide hB).size)); replace hl := hide ((unhide hl).grow bz3); replace xa := hide ((unhide xa).grow bz3); replace ya := hide ((unhide ya).grow bz3); (have xc := hide (oxc.all)); clear oxc; clear bz3)
                | (have _t := tk4; clear tk4 _t; go_at_call 11; with_reducible refine (unhide hC1' _ (unhide hl)).mono ?_; rintro ez wz4 ⟨vd, rfl, oyc, bz4⟩; have szz4 := bz4.size; replace hB := hide ((unhide hB).trans (bz4.mono (unhide hB).size)); replace hl := hide ((unhide hl).grow bz4); replace xa := hide ((unhide xa).grow bz4); replace ya := hide ((unhide ya).grow bz4); replace xc := hide ((unhide xc).grow bz4); (have yc := hide (oyc.all)); clear oyc; clear bz4)
                | (have _t := tk5; clear tk5 _t; go_at_call 11; with_reducible refine (unhide hCx _ _ (unhide xc)).mono ?_; rintro ez wz5 ⟨vp, rfl, opa, bz5⟩; have szz5 := bz5.size; replace hB := hide ((unhide hB).trans (bz5.mono (unhide hB).size)); replace hl := hide ((unhide hl).grow bz5); replace xa := hide ((unhide xa).grow bz5); replace ya := hide ((unhide ya).grow bz5); replace xc := hide ((unhide xc).grow bz5); replace yc := hide ((unhide yc).grow bz5); (have pa := hide (opa.all)); clear opa; clear bz5)
                | (have _t := tk6; clear tk6 _t; go_at_call 11; with_reducible refine (unhide hCy _ _ (unhide yc)).mono ?_; rintro ez wz6 ⟨vq, rfl, oqa, bz6⟩; have szz6 := bz6.size; replace hB := hide ((unhide hB).trans (bz6.mono (unhide hB).size)); replace hl := hide ((unhide hl).grow bz6); replace xa := hide ((unhide xa).grow bz6); replace ya := hide ((unhide ya).grow bz6); replace xc := hide ((unhide xc).grow bz6); replace yc := hide ((unhide yc).grow bz6); replace pa := hide ((unhide pa).grow bz6); (have qa := hide (oqa.all)); clear oqa; clear bz6)
                | (have _t := tk7; clear tk7 _t; go_at_call 20; with_reducible refine (unhide hS _ _ _ _ (unhide pa) (unhide qa)).mono ?_; rintro ez wz7 ⟨rfl, bz7⟩; have szz7 := bz7.size; replace hB := hide ((unhide hB).trans (bz7.mono (unhide hB).size)); replace hl := hide ((unhide hl).grow bz7); replace xa := hide ((unhide xa).grow bz7); replace ya := hide ((unhide ya).grow bz7); replace xc := hide ((unhide xc).grow bz7); replace yc := hide ((unhide yc).grow bz7); replace pa := hide ((unhide pa).grow bz7); replace qa := hide ((unhide qa).grow bz7); clear bz7)
                | fail)
              go_ret
              exact ⟨rfl, unhide hB⟩
          · subst he3
            have d4 : (e4 != 0) = true := bne_iff_ne.2 he4
            clear cc he4
            have tk0 : True := trivial
            have tk1 : True := trivial
            have tk2 : True := trivial
            have tk3 : True := trivial
            have tk4 : True := trivial
            go_enter Try.func6, Try.ntmps6
            go_wp2_with (first
              | (have _t := tk0; clear tk0 _t; go_at_call 8; with_reducible refine (unhide hL _).mono ?_; rintro ez wz0 ⟨rfl, bz0⟩; have szz0 := bz0.size; replace hB := hide ((unhide hB).trans (bz0.mono (unhide hB).size)); replace hl := hide ((unhide hl).grow bz0); clear bz0)
              | (have _t := tk1; clear tk1 _t; go_at_call 9; with_reducible refine (unhide hO1 _ (unhide hl)).mono ?_; rintro ez wz1 ⟨va, rfl, oxa, bz1⟩; have szz1 := bz1.size; replace hB := hide ((unhide hB).trans (bz1.mono (unhide hB).size)); replace hl := hide ((unhide hl).grow bz1); (have xa := hide (oxa.all)); clear oxa; clear bz1)
              | (have _t := tk2; clear tk2 _t; go_at_call 9; with_reducible refine (unhide hO1' _ (unhide hl)).mono ?_; rintro ez wz2 ⟨vb, rfl, oya, bz2⟩; have szz2 := bz2.size; replace hB := hide ((unhide hB).trans (bz2.mono (unhide hB).size)); replace hl := hide ((unhide hl).grow bz2); replace xa := hide ((unhide xa).grow bz2); (have ya := hide (oya.all)); clear oya; clear bz2)
              | (have _t := tk3; clear tk3 _t; go_at_call 11; with_reducible refine (unhide hC1 _ (unhide hl)).mono ?_; rintro ez wz3 ⟨vc, rfl, oxc, bz3⟩; have szz3 := bz3.size; replace hB := hide ((unhide hB).trans (bz3.mono (unhide hB).size)); replace hl := hide ((unhide hl).grow bz3); replace xa := hide ((unhide xa).grow bz3); replace ya := hide ((unhide ya).grow bz3); (have xc := hide (oxc.all)); clear oxc; clear bz3)
              | (have _t := tk4; clear tk4 _t; go_at_call 11; with_reducible refine (unhide hC1' _ (unhide hl)).mono ?_; rintro ez wz4 ⟨vd, rfl, oyc, bz4⟩; have szz4 := bz4.size; replace hB := hide ((unhide hB).trans (bz4.mono (unhide hB).size)); replace hl := hide ((unhide hl).grow bz4); replace xa := hide ((unhide xa).grow bz4); replace ya := hide ((unhide ya).grow bz4); replace xc := hide ((unhide xc).grow bz4); (have yc := hide (oyc.all)); clear oyc; clear bz4)
              | fail)
            go_ret
            exact ⟨rfl, unhide hB⟩
        · have d3 : (e3 != 0) = true := bne_iff_ne.2 he3
          clear cc he3
          have tk0 : True := trivial
          have tk1 : True := trivial
          have tk2 : True := trivial
          have tk3 : True := trivial
          have tk4 : True := trivial
          go_enter Try.func6, Try.ntmps6
          go_wp2_with (first
            | (have _t := tk0; clear tk0 _t; go_at_call 8; with_reducible refine (unhide hL _).mono ?_; rintro ez wz0 ⟨rfl, bz0⟩; have szz0 := bz0.size; replace hB := hide ((unhide hB).trans (bz0.mono (unhide hB).size)); replace hl := hide ((unhide hl).grow bz0); clear bz0)
            | (have _t := tk1; clear tk1 _t; go_at_call 9; with_reducible refine (unhide hO1 _ (unhide hl)).mono ?_; rintro ez wz1 ⟨va, rfl, oxa, bz1⟩; have szz1 := bz1.size; replace hB := hide ((unhide hB).trans (bz1.mono (unhide hB).size)); replace hl := hide ((unhide hl).grow bz1); (have xa := hide (oxa.all)); clear oxa; clear bz1)
            | (have _t := tk2; clear tk2 _t; go_at_call 9; with_reducible refine (unhide hO1' _ (unhide hl)).mono ?_; rintro ez wz2 ⟨vb, rfl, oya, bz2⟩; have szz2 := bz2.size; replace hB := hide ((unhide hB).trans (bz2.mono (unhide hB).size)); replace hl := hide ((unhide hl).grow bz2); replace xa := hide ((unhide xa).grow bz2); (have ya := hide (oya.all)); clear oya; clear bz2)
            | (have _t := tk3; clear tk3 _t; go_at_call 11; with_reducible refine (unhide hC1 _ (unhide hl)).mono ?_; rintro ez wz3 ⟨vc, rfl, oxc, bz3⟩; have szz3 := bz3.size; replace hB := hide ((unhide hB).trans (bz3.mono (unhide hB).size)); replace hl := hide ((unhide hl).grow bz3); replace xa := hide ((unhide xa).grow bz3); replace ya := hide ((unhide ya).grow bz3); (have xc := hide (oxc.all)); clear oxc; clear bz3)
            | (have _t := tk4; clear tk4 _t; go_at_call 11; with_reducible refine (unhide hC1' _ (unhide hl)).mono ?_; rintro ez wz4 ⟨vd, rfl, oyc, bz4⟩; have szz4 := bz4.size; replace hB := hide ((unhide hB).trans (bz4.mono (unhide hB).size)); replace hl := hide ((unhide hl).grow bz4); replace xa := hide ((unhide xa).grow bz4); replace ya := hide ((unhide ya).grow bz4); replace xc := hide ((unhide xc).grow bz4); (have yc := hide (oyc.all)); clear oyc; clear bz4)
            | fail)
          go_ret
          exact ⟨rfl, unhide hB⟩
    · have d1 : (e1 == 0) = false := beq_eq_false_iff_ne.2 he1
      clear oc he1
      by_cases he3 : e3 = 0
      · by_cases he4 : e4 = 0
        · obtain ⟨g1, g2, g3⟩ := cc he3 he4
          subst he3 he4 g1 g2
          clear cc
          by_cases hab : a = b
          · have d9 : (a == b) = true := beq_iff_eq.2 hab
            clear g3 hab
            have tk0 : True := trivial
            have tk1 : True := trivial
            have tk2 : True := trivial
            have tk3 : True := trivial
            have tk4 : True := trivial
            have tk5 : True := trivial
            have tk6 : True := trivial
            have tk7 : True := trivial
            go_enter Try.func6, Try.ntmps6
            go_wp2_with (first
              | (have _t := tk0; clear tk0 _t; go_at_call 8; with_reducible refine (unhide hL _).mono ?_; rintro ez wz0 ⟨rfl, bz0⟩; have szz0 := bz0.size; replace hB := hide ((unhide hB).trans (bz0.mono (unhide hB).size)); replace hl := hide ((unhide hl).grow bz0); clear bz0)
              | (have _t := tk1; clear tk1 _t; go_at_call 9; with_reducible refine (unhide hO1 _ (unhide hl)).mono ?_; rintro ez wz1 ⟨va, rfl, oxa, bz1⟩; have szz1 := bz1.size; replace hB := hide ((unhide hB).trans (bz1.mono (unhide hB).size)); replace hl := hide ((unhide hl).grow bz1); (have xa := hide (oxa.all)); clear oxa; clear bz1)
              | (have _t := tk2; clear tk2 _t; go_at_call 9; with_reducible refine (unhide hO1' _ (unhide hl)).mono ?_; rintro ez wz2 ⟨vb, rfl, oya, bz2⟩; have szz2 := bz2.size; replace hB := hide ((unhide hB).trans (bz2.mono (unhide hB).size)); replace hl := hide ((unhide hl).grow bz2); replace xa := hide ((unhide xa).grow bz2); (have ya := hide (oya.all)); clear oya; clear bz2)
              | (have _t := tk3; clear tk3 _t; go_at_call 11; with_reducible refine (unhide hC1 _ (unhide hl)).mono ?_; rintro ez wz3 ⟨vc, rfl, oxc, bz3⟩; have szz3 := bz3.size; replace hB := hide ((unhide hB).trans (bz3.mono (unhide hB).size)); replace hl := hide ((unhide hl).grow bz3); replace xa := hide ((unhide xa).grow bz3); replace ya := hide ((unhide ya).grow bz3); (have xc := hide (oxc.all)); clear oxc; clear bz3)
              | (have _t := tk4; clear tk4 _t; go_at_call 11; with_reducible refine (unhide hC1' _ (unhide hl)).mono ?_; rintro ez wz4 ⟨vd, rfl, oyc, bz4⟩; have szz4 := bz4.size; replace hB := hide ((unhide hB).trans (bz4.mono (unhide hB).size)); replace hl := hide ((unhide hl).grow bz4); replace xa := hide ((unhide xa).grow bz4); replace ya := hide ((unhide ya).grow bz4); replace xc := hide ((unhide xc).grow bz4); (have yc := hide (oyc.all)); clear oyc; clear bz4)
              | (have _t := tk5; clear tk5 _t; go_at_call 11; with_reducible refine (unhide hCx _ _ (unhide xc)).mono ?_; rintro ez wz5 ⟨vp, rfl, opa, bz5⟩; have szz5 := bz5.size; replace hB := hide ((unhide hB).trans (bz5.mono (unhide hB).size)); replace hl := hide ((unhide hl).grow bz5); replace xa := hide ((unhide xa).grow bz5); replace ya := hide ((unhide ya).grow bz5); replace xc := hide ((unhide xc).grow bz5); replace yc := hide ((unhide yc).grow bz5); (have pa := hide (opa.all)); clear opa; clear bz5)
              | (have _t := tk6; clear tk6 _t; go_at_call 11; with_reducible refine (unhide hCy _ _ (unhide yc)).mono ?_; rintro ez wz6 ⟨vq, rfl, oqa, bz6⟩; have szz6 := bz6.size; replace hB := hide ((unhide hB).trans (bz6.mono (unhide hB).size)); replace hl := hide ((unhide hl).grow bz6); replace xa := hide ((unhide xa).grow bz6); replace ya := hide ((unhide ya).grow bz6); replace xc := hide ((unhide xc).grow bz6); replace yc := hide ((unhide yc).grow bz6); replace pa := hide ((unhide pa).grow bz6); (have qa := hide (oqa.all)); clear oqa; clear bz6)
              | (have _t := tk7; clear tk7 _t; go_at_call 20; with_reducible refine (unhide hS _ _ _ _ (unhide pa) (unhide qa)).mono ?_; rintro ez wz7 ⟨rfl, bz7⟩; have szz7 := bz7.size; replace hB := hide ((unhide hB).trans (bz7.mono (unhide hB).size)); replace hl := hide ((unhide hl).grow bz7); replace xa := hide ((unhide xa).grow bz7); replace ya := hide ((unhide ya).grow bz7); replace xc := hide ((unhide xc).grow bz7); replace yc := hide ((unhide yc).grow bz7); replace pa := hide ((unhide pa).grow bz7); replace qa := hide ((unhide qa).grow bz7); clear bz7)
              | fail)
            go_ret
            exact ⟨rfl, unhide hB⟩
          · have d9 : (a == b) = false := beq_eq_false_iff_ne.2 hab
            have g4 := g3 hab
            clear g3 hab
            subst g4
            have tk0 : True := trivial
            have tk1 : True := trivial
            have tk2 : True := trivial
            have tk3 : True := trivial
            have tk4 : True := trivial
            have tk5 : True := trivial
            have tk6 : True := trivial
            have tk7 : True := trivial
            go_enter Try.func6, Try.ntmps6
            go_wp2_with (first
              | (have _t := tk0; clear tk0 _t; go_at_call 8; with_reducible refine (unhide hL _).mono ?_; rintro ez wz0 ⟨rfl, bz0⟩; have szz0 := bz0.size; replace hB := hide ((unhide hB).trans (bz0.mono (unhide hB).size)); replace hl := hide ((unhide hl).grow bz0); clear bz0)
              | (have _t := tk1; clear tk1 _t; go_at_call 9; with_reducible refine (unhide hO1 _ (unhide hl)).mono ?_; rintro ez wz1 ⟨va, rfl, oxa, bz1⟩; have szz1 := bz1.size; replace hB := hide ((unhide hB).trans (bz1.mono (unhide hB).size)); replace hl := hide ((unhide hl).grow bz1); (have xa := hide (oxa.all)); clear oxa; clear bz1)
              | (have _t := tk2; clear tk2 _t; go_at_call 9; with_reducible refine (unhide hO1' _ (unhide hl)).mono ?_; rintro ez wz2 ⟨vb, rfl, oya, bz2⟩; have szz2 := bz2.size; replace hB := hide ((unhide hB).trans (bz2.mono (unhide hB).size)); replace hl := hide ((unhide hl).grow bz2); replace xa := hide ((unhide xa).grow bz2); (have ya := hide (oya.all)); clear oya; clear bz2)
              | (have _t := tk3; clear tk3 _t; go_at_call 11; with_reducible refine (unhide hC1 _ (unhide hl)).mono ?_; rintro ez wz3 ⟨vc, rfl, oxc, bz3⟩; have szz3 := bz3.size; replace hB := hide ((unhide hB).trans (bz3.mono (unhide hB).size)); replace hl := hide ((unhide hl).grow bz3); replace xa := hide ((unhide xa).grow bz3); replace ya := hide ((unhide ya).grow bz3); (have xc := hide (oxc.all)); clear oxc; clear bz3)
              | (have _t := tk4; clear tk4 _t; go_at_call 11; with_reducible refine (unhide hC1' _ (unhide hl)).mono ?_; rintro ez wz4 ⟨vd, rfl, oyc, bz4⟩; have szz4 := bz4.size; replace hB := hide ((unhide hB).trans (bz4.mono (unhide hB).size)); replace hl := hide ((unhide hl).grow bz4); replace xa := hide ((unhide xa).grow bz4); replace ya := hide ((unhide ya).grow bz4); replace xc := hide ((unhide xc).grow bz4); (have yc := hide (oyc.all)); clear oyc; clear bz4)
              | (have _t := tk5; clear tk5 _t; go_at_call 11; with_reducible refine (unhide hCx _ _ (unhide xc)).mono ?_; rintro ez wz5 ⟨vp, rfl, opa, bz5⟩; have szz5 := bz5.size; replace hB := hide ((unhide hB).trans (bz5.mono (unhide hB).size)); replace hl := hide ((unhide hl).grow bz5); replace xa := hide ((unhide xa).grow bz5); replace ya := hide ((unhide ya).grow bz5); replace xc := hide ((unhide xc).grow bz5); replace yc := hide ((unhide yc).grow bz5); (have pa := hide (opa.all)); clear opa; clear bz5)
              | (have _t := tk6; clear tk6 _t; go_at_call 11; with_reducible refine (unhide hCy _ _ (unhide yc)).mono ?_; rintro ez wz6 ⟨vq, rfl, oqa, bz6⟩; have szz6 := bz6.size; replace hB := hide ((unhide hB).trans (bz6.mono (unhide hB).size)); replace hl := hide ((unhide hl).grow bz6); replace xa := hide ((unhide xa).grow bz6); replace ya := hide ((unhide ya).grow bz6); replace xc := hide ((unhide xc).grow bz6); replace yc := hide ((unhide yc).grow bz6); replace pa := hide ((unhide pa).grow bz6); (have qa := hide (oqa.all)); clear oqa; clear bz6)
              | (have _t := tk7; clear tk7 _t; go_at_call 20; with_reducible refine (unhide hS _ _ _ _ (unhide pa) (unhide qa)).mono ?_; rintro ez wz7 ⟨rfl, bz7⟩; have szz7 := bz7.size; replace hB := hide ((unhide hB).trans (bz7.mono (unhide hB).size)); replace hl := hide ((unhide hl).grow bz7); replace xa := hide ((unhide xa).grow bz7); replace ya := hide ((unhide ya).grow bz7); replace xc := hide ((unhide xc).grow bz7); replace yc := hide ((unhide yc).grow bz7); replace pa := hide ((unhide pa).grow bz7); replace qa := hide ((unhide qa).grow bz7); clear bz7)
              | fail)
            go_ret
            exact ⟨rfl, unhide hB⟩
        · subst he3
          have d4 : (e4 != 0) = true := bne_iff_ne.2 he4
          clear cc he4
          have tk0 : True := trivial
          have tk1 : True := trivial
          have tk2 : True := trivial
          have tk3 : True := trivial
          have tk4 : True := trivial
          go_enter Try.func6, Try.ntmps6
          go_wp2_with (first
            | (have _t := tk0; clear tk0 _t; go_at_call 8; with_reducible refine (unhide hL _).mono ?_; rintro ez wz0 ⟨rfl, bz0⟩; have szz0 := bz0.size; replace hB := hide ((unhide hB).trans (bz0.mono (unhide hB).size)); replace hl := hide ((unhide hl).grow bz0); clear bz0)
            | (have _t := tk1; clear tk1 _t; go_at_call 9; with_reducible refine (unhide hO1 _ (unhide hl)).mono ?_; rintro ez wz1 ⟨va, rfl, oxa, bz1⟩; have szz1 := bz1.size; replace hB := hide ((unhide hB).trans (bz1.mono (unhide hB).size)); replace hl := hide ((unhide hl).grow bz1); (have xa := hide (oxa.all)); clear oxa; clear bz1)
            | (have _t := tk2; clear tk2 _t; go_at_call 9; with_reducible refine (unhide hO1' _ (unhide hl)).mono ?_; rintro ez wz2 ⟨vb, rfl, oya, bz2⟩; have szz2 := bz2.size; replace hB := hide ((unhide hB).trans (bz2.mono (unhide hB).size)); replace hl := hide ((unhide hl).grow bz2); replace xa := hide ((unhide xa).grow bz2); (have ya := hide (oya.all)); clear oya; clear bz2)
            | (have _t := tk3; clear tk3 _t; go_at_call 11; with_reducible refine (unhide hC1 _ (unhide hl)).mono ?_; rintro ez wz3 ⟨vc, rfl, oxc, bz3⟩; have szz3 := bz3.size; replace hB := hide ((unhide hB).trans (bz3.mono (unhide hB).size)); replace hl := hide ((unhide hl).grow bz3); replace xa := hide ((unhide xa).grow bz3); replace ya := hide ((unhide ya).grow bz3); (have xc := hide (oxc.all)); clear oxc; clear bz3)
            | (have _t := tk4; clear tk4 _t; go_at_call 11; with_reducible refine (unhide hC1' _ (unhide hl)).mono ?_; rintro ez wz4 ⟨vd, rfl, oyc, bz4⟩; have szz4 := bz4.size; replace hB := hide ((unhide hB).trans (bz4.mono (unhide hB).size)); replace hl := hide ((unhide hl).grow bz4); replace xa := hide ((unhide xa).grow bz4); replace ya := hide ((unhide ya).grow bz4); replace xc := hide ((unhide xc).grow bz4); (have yc := hide (oyc.all)); clear oyc; clear bz4)
            | fail)
          go_ret
          exact ⟨rfl, unhide hB⟩
      · have d3 : (e3 != 0) = true := bne_iff_ne.2 he3
        clear cc he3
        have tk0 : True := trivial
        have tk1 : True := trivial
        have tk2 : True := trivial
        have tk3 : True := trivial
        have tk4 : True := trivial
        go_enter Try.func6, Try.ntmps6
        go_wp2_with (first
          | (have _t := tk0; clear tk0 _t; go_at_call 8; with_reducible refine (unhide hL _).mono ?_; rintro ez wz0 ⟨rfl, bz0⟩; have szz0 := bz0.size; replace hB := hide ((unhide hB).trans (bz0.mono (unhide hB).size)); replace hl := hide ((unhide hl).grow bz0); clear bz0)
          | (have _t := tk1; clear tk1 _t; go_at_call 9; with_reducible refine (unhide hO1 _ (unhide hl)).mono ?_; rintro ez wz1 ⟨va, rfl, oxa, bz1⟩; have szz1 := bz1.size; replace hB := hide ((unhide hB).trans (bz1.mono (unhide hB).size)); replace hl := hide ((unhide hl).grow bz1); (have xa := hide (oxa.all)); clear oxa; clear bz1)
          | (have _t := tk2; clear tk2 _t; go_at_call 9; with_reducible refine (unhide hO1' _ (unhide hl)).mono ?_; rintro ez wz2 ⟨vb, rfl, oya, bz2⟩; have szz2 := bz2.size; replace hB := hide ((unhide hB).trans (bz2.mono (unhide hB).size)); replace hl := hide ((unhide hl).grow bz2); replace xa := hide ((unhide xa).grow bz2); (have ya := hide (oya.all)); clear oya; clear bz2)
          | (have _t := tk3; clear tk3 _t; go_at_call 11; with_reducible refine (unhide hC1 _ (unhide hl)).mono ?_; rintro ez wz3 ⟨vc, rfl, oxc, bz3⟩; have szz3 := bz3.size; replace hB := hide ((unhide hB).trans (bz3.mono (unhide hB).size)); replace hl := hide ((unhide hl).grow bz3); replace xa := hide ((unhide xa).grow bz3); replace ya := hide ((unhide ya).grow bz3); (have xc := hide (oxc.all)); clear oxc; clear bz3)
          | (have _t := tk4; clear tk4 _t; go_at_call 11; with_reducible refine (unhide hC1' _ (unhide hl)).mono ?_; rintro ez wz4 ⟨vd, rfl, oyc, bz4⟩; have szz4 := bz4.size; replace hB := hide ((unhide hB).trans (bz4.mono (unhide hB).size)); replace hl := hide ((unhide hl).grow bz4); replace xa := hide ((unhide xa).grow bz4); replace ya := hide ((unhide ya).grow bz4); replace xc := hide ((unhide xc).grow bz4); (have yc := hide (oyc.all)); clear oyc; clear bz4)
          | fail)
        go_ret
        exact ⟨rfl, unhide hB⟩
end Go.Proofs.Ythjgnbjobinhdaa
