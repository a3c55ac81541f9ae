import Derived.Test.YtnjepbehfioclaaL1
namespace Go.Proofs.Ytnjepbehfioclaa
open Go.RowKit
attribute [local go_sem] bz_size bz_toList run_store_float
set_option maxRecDepth 100000

theorem own_bs {W : World} {base n : Nat} {A : Option Addr} {c : Nat} {l : List UInt8} (hn : n = l.length) (h : W.ownsRow base 5 1 (.slice A n c) n (l.flatMap bc)) : Bs 0 W.heap.size W (.slice A n c) l := by
  subst hn
  exact bs_of (base := base) h
set_option maxHeartbeats 4000000 in
theorem WireCut_any (va vm vb : Value) (cut : Int) (l : List Fl) (more b : List UInt8) (w : World) (ha : Fls 0 w.heap.size w va l) (hm : Bs 0 w.heap.size w vm more) (hb : Bs 0 w.heap.size w vb b) (ia : InL l) :
    Calls Try.prog 5 #[va, .int .i64 cut, vm, vb] w fun e w' => e = .returned (.bool true) ∧ Below w.heap.size w w' := by
  have hL := fun W => live_any W
  have hFa := fun W (h : Fls 0 W.heap.size W va l) => cFew va l W h
  have hB : Below w.heap.size w w := Below.refl _ _
  have ha0 := ha
  obtain ⟨Aa, ca, rfl, hjunk⟩ := ha0.open6
  clear ha0 hjunk
  have hb0 := hb
  obtain ⟨Ab, cb, rfl, hjunk⟩ := hb0.openB
  clear hb0 hjunk
  have hm0 := hm
  obtain ⟨Am, cm, rfl, hjunk⟩ := hm0.openB
  clear hm0 hjunk
  replace hL := hide hL; replace hB := hide hB; replace ha := hide ha; replace hb := hide hb; replace hm := hide hm
  cases fa : fewB l with
  | false =>
    rw [fa] at hFa
    replace hFa := hide hFa
    clear fa ia
    go_enter Try.func5, Try.ntmps5
    have tk0 : True := trivial
    have tk1 : True := trivial
    go_wp2_with (first
      | (have _t := tk0; clear tk0 _t; go_at_call 8; refine (unhide hL _).mono ?_; rintro ez wz0 ⟨rfl, bz0⟩; have szz0 := bz0.size; replace hB := hide ((unhide hB).trans (bz0.mono (unhide hB).size)); replace ha := hide (Rd.grow (unhide ha) bz0); replace hb := hide (Rd.grow (unhide hb) bz0); replace hm := hide (Rd.grow (unhide hm) bz0); clear bz0)
      | (have _t := tk1; clear tk1 _t; go_at_call 9; refine (unhide hFa _ (unhide ha)).mono ?_; rintro ez wz1 ⟨rfl, bz1⟩; have szz1 := bz1.size; replace hB := hide ((unhide hB).trans (bz1.mono (unhide hB).size)); replace ha := hide (Rd.grow (unhide ha) bz1); replace hb := hide (Rd.grow (unhide hb) bz1); replace hm := hide (Rd.grow (unhide hm) bz1); clear bz1)
      | fail)
    all_goals go_ret
    all_goals exact ⟨rfl, unhide hB⟩
  | true =>
    obtain ⟨sa, ua⟩ := small_few ia fa
    rw [fa] at hFa
    replace hFa := hide hFa
    clear fa
    by_cases n0 : 60 < l.length
    · have dn0 : (60 : Int) < (l.length : Int) := by omega
      clear ia sa ua n0
      go_enter Try.func5, Try.ntmps5
      have tk0 : True := trivial
      have tk1 : True := trivial
      go_wp2_with (first
        | (have _t := tk0; clear tk0 _t; go_at_call 8; refine (unhide hL _).mono ?_; rintro ez wz0 ⟨rfl, bz0⟩; have szz0 := bz0.size; replace hB := hide ((unhide hB).trans (bz0.mono (unhide hB).size)); replace ha := hide (Rd.grow (unhide ha) bz0); replace hb := hide (Rd.grow (unhide hb) bz0); replace hm := hide (Rd.grow (unhide hm) bz0); clear bz0)
        | (have _t := tk1; clear tk1 _t; go_at_call 9; refine (unhide hFa _ (unhide ha)).mono ?_; rintro ez wz1 ⟨rfl, bz1⟩; have szz1 := bz1.size; replace hB := hide ((unhide hB).trans (bz1.mono (unhide hB).size)); replace ha := hide (Rd.grow (unhide ha) bz1); replace hb := hide (Rd.grow (unhide hb) bz1); replace hm := hide (Rd.grow (unhide hm) bz1); clear bz1)
        | fail)
      all_goals go_ret
      all_goals exact ⟨rfl, unhide hB⟩
    · have dn0 : ¬ (60 : Int) < (l.length : Int) := by omega
      by_cases n1 : 100 < more.length
      · have dn1 : (100 : Int) < (more.length : Int) := by omega
        clear ia sa ua n1
        go_enter Try.func5, Try.ntmps5
        have tk0 : True := trivial
        have tk1 : True := trivial
        go_wp2_with (first
          | (have _t := tk0; clear tk0 _t; go_at_call 8; refine (unhide hL _).mono ?_; rintro ez wz0 ⟨rfl, bz0⟩; have szz0 := bz0.size; replace hB := hide ((unhide hB).trans (bz0.mono (unhide hB).size)); replace ha := hide (Rd.grow (unhide ha) bz0); replace hb := hide (Rd.grow (unhide hb) bz0); replace hm := hide (Rd.grow (unhide hm) bz0); clear bz0)
          | (have _t := tk1; clear tk1 _t; go_at_call 9; refine (unhide hFa _ (unhide ha)).mono ?_; rintro ez wz1 ⟨rfl, bz1⟩; have szz1 := bz1.size; replace hB := hide ((unhide hB).trans (bz1.mono (unhide hB).size)); replace ha := hide (Rd.grow (unhide ha) bz1); replace hb := hide (Rd.grow (unhide hb) bz1); replace hm := hide (Rd.grow (unhide hm) bz1); clear bz1)
          | fail)
        all_goals go_ret
        all_goals exact ⟨rfl, unhide hB⟩
      · have dn1 : ¬ (100 : Int) < (more.length : Int) := by omega
        by_cases n2 : 9000 < b.length
        · have dn2 : (9000 : Int) < (b.length : Int) := by omega
          clear ia sa ua n2
          go_enter Try.func5, Try.ntmps5
          have tk0 : True := trivial
          have tk1 : True := trivial
          go_wp2_with (first
            | (have _t := tk0; clear tk0 _t; go_at_call 8; refine (unhide hL _).mono ?_; rintro ez wz0 ⟨rfl, bz0⟩; have szz0 := bz0.size; replace hB := hide ((unhide hB).trans (bz0.mono (unhide hB).size)); replace ha := hide (Rd.grow (unhide ha) bz0); replace hb := hide (Rd.grow (unhide hb) bz0); replace hm := hide (Rd.grow (unhide hm) bz0); clear bz0)
            | (have _t := tk1; clear tk1 _t; go_at_call 9; refine (unhide hFa _ (unhide ha)).mono ?_; rintro ez wz1 ⟨rfl, bz1⟩; have szz1 := bz1.size; replace hB := hide ((unhide hB).trans (bz1.mono (unhide hB).size)); replace ha := hide (Rd.grow (unhide ha) bz1); replace hb := hide (Rd.grow (unhide hb) bz1); replace hm := hide (Rd.grow (unhide hm) bz1); clear bz1)
            | fail)
          all_goals go_ret
          all_goals exact ⟨rfl, unhide hB⟩
        · have dn2 : ¬ (9000 : Int) < (b.length : Int) := by omega
          have hR := fun W (h : Bs 0 W.heap.size W (.slice Ab b.length cb) b) => cFrom (.slice Ab b.length cb) b W h
          have hYa := fun W (h : Fls 0 W.heap.size W (.slice Aa l.length ca) l) => cBytes (.slice Aa l.length ca) l W h sa ua
          have hfc := from_cases b (by omega)
          clear n2
          rcases hfc with hz | ⟨hz, hz2⟩
          · rw [hz] at hR
            generalize fromL b = z at *
            replace hR := hide hR
            clear hz
            cases ta : tabB l with
            | false =>
              rw [ta, bytes_f ta, err_f] at hYa
              replace hYa := hide hYa
              clear ta ia sa ua n0 n1
              go_enter Try.func5, Try.ntmps5
              have tk0 : True := trivial
              have tk1 : True := trivial
              have tk2 : True := trivial
              have tk3 : True := trivial
              go_wp2_with (first
                | (have _t := tk0; clear tk0 _t; go_at_call 8; refine (unhide hL _).mono ?_; rintro ez wz0 ⟨rfl, bz0⟩; have szz0 := bz0.size; replace hB := hide ((unhide hB).trans (bz0.mono (unhide hB).size)); replace ha := hide (Rd.grow (unhide ha) bz0); replace hb := hide (Rd.grow (unhide hb) bz0); replace hm := hide (Rd.grow (unhide hm) bz0); clear bz0)
                | (have _t := tk1; clear tk1 _t; go_at_call 9; refine (unhide hFa _ (unhide ha)).mono ?_; rintro ez wz1 ⟨rfl, bz1⟩; have szz1 := bz1.size; replace hB := hide ((unhide hB).trans (bz1.mono (unhide hB).size)); replace ha := hide (Rd.grow (unhide ha) bz1); replace hb := hide (Rd.grow (unhide hb) bz1); replace hm := hide (Rd.grow (unhide hm) bz1); clear bz1)
                | (have _t := tk2; clear tk2 _t; go_at_call 16; refine (unhide hR _ (unhide hb)).mono ?_; rintro ez wz2 ⟨A1, c1, rfl, oht, bz2⟩; have szz2 := bz2.size; replace hB := hide ((unhide hB).trans (bz2.mono (unhide hB).size)); replace ha := hide (Rd.grow (unhide ha) bz2); replace hb := hide (Rd.grow (unhide hb) bz2); replace hm := hide (Rd.grow (unhide hm) bz2); (have ht := hide (own_fls oht)); clear oht; clear bz2)
                | (have _t := tk3; clear tk3 _t; go_at_call 10; refine (unhide hYa _ (unhide ha)).mono ?_; rintro ez wz3 ⟨A7, c7, rfl, ohx, bz3⟩; have szz3 := bz3.size; replace hB := hide ((unhide hB).trans (bz3.mono (unhide hB).size)); replace ha := hide (Rd.grow (unhide ha) bz3); replace hb := hide (Rd.grow (unhide hb) bz3); replace hm := hide (Rd.grow (unhide hm) bz3); replace ht := hide (Rd.grow (unhide ht) bz3); (have hx := hide ohx); clear ohx; clear bz3)
                | fail)
              all_goals go_ret
              all_goals exact ⟨rfl, unhide hB⟩
            | true =>
              have hcut := fun (k : Nat) hk => from_cut ta ia (k := k) hk
              have hmore := fun (h0 : more ≠ []) => from_more ta ia (x := more) (by omega) h0
              have hzero := (from_of ta ia).2
              have hshort := tab_short ta
              rw [ta, bytes_t ta, err_t] at hYa
              generalize tabT l = x at *
              have hQ := fun (v : Value) (y : List UInt8) W (h : Bs 0 W.heap.size W v y) => cFrom v y W h
              have hE : ((fromE (x ++ more) == 0) = decide (more.length = 0)) := by
                by_cases h0 : more = []
                · subst h0; rw [List.append_nil, hzero]; rfl
                · rw [hmore h0, decide_eq_false (by have := List.length_pos_iff.2 h0; omega)]; rfl
              obtain ⟨i0, hi0, iz0, iz1, iz2⟩ := info_p info5
              replace hYa := hide hYa; replace hQ := hide hQ; replace hE := hide hE; replace hshort := hide hshort
              clear ta ia sa ua hmore hzero
              replace n1 := hide n1; replace n0 := hide n0
              by_cases k0 : 0 ≤ cut
              · have d5 : decide (cut ≥ 0) = true := decide_eq_true k0
                by_cases k1 : cut < (x.length : Int)
                · obtain ⟨k, rfl⟩ : ∃ k : Nat, cut = (k : Int) := ⟨cut.toNat, by omega⟩
                  have hk : k < x.length := by omega
                  have hF := hcut k hk
                  have hS := fun (A7 : Option Addr) (c7 : Nat) W (h : Bs 0 W.heap.size W (.slice A7 x.length c7) x) => Bs.cut_h h k (k : Int) rfl (by omega)
                  have hQc := fun (v : Value) W (h : Bs 0 W.heap.size W v (x.take k)) => cFrom v (x.take k) W h
                  rw [hF] at hQc
                  generalize x.take k = xk at *
                  replace hS := hide hS; replace hQc := hide hQc; replace hk := hide hk
                  clear hcut hF
                  go_enter Try.func5, Try.ntmps5
                  have tk0 : True := trivial
                  have tk1 : True := trivial
                  have tk2 : True := trivial
                  have tk3 : True := trivial
                  have tk4 : True := trivial
                  go_upto_region 14 with (first
                    | (have _t := tk0; clear tk0 _t; go_at_call 8; refine (unhide hL _).mono ?_; rintro ez wz0 ⟨rfl, bz0⟩; have szz0 := bz0.size; replace hB := hide ((unhide hB).trans (bz0.mono (unhide hB).size)); replace ha := hide (Rd.grow (unhide ha) bz0); replace hb := hide (Rd.grow (unhide hb) bz0); replace hm := hide (Rd.grow (unhide hm) bz0); clear bz0)
                    | (have _t := tk1; clear tk1 _t; go_at_call 9; refine (unhide hFa _ (unhide ha)).mono ?_; rintro ez wz1 ⟨rfl, bz1⟩; have szz1 := bz1.size; replace hB := hide ((unhide hB).trans (bz1.mono (unhide hB).size)); replace ha := hide (Rd.grow (unhide ha) bz1); replace hb := hide (Rd.grow (unhide hb) bz1); replace hm := hide (Rd.grow (unhide hm) bz1); clear bz1)
                    | (have _t := tk2; clear tk2 _t; go_at_call 16; refine (unhide hR _ (unhide hb)).mono ?_; rintro ez wz2 ⟨A1, c1, rfl, oht, bz2⟩; have szz2 := bz2.size; replace hB := hide ((unhide hB).trans (bz2.mono (unhide hB).size)); replace ha := hide (Rd.grow (unhide ha) bz2); replace hb := hide (Rd.grow (unhide hb) bz2); replace hm := hide (Rd.grow (unhide hm) bz2); (have ht := hide (own_fls oht)); clear oht; clear bz2)
                    | (have _t := tk3; clear tk3 _t; go_at_call 10; refine (unhide hYa _ (unhide ha)).mono ?_; rintro ez wz3 ⟨A7, c7, rfl, ohx, bz3⟩; have szz3 := bz3.size; replace hB := hide ((unhide hB).trans (bz3.mono (unhide hB).size)); replace ha := hide (Rd.grow (unhide ha) bz3); replace hb := hide (Rd.grow (unhide hb) bz3); replace hm := hide (Rd.grow (unhide hm) bz3); replace ht := hide (Rd.grow (unhide ht) bz3); (have hx := hide ohx); clear ohx; clear bz3; obtain ⟨As, cs, rs, bs⟩ := unhide hS _ _ _ (unhide hx); replace bs := hide bs)
                    | (have _t := tk4; clear tk4 _t; go_at_call 16; refine (unhide hQc _ _ (unhide bs)).mono ?_; rintro ez wz4 ⟨As2, cs2, rfl, oj, bz4⟩; have szz4 := bz4.size; replace hB := hide ((unhide hB).trans (bz4.mono (unhide hB).size)); replace ha := hide (Rd.grow (unhide ha) bz4); replace hb := hide (Rd.grow (unhide hb) bz4); replace hm := hide (Rd.grow (unhide hm) bz4); replace ht := hide (Rd.grow (unhide ht) bz4); replace hx := hide (Rd.grow (unhide hx) bz4); replace bs := hide (Rd.grow (unhide bs) bz4); clear bz4)
                    | fail)
                  have xs := (Rd.src bc_len (unhide hx)).2
                  have hto := flat_one bc_one x
                  have hto2 := flat_one bc_one more
                  replace xs := hide xs; replace hto := hide hto; replace hto2 := hide hto2
                  have hWs : Hid (wz4.heap.size ≤ wz4.heap.size) := hide (Nat.le_refl _)
                  have ta1 : True := trivial
                  have ta2 : True := trivial
                  have ta3 : True := trivial
                  go_upto_region 15 with (first
                    | (have _t := ta1; clear ta1 _t; at_builtin
                       refine wpList_app _ rfl (.const (.slice none 0 0)) (.tmp 80) 27 rfl wz4.heap.size 5 i0 _ 1 1 Try.underlying27 hi0 iz0 iz1 iz2 rfl (Nat.succ_pos _) _ 0 [] rfl (World.ownsRow_nil _ _ _ _) A7 x.length c7 (x.flatMap bc) rfl (by rw [flat_len bc_len]) (unhide xs) (unhide hto) (by have := unhide hshort; simp only [maxLen]; omega) (by have := unhide hshort; omega) (Nat.le_refl _) ?_
                       intro v5 w5 o5 g5
                       rw [Nat.zero_add, List.nil_append] at o5
                       obtain ⟨A5, c5, rfl⟩ := ownsRow_form o5
                       have b5 : Below wz4.heap.size wz4 w5 := (Below.refl _ _).grown g5 (Nat.le_refl _) (by intro k hk; cases hk)
                       have hB5 := hide ((unhide hB).trans (b5.mono (unhide hB).size))
                       have xm := hide (Rd.src bc_len (Rd.below (unhide hm) b5 (Nat.le_refl _))).2
                       have hz5 := hide b5.size
                       replace o5 := hide o5; replace b5 := hide b5; clear g5)
                    | (have _t := ta2; clear ta2 _t; at_builtin
                       refine wpList_app _ rfl (.tmp 81) (.tmp 82) 27 rfl wz4.heap.size 5 i0 _ 1 1 Try.underlying27 hi0 iz0 iz1 iz2 rfl (Nat.succ_pos _) _ x.length (x.flatMap bc) rfl (unhide o5) Am more.length cm (more.flatMap bc) rfl (by rw [flat_len bc_len]) (unhide xm) (unhide hto2) (by have := unhide hshort; have := unhide n1; simp only [maxLen]; omega) (by have := unhide hshort; have := unhide n1; omega) (unhide hz5) ?_
                       intro v6 w6 o6 g6
                       rw [flat_app] at o6
                       obtain ⟨A6, c6, rfl⟩ := ownsRow_form o6
                       have b6 : Below wz4.heap.size wz4 w6 := (unhide b5).grown g6 (unhide hz5) (own_base (unhide o5))
                       have hB6 := hide ((unhide hB).trans (b6.mono (unhide hB).size))
                       have hy6 := hide (own_bs (l := x ++ more) (by rw [List.length_append]) o6)
                       clear g6 o6 b6)
                    | (have _t := ta3; clear ta3 _t; go_at_call 16; refine (unhide hQ _ _ _ (unhide hy6)).mono ?_; rintro ez w9 ⟨A9, c9, rfl, o9, b9⟩; have hB9 := hide ((unhide hB6).trans (b9.mono (unhide hB6).size)); clear o9 b9)
                    | fail)
                  have hE2 := unhide hE
                  obtain ⟨er, her⟩ : ∃ er, er = fromE (x ++ more) := ⟨_, rfl⟩
                  rw [← her] at hE2 ⊢
                  obtain ⟨mn, hmn⟩ : ∃ mn, mn = more.length := ⟨_, rfl⟩
                  rw [← hmn] at hE2 ⊢
                  have hE3 : ((mn : Int) == 0) = decide (mn = 0) := by rw [Bool.eq_iff_iff]; simp
                  by_cases h0 : mn = 0
                  · have e1 : (er == 0) = true := by rw [hE2, decide_eq_true h0]
                    have e2 : ((mn : Int) == 0) = true := by rw [hE3, decide_eq_true h0]
                    replace her := hide her; replace hmn := hide hmn; replace h0 := hide h0
                    clear hE2 hE3 hE
                    go_wp2_with fail
                    all_goals go_ret
                    all_goals exact ⟨ret_b rfl rfl, unhide hB9⟩
                  · have e1 : (er == 0) = false := by rw [hE2, decide_eq_false h0]
                    have e2 : ((mn : Int) == 0) = false := by rw [hE3, decide_eq_false h0]
                    replace her := hide her; replace hmn := hide hmn; replace h0 := hide h0
                    clear hE2 hE3 hE
                    go_wp2_with fail
                    all_goals go_ret
                    all_goals exact ⟨ret_b rfl rfl, unhide hB9⟩
                · have d6 : ¬ cut < (x.length : Int) := k1
                  clear hcut
                  go_enter Try.func5, Try.ntmps5
                  have tk0 : True := trivial
                  have tk1 : True := trivial
                  have tk2 : True := trivial
                  have tk3 : True := trivial
                  go_upto_region 14 with (first
                    | (have _t := tk0; clear tk0 _t; go_at_call 8; refine (unhide hL _).mono ?_; rintro ez wz0 ⟨rfl, bz0⟩; have szz0 := bz0.size; replace hB := hide ((unhide hB).trans (bz0.mono (unhide hB).size)); replace ha := hide (Rd.grow (unhide ha) bz0); replace hb := hide (Rd.grow (unhide hb) bz0); replace hm := hide (Rd.grow (unhide hm) bz0); clear bz0)
                    | (have _t := tk1; clear tk1 _t; go_at_call 9; refine (unhide hFa _ (unhide ha)).mono ?_; rintro ez wz1 ⟨rfl, bz1⟩; have szz1 := bz1.size; replace hB := hide ((unhide hB).trans (bz1.mono (unhide hB).size)); replace ha := hide (Rd.grow (unhide ha) bz1); replace hb := hide (Rd.grow (unhide hb) bz1); replace hm := hide (Rd.grow (unhide hm) bz1); clear bz1)
                    | (have _t := tk2; clear tk2 _t; go_at_call 16; refine (unhide hR _ (unhide hb)).mono ?_; rintro ez wz2 ⟨A1, c1, rfl, oht, bz2⟩; have szz2 := bz2.size; replace hB := hide ((unhide hB).trans (bz2.mono (unhide hB).size)); replace ha := hide (Rd.grow (unhide ha) bz2); replace hb := hide (Rd.grow (unhide hb) bz2); replace hm := hide (Rd.grow (unhide hm) bz2); (have ht := hide (own_fls oht)); clear oht; clear bz2)
                    | (have _t := tk3; clear tk3 _t; go_at_call 10; refine (unhide hYa _ (unhide ha)).mono ?_; rintro ez wz3 ⟨A7, c7, rfl, ohx, bz3⟩; have szz3 := bz3.size; replace hB := hide ((unhide hB).trans (bz3.mono (unhide hB).size)); replace ha := hide (Rd.grow (unhide ha) bz3); replace hb := hide (Rd.grow (unhide hb) bz3); replace hm := hide (Rd.grow (unhide hm) bz3); replace ht := hide (Rd.grow (unhide ht) bz3); (have hx := hide ohx); clear ohx; clear bz3)
                    | fail)
                  have xs := (Rd.src bc_len (unhide hx)).2
                  have hto := flat_one bc_one x
                  have hto2 := flat_one bc_one more
                  replace xs := hide xs; replace hto := hide hto; replace hto2 := hide hto2
                  have hWs : Hid (wz3.heap.size ≤ wz3.heap.size) := hide (Nat.le_refl _)
                  have ta1 : True := trivial
                  have ta2 : True := trivial
                  have ta3 : True := trivial
                  go_upto_region 15 with (first
                    | (have _t := ta1; clear ta1 _t; at_builtin
                       refine wpList_app _ rfl (.const (.slice none 0 0)) (.tmp 80) 27 rfl wz3.heap.size 5 i0 _ 1 1 Try.underlying27 hi0 iz0 iz1 iz2 rfl (Nat.succ_pos _) _ 0 [] rfl (World.ownsRow_nil _ _ _ _) A7 x.length c7 (x.flatMap bc) rfl (by rw [flat_len bc_len]) (unhide xs) (unhide hto) (by have := unhide hshort; simp only [maxLen]; omega) (by have := unhide hshort; omega) (Nat.le_refl _) ?_
                       intro v5 w5 o5 g5
                       rw [Nat.zero_add, List.nil_append] at o5
                       obtain ⟨A5, c5, rfl⟩ := ownsRow_form o5
                       have b5 : Below wz3.heap.size wz3 w5 := (Below.refl _ _).grown g5 (Nat.le_refl _) (by intro k hk; cases hk)
                       have hB5 := hide ((unhide hB).trans (b5.mono (unhide hB).size))
                       have xm := hide (Rd.src bc_len (Rd.below (unhide hm) b5 (Nat.le_refl _))).2
                       have hz5 := hide b5.size
                       replace o5 := hide o5; replace b5 := hide b5; clear g5)
                    | (have _t := ta2; clear ta2 _t; at_builtin
                       refine wpList_app _ rfl (.tmp 81) (.tmp 82) 27 rfl wz3.heap.size 5 i0 _ 1 1 Try.underlying27 hi0 iz0 iz1 iz2 rfl (Nat.succ_pos _) _ x.length (x.flatMap bc) rfl (unhide o5) Am more.length cm (more.flatMap bc) rfl (by rw [flat_len bc_len]) (unhide xm) (unhide hto2) (by have := unhide hshort; have := unhide n1; simp only [maxLen]; omega) (by have := unhide hshort; have := unhide n1; omega) (unhide hz5) ?_
                       intro v6 w6 o6 g6
                       rw [flat_app] at o6
                       obtain ⟨A6, c6, rfl⟩ := ownsRow_form o6
                       have b6 : Below wz3.heap.size wz3 w6 := (unhide b5).grown g6 (unhide hz5) (own_base (unhide o5))
                       have hB6 := hide ((unhide hB).trans (b6.mono (unhide hB).size))
                       have hy6 := hide (own_bs (l := x ++ more) (by rw [List.length_append]) o6)
                       clear g6 o6 b6)
                    | (have _t := ta3; clear ta3 _t; go_at_call 16; refine (unhide hQ _ _ _ (unhide hy6)).mono ?_; rintro ez w9 ⟨A9, c9, rfl, o9, b9⟩; have hB9 := hide ((unhide hB6).trans (b9.mono (unhide hB6).size)); clear o9 b9)
                    | fail)
                  have hE2 := unhide hE
                  obtain ⟨er, her⟩ : ∃ er, er = fromE (x ++ more) := ⟨_, rfl⟩
                  rw [← her] at hE2 ⊢
                  obtain ⟨mn, hmn⟩ : ∃ mn, mn = more.length := ⟨_, rfl⟩
                  rw [← hmn] at hE2 ⊢
                  have hE3 : ((mn : Int) == 0) = decide (mn = 0) := by rw [Bool.eq_iff_iff]; simp
                  by_cases h0 : mn = 0
                  · have e1 : (er == 0) = true := by rw [hE2, decide_eq_true h0]
                    have e2 : ((mn : Int) == 0) = true := by rw [hE3, decide_eq_true h0]
                    replace her := hide her; replace hmn := hide hmn; replace h0 := hide h0
                    clear hE2 hE3 hE
                    go_wp2_with fail
                    all_goals go_ret
                    all_goals exact ⟨ret_b rfl rfl, unhide hB9⟩
                  · have e1 : (er == 0) = false := by rw [hE2, decide_eq_false h0]
                    have e2 : ((mn : Int) == 0) = false := by rw [hE3, decide_eq_false h0]
                    replace her := hide her; replace hmn := hide hmn; replace h0 := hide h0
                    clear hE2 hE3 hE
                    go_wp2_with fail
                    all_goals go_ret
                    all_goals exact ⟨ret_b rfl rfl, unhide hB9⟩
              · have d5 : decide (cut ≥ 0) = false := decide_eq_false (by omega)
                clear hcut
                go_enter Try.func5, Try.ntmps5
                have tk0 : True := trivial
                have tk1 : True := trivial
                have tk2 : True := trivial
                have tk3 : True := trivial
                go_upto_region 14 with (first
                  | (have _t := tk0; clear tk0 _t; go_at_call 8; refine (unhide hL _).mono ?_; rintro ez wz0 ⟨rfl, bz0⟩; have szz0 := bz0.size; replace hB := hide ((unhide hB).trans (bz0.mono (unhide hB).size)); replace ha := hide (Rd.grow (unhide ha) bz0); replace hb := hide (Rd.grow (unhide hb) bz0); replace hm := hide (Rd.grow (unhide hm) bz0); clear bz0)
                  | (have _t := tk1; clear tk1 _t; go_at_call 9; refine (unhide hFa _ (unhide ha)).mono ?_; rintro ez wz1 ⟨rfl, bz1⟩; have szz1 := bz1.size; replace hB := hide ((unhide hB).trans (bz1.mono (unhide hB).size)); replace ha := hide (Rd.grow (unhide ha) bz1); replace hb := hide (Rd.grow (unhide hb) bz1); replace hm := hide (Rd.grow (unhide hm) bz1); clear bz1)
                  | (have _t := tk2; clear tk2 _t; go_at_call 16; refine (unhide hR _ (unhide hb)).mono ?_; rintro ez wz2 ⟨A1, c1, rfl, oht, bz2⟩; have szz2 := bz2.size; replace hB := hide ((unhide hB).trans (bz2.mono (unhide hB).size)); replace ha := hide (Rd.grow (unhide ha) bz2); replace hb := hide (Rd.grow (unhide hb) bz2); replace hm := hide (Rd.grow (unhide hm) bz2); (have ht := hide (own_fls oht)); clear oht; clear bz2)
                  | (have _t := tk3; clear tk3 _t; go_at_call 10; refine (unhide hYa _ (unhide ha)).mono ?_; rintro ez wz3 ⟨A7, c7, rfl, ohx, bz3⟩; have szz3 := bz3.size; replace hB := hide ((unhide hB).trans (bz3.mono (unhide hB).size)); replace ha := hide (Rd.grow (unhide ha) bz3); replace hb := hide (Rd.grow (unhide hb) bz3); replace hm := hide (Rd.grow (unhide hm) bz3); replace ht := hide (Rd.grow (unhide ht) bz3); (have hx := hide ohx); clear ohx; clear bz3)
                  | fail)
                have xs := (Rd.src bc_len (unhide hx)).2
                have hto := flat_one bc_one x
                have hto2 := flat_one bc_one more
                replace xs := hide xs; replace hto := hide hto; replace hto2 := hide hto2
                have hWs : Hid (wz3.heap.size ≤ wz3.heap.size) := hide (Nat.le_refl _)
                have ta1 : True := trivial
                have ta2 : True := trivial
                have ta3 : True := trivial
                go_upto_region 15 with (first
                  | (have _t := ta1; clear ta1 _t; at_builtin
                     refine wpList_app _ rfl (.const (.slice none 0 0)) (.tmp 80) 27 rfl wz3.heap.size 5 i0 _ 1 1 Try.underlying27 hi0 iz0 iz1 iz2 rfl (Nat.succ_pos _) _ 0 [] rfl (World.ownsRow_nil _ _ _ _) A7 x.length c7 (x.flatMap bc) rfl (by rw [flat_len bc_len]) (unhide xs) (unhide hto) (by have := unhide hshort; simp only [maxLen]; omega) (by have := unhide hshort; omega) (Nat.le_refl _) ?_
                     intro v5 w5 o5 g5
                     rw [Nat.zero_add, List.nil_append] at o5
                     obtain ⟨A5, c5, rfl⟩ := ownsRow_form o5
                     have b5 : Below wz3.heap.size wz3 w5 := (Below.refl _ _).grown g5 (Nat.le_refl _) (by intro k hk; cases hk)
                     have hB5 := hide ((unhide hB).trans (b5.mono (unhide hB).size))
                     have xm := hide (Rd.src bc_len (Rd.below (unhide hm) b5 (Nat.le_refl _))).2
                     have hz5 := hide b5.size
                     replace o5 := hide o5; replace b5 := hide b5; clear g5)
                  | (have _t := ta2; clear ta2 _t; at_builtin
                     refine wpList_app _ rfl (.tmp 81) (.tmp 82) 27 rfl wz3.heap.size 5 i0 _ 1 1 Try.underlying27 hi0 iz0 iz1 iz2 rfl (Nat.succ_pos _) _ x.length (x.flatMap bc) rfl (unhide o5) Am more.length cm (more.flatMap bc) rfl (by rw [flat_len bc_len]) (unhide xm) (unhide hto2) (by have := unhide hshort; have := unhide n1; simp only [maxLen]; omega) (by have := unhide hshort; have := unhide n1; omega) (unhide hz5) ?_
                     intro v6 w6 o6 g6
                     rw [flat_app] at o6
                     obtain ⟨A6, c6, rfl⟩ := ownsRow_form o6
                     have b6 : Below wz3.heap.size wz3 w6 := (unhide b5).grown g6 (unhide hz5) (own_base (unhide o5))
                     have hB6 := hide ((unhide hB).trans (b6.mono (unhide hB).size))
                     have hy6 := hide (own_bs (l := x ++ more) (by rw [List.length_append]) o6)
                     clear g6 o6 b6)
                  | (have _t := ta3; clear ta3 _t; go_at_call 16; refine (unhide hQ _ _ _ (unhide hy6)).mono ?_; rintro ez w9 ⟨A9, c9, rfl, o9, b9⟩; have hB9 := hide ((unhide hB6).trans (b9.mono (unhide hB6).size)); clear o9 b9)
                  | fail)
                have hE2 := unhide hE
                obtain ⟨er, her⟩ : ∃ er, er = fromE (x ++ more) := ⟨_, rfl⟩
                rw [← her] at hE2 ⊢
                obtain ⟨mn, hmn⟩ : ∃ mn, mn = more.length := ⟨_, rfl⟩
                rw [← hmn] at hE2 ⊢
                have hE3 : ((mn : Int) == 0) = decide (mn = 0) := by rw [Bool.eq_iff_iff]; simp
                by_cases h0 : mn = 0
                · have e1 : (er == 0) = true := by rw [hE2, decide_eq_true h0]
                  have e2 : ((mn : Int) == 0) = true := by rw [hE3, decide_eq_true h0]
                  replace her := hide her; replace hmn := hide hmn; replace h0 := hide h0
                  clear hE2 hE3 hE
                  go_wp2_with fail
                  all_goals go_ret
                  all_goals exact ⟨ret_b rfl rfl, unhide hB9⟩
                · have e1 : (er == 0) = false := by rw [hE2, decide_eq_false h0]
                  have e2 : ((mn : Int) == 0) = false := by rw [hE3, decide_eq_false h0]
                  replace her := hide her; replace hmn := hide hmn; replace h0 := hide h0
                  clear hE2 hE3 hE
                  go_wp2_with fail
                  all_goals go_ret
                  all_goals exact ⟨ret_b rfl rfl, unhide hB9⟩
          · rw [hz, hz2] at hR
            replace hR := hide hR
            clear hz hz2
            cases ta : tabB l with
            | false =>
              rw [ta, bytes_f ta, err_f] at hYa
              replace hYa := hide hYa
              clear ta ia sa ua n0 n1
              go_enter Try.func5, Try.ntmps5
              have tk0 : True := trivial
              have tk1 : True := trivial
              have tk2 : True := trivial
              have tk3 : True := trivial
              go_wp2_with (first
                | (have _t := tk0; clear tk0 _t; go_at_call 8; refine (unhide hL _).mono ?_; rintro ez wz0 ⟨rfl, bz0⟩; have szz0 := bz0.size; replace hB := hide ((unhide hB).trans (bz0.mono (unhide hB).size)); replace ha := hide (Rd.grow (unhide ha) bz0); replace hb := hide (Rd.grow (unhide hb) bz0); replace hm := hide (Rd.grow (unhide hm) bz0); clear bz0)
                | (have _t := tk1; clear tk1 _t; go_at_call 9; refine (unhide hFa _ (unhide ha)).mono ?_; rintro ez wz1 ⟨rfl, bz1⟩; have szz1 := bz1.size; replace hB := hide ((unhide hB).trans (bz1.mono (unhide hB).size)); replace ha := hide (Rd.grow (unhide ha) bz1); replace hb := hide (Rd.grow (unhide hb) bz1); replace hm := hide (Rd.grow (unhide hm) bz1); clear bz1)
                | (have _t := tk2; clear tk2 _t; go_at_call 16; refine (unhide hR _ (unhide hb)).mono ?_; rintro ez wz2 ⟨A1, c1, rfl, oht, bz2⟩; have szz2 := bz2.size; replace hB := hide ((unhide hB).trans (bz2.mono (unhide hB).size)); replace ha := hide (Rd.grow (unhide ha) bz2); replace hb := hide (Rd.grow (unhide hb) bz2); replace hm := hide (Rd.grow (unhide hm) bz2); (have ht := hide (own_fls oht)); clear oht; clear bz2)
                | (have _t := tk3; clear tk3 _t; go_at_call 10; refine (unhide hYa _ (unhide ha)).mono ?_; rintro ez wz3 ⟨A7, c7, rfl, ohx, bz3⟩; have szz3 := bz3.size; replace hB := hide ((unhide hB).trans (bz3.mono (unhide hB).size)); replace ha := hide (Rd.grow (unhide ha) bz3); replace hb := hide (Rd.grow (unhide hb) bz3); replace hm := hide (Rd.grow (unhide hm) bz3); replace ht := hide (Rd.grow (unhide ht) bz3); (have hx := hide ohx); clear ohx; clear bz3)
                | fail)
              all_goals go_ret
              all_goals exact ⟨rfl, unhide hB⟩
            | true =>
              have hcut := fun (k : Nat) hk => from_cut ta ia (k := k) hk
              have hmore := fun (h0 : more ≠ []) => from_more ta ia (x := more) (by omega) h0
              have hzero := (from_of ta ia).2
              have hshort := tab_short ta
              rw [ta, bytes_t ta, err_t] at hYa
              generalize tabT l = x at *
              have hQ := fun (v : Value) (y : List UInt8) W (h : Bs 0 W.heap.size W v y) => cFrom v y W h
              have hE : ((fromE (x ++ more) == 0) = decide (more.length = 0)) := by
                by_cases h0 : more = []
                · subst h0; rw [List.append_nil, hzero]; rfl
                · rw [hmore h0, decide_eq_false (by have := List.length_pos_iff.2 h0; omega)]; rfl
              obtain ⟨i0, hi0, iz0, iz1, iz2⟩ := info_p info5
              replace hYa := hide hYa; replace hQ := hide hQ; replace hE := hide hE; replace hshort := hide hshort
              clear ta ia sa ua hmore hzero
              replace n1 := hide n1; replace n0 := hide n0
              by_cases k0 : 0 ≤ cut
              · have d5 : decide (cut ≥ 0) = true := decide_eq_true k0
                by_cases k1 : cut < (x.length : Int)
                · obtain ⟨k, rfl⟩ : ∃ k : Nat, cut = (k : Int) := ⟨cut.toNat, by omega⟩
                  have hk : k < x.length := by omega
                  have hF := hcut k hk
                  have hS := fun (A7 : Option Addr) (c7 : Nat) W (h : Bs 0 W.heap.size W (.slice A7 x.length c7) x) => Bs.cut_h h k (k : Int) rfl (by omega)
                  have hQc := fun (v : Value) W (h : Bs 0 W.heap.size W v (x.take k)) => cFrom v (x.take k) W h
                  rw [hF] at hQc
                  generalize x.take k = xk at *
                  replace hS := hide hS; replace hQc := hide hQc; replace hk := hide hk
                  clear hcut hF
                  go_enter Try.func5, Try.ntmps5
                  have tk0 : True := trivial
                  have tk1 : True := trivial
                  have tk2 : True := trivial
                  have tk3 : True := trivial
                  have tk4 : True := trivial
                  go_upto_region 14 with (first
                    | (have _t := tk0; clear tk0 _t; go_at_call 8; refine (unhide hL _).mono ?_; rintro ez wz0 ⟨rfl, bz0⟩; have szz0 := bz0.size; replace hB := hide ((unhide hB).trans (bz0.mono (unhide hB).size)); replace ha := hide (Rd.grow (unhide ha) bz0); replace hb := hide (Rd.grow (unhide hb) bz0); replace hm := hide (Rd.grow (unhide hm) bz0); clear bz0)
                    | (have _t := tk1; clear tk1 _t; go_at_call 9; refine (unhide hFa _ (unhide ha)).mono ?_; rintro ez wz1 ⟨rfl, bz1⟩; have szz1 := bz1.size; replace hB := hide ((unhide hB).trans (bz1.mono (unhide hB).size)); replace ha := hide (Rd.grow (unhide ha) bz1); replace hb := hide (Rd.grow (unhide hb) bz1); replace hm := hide (Rd.grow (unhide hm) bz1); clear bz1)
                    | (have _t := tk2; clear tk2 _t; go_at_call 16; refine (unhide hR _ (unhide hb)).mono ?_; rintro ez wz2 ⟨A1, c1, rfl, oht, bz2⟩; have szz2 := bz2.size; replace hB := hide ((unhide hB).trans (bz2.mono (unhide hB).size)); replace ha := hide (Rd.grow (unhide ha) bz2); replace hb := hide (Rd.grow (unhide hb) bz2); replace hm := hide (Rd.grow (unhide hm) bz2); (have ht := hide (own_fls oht)); clear oht; clear bz2)
                    | (have _t := tk3; clear tk3 _t; go_at_call 10; refine (unhide hYa _ (unhide ha)).mono ?_; rintro ez wz3 ⟨A7, c7, rfl, ohx, bz3⟩; have szz3 := bz3.size; replace hB := hide ((unhide hB).trans (bz3.mono (unhide hB).size)); replace ha := hide (Rd.grow (unhide ha) bz3); replace hb := hide (Rd.grow (unhide hb) bz3); replace hm := hide (Rd.grow (unhide hm) bz3); replace ht := hide (Rd.grow (unhide ht) bz3); (have hx := hide ohx); clear ohx; clear bz3; obtain ⟨As, cs, rs, bs⟩ := unhide hS _ _ _ (unhide hx); replace bs := hide bs)
                    | (have _t := tk4; clear tk4 _t; go_at_call 16; refine (unhide hQc _ _ (unhide bs)).mono ?_; rintro ez wz4 ⟨As2, cs2, rfl, oj, bz4⟩; have szz4 := bz4.size; replace hB := hide ((unhide hB).trans (bz4.mono (unhide hB).size)); replace ha := hide (Rd.grow (unhide ha) bz4); replace hb := hide (Rd.grow (unhide hb) bz4); replace hm := hide (Rd.grow (unhide hm) bz4); replace ht := hide (Rd.grow (unhide ht) bz4); replace hx := hide (Rd.grow (unhide hx) bz4); replace bs := hide (Rd.grow (unhide bs) bz4); clear bz4)
                    | fail)
                  have xs := (Rd.src bc_len (unhide hx)).2
                  have hto := flat_one bc_one x
                  have hto2 := flat_one bc_one more
                  replace xs := hide xs; replace hto := hide hto; replace hto2 := hide hto2
                  have hWs : Hid (wz4.heap.size ≤ wz4.heap.size) := hide (Nat.le_refl _)
                  have ta1 : True := trivial
                  have ta2 : True := trivial
                  have ta3 : True := trivial
                  go_upto_region 15 with (first
                    | (have _t := ta1; clear ta1 _t; at_builtin
                       refine wpList_app _ rfl (.const (.slice none 0 0)) (.tmp 80) 27 rfl wz4.heap.size 5 i0 _ 1 1 Try.underlying27 hi0 iz0 iz1 iz2 rfl (Nat.succ_pos _) _ 0 [] rfl (World.ownsRow_nil _ _ _ _) A7 x.length c7 (x.flatMap bc) rfl (by rw [flat_len bc_len]) (unhide xs) (unhide hto) (by have := unhide hshort; simp only [maxLen]; omega) (by have := unhide hshort; omega) (Nat.le_refl _) ?_
                       intro v5 w5 o5 g5
                       rw [Nat.zero_add, List.nil_append] at o5
                       obtain ⟨A5, c5, rfl⟩ := ownsRow_form o5
                       have b5 : Below wz4.heap.size wz4 w5 := (Below.refl _ _).grown g5 (Nat.le_refl _) (by intro k hk; cases hk)
                       have hB5 := hide ((unhide hB).trans (b5.mono (unhide hB).size))
                       have xm := hide (Rd.src bc_len (Rd.below (unhide hm) b5 (Nat.le_refl _))).2
                       have hz5 := hide b5.size
                       replace o5 := hide o5; replace b5 := hide b5; clear g5)
                    | (have _t := ta2; clear ta2 _t; at_builtin
                       refine wpList_app _ rfl (.tmp 81) (.tmp 82) 27 rfl wz4.heap.size 5 i0 _ 1 1 Try.underlying27 hi0 iz0 iz1 iz2 rfl (Nat.succ_pos _) _ x.length (x.flatMap bc) rfl (unhide o5) Am more.length cm (more.flatMap bc) rfl (by rw [flat_len bc_len]) (unhide xm) (unhide hto2) (by have := unhide hshort; have := unhide n1; simp only [maxLen]; omega) (by have := unhide hshort; have := unhide n1; omega) (unhide hz5) ?_
                       intro v6 w6 o6 g6
                       rw [flat_app] at o6
                       obtain ⟨A6, c6, rfl⟩ := ownsRow_form o6
                       have b6 : Below wz4.heap.size wz4 w6 := (unhide b5).grown g6 (unhide hz5) (own_base (unhide o5))
                       have hB6 := hide ((unhide hB).trans (b6.mono (unhide hB).size))
                       have hy6 := hide (own_bs (l := x ++ more) (by rw [List.length_append]) o6)
                       clear g6 o6 b6)
                    | (have _t := ta3; clear ta3 _t; go_at_call 16; refine (unhide hQ _ _ _ (unhide hy6)).mono ?_; rintro ez w9 ⟨A9, c9, rfl, o9, b9⟩; have hB9 := hide ((unhide hB6).trans (b9.mono (unhide hB6).size)); clear o9 b9)
                    | fail)
                  have hE2 := unhide hE
                  obtain ⟨er, her⟩ : ∃ er, er = fromE (x ++ more) := ⟨_, rfl⟩
                  rw [← her] at hE2 ⊢
                  obtain ⟨mn, hmn⟩ : ∃ mn, mn = more.length := ⟨_, rfl⟩
                  rw [← hmn] at hE2 ⊢
                  have hE3 : ((mn : Int) == 0) = decide (mn = 0) := by rw [Bool.eq_iff_iff]; simp
                  by_cases h0 : mn = 0
                  · have e1 : (er == 0) = true := by rw [hE2, decide_eq_true h0]
                    have e2 : ((mn : Int) == 0) = true := by rw [hE3, decide_eq_true h0]
                    replace her := hide her; replace hmn := hide hmn; replace h0 := hide h0
                    clear hE2 hE3 hE
                    go_wp2_with fail
                    all_goals go_ret
                    all_goals exact ⟨ret_b rfl rfl, unhide hB9⟩
                  · have e1 : (er == 0) = false := by rw [hE2, decide_eq_false h0]
                    have e2 : ((mn : Int) == 0) = false := by rw [hE3, decide_eq_false h0]
                    replace her := hide her; replace hmn := hide hmn; replace h0 := hide h0
                    clear hE2 hE3 hE
                    go_wp2_with fail
                    all_goals go_ret
                    all_goals exact ⟨ret_b rfl rfl, unhide hB9⟩
                · have d6 : ¬ cut < (x.length : Int) := k1
                  clear hcut
                  go_enter Try.func5, Try.ntmps5
                  have tk0 : True := trivial
                  have tk1 : True := trivial
                  have tk2 : True := trivial
                  have tk3 : True := trivial
                  go_upto_region 14 with (first
                    | (have _t := tk0; clear tk0 _t; go_at_call 8; refine (unhide hL _).mono ?_; rintro ez wz0 ⟨rfl, bz0⟩; have szz0 := bz0.size; replace hB := hide ((unhide hB).trans (bz0.mono (unhide hB).size)); replace ha := hide (Rd.grow (unhide ha) bz0); replace hb := hide (Rd.grow (unhide hb) bz0); replace hm := hide (Rd.grow (unhide hm) bz0); clear bz0)
                    | (have _t := tk1; clear tk1 _t; go_at_call 9; refine (unhide hFa _ (unhide ha)).mono ?_; rintro ez wz1 ⟨rfl, bz1⟩; have szz1 := bz1.size; replace hB := hide ((unhide hB).trans (bz1.mono (unhide hB).size)); replace ha := hide (Rd.grow (unhide ha) bz1); replace hb := hide (Rd.grow (unhide hb) bz1); replace hm := hide (Rd.grow (unhide hm) bz1); clear bz1)
                    | (have _t := tk2; clear tk2 _t; go_at_call 16; refine (unhide hR _ (unhide hb)).mono ?_; rintro ez wz2 ⟨A1, c1, rfl, oht, bz2⟩; have szz2 := bz2.size; replace hB := hide ((unhide hB).trans (bz2.mono (unhide hB).size)); replace ha := hide (Rd.grow (unhide ha) bz2); replace hb := hide (Rd.grow (unhide hb) bz2); replace hm := hide (Rd.grow (unhide hm) bz2); (have ht := hide (own_fls oht)); clear oht; clear bz2)
                    | (have _t := tk3; clear tk3 _t; go_at_call 10; refine (unhide hYa _ (unhide ha)).mono ?_; rintro ez wz3 ⟨A7, c7, rfl, ohx, bz3⟩; have szz3 := bz3.size; replace hB := hide ((unhide hB).trans (bz3.mono (unhide hB).size)); replace ha := hide (Rd.grow (unhide ha) bz3); replace hb := hide (Rd.grow (unhide hb) bz3); replace hm := hide (Rd.grow (unhide hm) bz3); replace ht := hide (Rd.grow (unhide ht) bz3); (have hx := hide ohx); clear ohx; clear bz3)
                    | fail)
                  have xs := (Rd.src bc_len (unhide hx)).2
                  have hto := flat_one bc_one x
                  have hto2 := flat_one bc_one more
                  replace xs := hide xs; replace hto := hide hto; replace hto2 := hide hto2
                  have hWs : Hid (wz3.heap.size ≤ wz3.heap.size) := hide (Nat.le_refl _)
                  have ta1 : True := trivial
                  have ta2 : True := trivial
                  have ta3 : True := trivial
                  go_upto_region 15 with (first
                    | (have _t := ta1; clear ta1 _t; at_builtin
                       refine wpList_app _ rfl (.const (.slice none 0 0)) (.tmp 80) 27 rfl wz3.heap.size 5 i0 _ 1 1 Try.underlying27 hi0 iz0 iz1 iz2 rfl (Nat.succ_pos _) _ 0 [] rfl (World.ownsRow_nil _ _ _ _) A7 x.length c7 (x.flatMap bc) rfl (by rw [flat_len bc_len]) (unhide xs) (unhide hto) (by have := unhide hshort; simp only [maxLen]; omega) (by have := unhide hshort; omega) (Nat.le_refl _) ?_
                       intro v5 w5 o5 g5
                       rw [Nat.zero_add, List.nil_append] at o5
                       obtain ⟨A5, c5, rfl⟩ := ownsRow_form o5
                       have b5 : Below wz3.heap.size wz3 w5 := (Below.refl _ _).grown g5 (Nat.le_refl _) (by intro k hk; cases hk)
                       have hB5 := hide ((unhide hB).trans (b5.mono (unhide hB).size))
                       have xm := hide (Rd.src bc_len (Rd.below (unhide hm) b5 (Nat.le_refl _))).2
                       have hz5 := hide b5.size
                       replace o5 := hide o5; replace b5 := hide b5; clear g5)
                    | (have _t := ta2; clear ta2 _t; at_builtin
                       refine wpList_app _ rfl (.tmp 81) (.tmp 82) 27 rfl wz3.heap.size 5 i0 _ 1 1 Try.underlying27 hi0 iz0 iz1 iz2 rfl (Nat.succ_pos _) _ x.length (x.flatMap bc) rfl (unhide o5) Am more.length cm (more.flatMap bc) rfl (by rw [flat_len bc_len]) (unhide xm) (unhide hto2) (by have := unhide hshort; have := unhide n1; simp only [maxLen]; omega) (by have := unhide hshort; have := unhide n1; omega) (unhide hz5) ?_
                       intro v6 w6 o6 g6
                       rw [flat_app] at o6
                       obtain ⟨A6, c6, rfl⟩ := ownsRow_form o6
                       have b6 : Below wz3.heap.size wz3 w6 := (unhide b5).grown g6 (unhide hz5) (own_base (unhide o5))
                       have hB6 := hide ((unhide hB).trans (b6.mono (unhide hB).size))
                       have hy6 := hide (own_bs (l := x ++ more) (by rw [List.length_append]) o6)
                       clear g6 o6 b6)
                    | (have _t := ta3; clear ta3 _t; go_at_call 16; refine (unhide hQ _ _ _ (unhide hy6)).mono ?_; rintro ez w9 ⟨A9, c9, rfl, o9, b9⟩; have hB9 := hide ((unhide hB6).trans (b9.mono (unhide hB6).size)); clear o9 b9)
                    | fail)
                  have hE2 := unhide hE
                  obtain ⟨er, her⟩ : ∃ er, er = fromE (x ++ more) := ⟨_, rfl⟩
                  rw [← her] at hE2 ⊢
                  obtain ⟨mn, hmn⟩ : ∃ mn, mn = more.length := ⟨_, rfl⟩
                  rw [← hmn] at hE2 ⊢
                  have hE3 : ((mn : Int) == 0) = decide (mn = 0) := by rw [Bool.eq_iff_iff]; simp
                  by_cases h0 : mn = 0
                  · have e1 : (er == 0) = true := by rw [hE2, decide_eq_true h0]
                    have e2 : ((mn : Int) == 0) = true := by rw [hE3, decide_eq_true h0]
                    replace her := hide her; replace hmn := hide hmn; replace h0 := hide h0
                    clear hE2 hE3 hE
                    go_wp2_with fail
                    all_goals go_ret
                    all_goals exact ⟨ret_b rfl rfl, unhide hB9⟩
                  · have e1 : (er == 0) = false := by rw [hE2, decide_eq_false h0]
                    have e2 : ((mn : Int) == 0) = false := by rw [hE3, decide_eq_false h0]
                    replace her := hide her; replace hmn := hide hmn; replace h0 := hide h0
                    clear hE2 hE3 hE
                    go_wp2_with fail
                    all_goals go_ret
                    all_goals exact ⟨ret_b rfl rfl, unhide hB9⟩
              · have d5 : decide (cut ≥ 0) = false := decide_eq_false (by omega)
                clear hcut
                go_enter Try.func5, Try.ntmps5
                have tk0 : True := trivial
                have tk1 : True := trivial
                have tk2 : True := trivial
                have tk3 : True := trivial
                go_upto_region 14 with (first
                  | (have _t := tk0; clear tk0 _t; go_at_call 8; refine (unhide hL _).mono ?_; rintro ez wz0 ⟨rfl, bz0⟩; have szz0 := bz0.size; replace hB := hide ((unhide hB).trans (bz0.mono (unhide hB).size)); replace ha := hide (Rd.grow (unhide ha) bz0); replace hb := hide (Rd.grow (unhide hb) bz0); replace hm := hide (Rd.grow (unhide hm) bz0); clear bz0)
                  | (have _t := tk1; clear tk1 _t; go_at_call 9; refine (unhide hFa _ (unhide ha)).mono ?_; rintro ez wz1 ⟨rfl, bz1⟩; have szz1 := bz1.size; replace hB := hide ((unhide hB).trans (bz1.mono (unhide hB).size)); replace ha := hide (Rd.grow (unhide ha) bz1); replace hb := hide (Rd.grow (unhide hb) bz1); replace hm := hide (Rd.grow (unhide hm) bz1); clear bz1)
                  | (have _t := tk2; clear tk2 _t; go_at_call 16; refine (unhide hR _ (unhide hb)).mono ?_; rintro ez wz2 ⟨A1, c1, rfl, oht, bz2⟩; have szz2 := bz2.size; replace hB := hide ((unhide hB).trans (bz2.mono (unhide hB).size)); replace ha := hide (Rd.grow (unhide ha) bz2); replace hb := hide (Rd.grow (unhide hb) bz2); replace hm := hide (Rd.grow (unhide hm) bz2); (have ht := hide (own_fls oht)); clear oht; clear bz2)
                  | (have _t := tk3; clear tk3 _t; go_at_call 10; refine (unhide hYa _ (unhide ha)).mono ?_; rintro ez wz3 ⟨A7, c7, rfl, ohx, bz3⟩; have szz3 := bz3.size; replace hB := hide ((unhide hB).trans (bz3.mono (unhide hB).size)); replace ha := hide (Rd.grow (unhide ha) bz3); replace hb := hide (Rd.grow (unhide hb) bz3); replace hm := hide (Rd.grow (unhide hm) bz3); replace ht := hide (Rd.grow (unhide ht) bz3); (have hx := hide ohx); clear ohx; clear bz3)
                  | fail)
                have xs := (Rd.src bc_len (unhide hx)).2
                have hto := flat_one bc_one x
                have hto2 := flat_one bc_one more
                replace xs := hide xs; replace hto := hide hto; replace hto2 := hide hto2
                have hWs : Hid (wz3.heap.size ≤ wz3.heap.size) := hide (Nat.le_refl _)
                have ta1 : True := trivial
                have ta2 : True := trivial
                have ta3 : True := trivial
                go_upto_region 15 with (first
                  | (have _t := ta1; clear ta1 _t; at_builtin
                     refine wpList_app _ rfl (.const (.slice none 0 0)) (.tmp 80) 27 rfl wz3.heap.size 5 i0 _ 1 1 Try.underlying27 hi0 iz0 iz1 iz2 rfl (Nat.succ_pos _) _ 0 [] rfl (World.ownsRow_nil _ _ _ _) A7 x.length c7 (x.flatMap bc) rfl (by rw [flat_len bc_len]) (unhide xs) (unhide hto) (by have := unhide hshort; simp only [maxLen]; omega) (by have := unhide hshort; omega) (Nat.le_refl _) ?_
                     intro v5 w5 o5 g5
                     rw [Nat.zero_add, List.nil_append] at o5
                     obtain ⟨A5, c5, rfl⟩ := ownsRow_form o5
                     have b5 : Below wz3.heap.size wz3 w5 := (Below.refl _ _).grown g5 (Nat.le_refl _) (by intro k hk; cases hk)
                     have hB5 := hide ((unhide hB).trans (b5.mono (unhide hB).size))
                     have xm := hide (Rd.src bc_len (Rd.below (unhide hm) b5 (Nat.le_refl _))).2
                     have hz5 := hide b5.size
                     replace o5 := hide o5; replace b5 := hide b5; clear g5)
                  | (have _t := ta2; clear ta2 _t; at_builtin
                     refine wpList_app _ rfl (.tmp 81) (.tmp 82) 27 rfl wz3.heap.size 5 i0 _ 1 1 Try.underlying27 hi0 iz0 iz1 iz2 rfl (Nat.succ_pos _) _ x.length (x.flatMap bc) rfl (unhide o5) Am more.length cm (more.flatMap bc) rfl (by rw [flat_len bc_len]) (unhide xm) (unhide hto2) (by have := unhide hshort; have := unhide n1; simp only [maxLen]; omega) (by have := unhide hshort; have := unhide n1; omega) (unhide hz5) ?_
                     intro v6 w6 o6 g6
                     rw [flat_app] at o6
                     obtain ⟨A6, c6, rfl⟩ := ownsRow_form o6
                     have b6 : Below wz3.heap.size wz3 w6 := (unhide b5).grown g6 (unhide hz5) (own_base (unhide o5))
                     have hB6 := hide ((unhide hB).trans (b6.mono (unhide hB).size))
                     have hy6 := hide (own_bs (l := x ++ more) (by rw [List.length_append]) o6)
                     clear g6 o6 b6)
                  | (have _t := ta3; clear ta3 _t; go_at_call 16; refine (unhide hQ _ _ _ (unhide hy6)).mono ?_; rintro ez w9 ⟨A9, c9, rfl, o9, b9⟩; have hB9 := hide ((unhide hB6).trans (b9.mono (unhide hB6).size)); clear o9 b9)
                  | fail)
                have hE2 := unhide hE
                obtain ⟨er, her⟩ : ∃ er, er = fromE (x ++ more) := ⟨_, rfl⟩
                rw [← her] at hE2 ⊢
                obtain ⟨mn, hmn⟩ : ∃ mn, mn = more.length := ⟨_, rfl⟩
                rw [← hmn] at hE2 ⊢
                have hE3 : ((mn : Int) == 0) = decide (mn = 0) := by rw [Bool.eq_iff_iff]; simp
                by_cases h0 : mn = 0
                · have e1 : (er == 0) = true := by rw [hE2, decide_eq_true h0]
                  have e2 : ((mn : Int) == 0) = true := by rw [hE3, decide_eq_true h0]
                  replace her := hide her; replace hmn := hide hmn; replace h0 := hide h0
                  clear hE2 hE3 hE
                  go_wp2_with fail
                  all_goals go_ret
                  all_goals exact ⟨ret_b rfl rfl, unhide hB9⟩
                · have e1 : (er == 0) = false := by rw [hE2, decide_eq_false h0]
                  have e2 : ((mn : Int) == 0) = false := by rw [hE3, decide_eq_false h0]
                  replace her := hide her; replace hmn := hide hmn; replace h0 := hide h0
                  clear hE2 hE3 hE
                  go_wp2_with fail
                  all_goals go_ret
                  all_goals exact ⟨ret_b rfl rfl, unhide hB9⟩
end Go.Proofs.Ytnjepbehfioclaa
