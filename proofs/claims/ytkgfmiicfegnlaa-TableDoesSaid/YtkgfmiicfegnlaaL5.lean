import Derived.Test.YtkgfmiicfegnlaaL4
namespace Go.Proofs.Ytkgfmiicfegnlaa
open Go.RowKit
attribute [local go_sem] bz_size bz_toList run_store_float
set_option maxRecDepth 100000

theorem sm_putR {l : List Fl} {f : Fl} (h : SmL l) (hf : SmF f) : SmL (putR l f).1 := by
  unfold putR
  split
  · exact fun x hx => by cases hx
  · split
    · exact fun x hx => by cases hx
    · exact sm_put h hf
theorem sm_delR {l : List Fl} (h : SmL l) (p : List UInt8) : SmL (delR l p).1 := by
  unfold delR
  split
  · exact fun x hx => by cases hx
  · split
    · exact fun x hx => by cases hx
    · exact sm_del h p
theorem sm_movR {l : List Fl} (h : SmL l) {p q : List UInt8} (hq : q.length ≤ 300) : SmL (movR l p q).1 := by
  unfold movR
  split
  · exact fun x hx => by cases hx
  · split
    · exact fun x hx => by cases hx
    · rename_i h1 h2
      split
      · exact fun x hx => by cases hx
      · have h3 : thereB l p = true := by simpa using h2
        have h4 : tabB l = true := by
          cases h : tabB l with
          | true => rfl
          | false => exact absurd (.inl h) h1
        exact sm_put (sm_del h p) ⟨hq, (h _ (nth_mem (posn_get (tab_up h4) h3).1)).2⟩
theorem rk_getR {l : List Fl} (h : SmL l) (p : List UInt8) : (getR l p).1.rk < 18446744073709551616 := by
  unfold getR
  split
  · decide
  · rename_i h1
    split
    · decide
    · rename_i h2
      have h3 : thereB l p = true := by simpa using h2
      have h4 : tabB l = true := by
        cases h : tabB l with
        | true => rfl
        | false => exact absurd (.inl h) h1
      exact (h _ (nth_mem (posn_get (tab_up h4) h3).1)).2

set_option maxHeartbeats 16000000 in
theorem TableDoes_any (v v1 : Value) (l o : List Fl) (f : Fl) (p q : List UInt8) (w : World) (h : Fls 0 w.heap.size w v l) (h' : Fls 0 w.heap.size w v1 o) (hr : ∀ x ∈ l, x.rk < 18446744073709551616) (hr' : ∀ x ∈ o, x.rk < 18446744073709551616) (hrf : f.rk < 18446744073709551616) :
    Calls Try.prog 3 #[v, v1, (.agg #[.string (bz f.nm), .float .f64 f.rk, .int .u32 f.sm, .int .i64 f.bk, .int .i64 f.fr, .int .i64 f.ln]), .string (bz p), .string (bz q)] w fun e w' => e = .returned (.bool true) ∧ Below w.heap.size w w' := by
  have hL := fun W => live_any W
  have hF := fun W (h : Fls 0 W.heap.size W v l) => few_any 0 W.heap.size v l W h (Nat.le_refl _)
  have hG := fun W (h : Fls 0 W.heap.size W v1 o) => few_any 0 W.heap.size v1 o W h (Nat.le_refl _)
  obtain ⟨W2, hW2⟩ : ∃ W2, W2 = w.alloc (.cells #[.string (bz f.nm), .float .f64 f.rk, .int .u32 f.sm, .int .i64 f.bk, .int .i64 f.fr, .int .i64 f.ln] 26) := ⟨_, rfl⟩
  have hB : Below w.heap.size w W2 := by rw [hW2]; exact bl_alloc (Below.refl _ _) _
  have qf : Blk W2 w.heap.size 26 #[.string (bz f.nm), .float .f64 f.rk, .int .u32 f.sm, .int .i64 f.bk, .int .i64 f.fr, .int .i64 f.ln] := by rw [hW2]; exact Blk.new rfl
  have hl : Fls 0 W2.heap.size W2 v l := h.grow hB
  have ho : Fls 0 W2.heap.size W2 v1 o := h'.grow hB
  have h0 := h
  have szw : w.heap.size ≤ W2.heap.size := hB.size
  obtain ⟨f0, f1, f2, f3, f4, f5⟩ := bk6 qf
  obtain ⟨A, c, rfl, h1, h2, h3⟩ := h
  obtain ⟨Ao, co, rfl, h1', h2', h3'⟩ := h'
  clear h3 h3' h1' h2'
  replace hL := hide hL; replace hB := hide hB; replace qf := hide qf; replace hl := hide hl; replace ho := hide ho
  cases hfew : fewB l with
  | false =>
    rw [hfew] at hF
    replace hF := hide hF
    clear hfew hr hr' h1 h2
    generalize l.length = n at *
    generalize o.length = no at *
    have tk0 : True := trivial
    have tk1 : True := trivial
    go_enter Try.func3, Try.ntmps3
    go_upto_region 1 with (fail)
    rw [← hW2]
    clear hW2
    go_wp2_with (first
      | (have _t := tk0; clear tk0 _t; go_at_call 9; refine (unhide hL _).mono ?_; rintro ez wz0 ⟨rfl, bz0⟩; have szz0 := bz0.size; replace hB := hide ((unhide hB).trans (bz0.mono (unhide hB).size)); replace hl := hide ((unhide hl).grow bz0); replace ho := hide ((unhide ho).grow bz0); replace qf := hide ((unhide qf).below bz0 (unhide qf).lt); clear f0 f1 f2 f3 f4 f5; obtain ⟨f0, f1, f2, f3, f4, f5⟩ := bk6 (unhide qf); clear bz0)
      | (have _t := tk1; clear tk1 _t; go_at_call 10; refine (unhide hF _ (unhide hl)).mono ?_; rintro ez wz1 ⟨rfl, bz1⟩; have szz1 := bz1.size; replace hB := hide ((unhide hB).trans (bz1.mono (unhide hB).size)); replace hl := hide ((unhide hl).grow bz1); replace ho := hide ((unhide ho).grow bz1); replace qf := hide ((unhide qf).below bz1 (unhide qf).lt); clear f0 f1 f2 f3 f4 f5; obtain ⟨f0, f1, f2, f3, f4, f5⟩ := bk6 (unhide qf); clear bz1)
      | fail)
    go_ret
    exact ⟨rfl, unhide hB⟩
  | true =>
    have hs := sm_few hr hfew
    have hl8 := (few_iff hfew).2
    rw [hfew] at hF
    replace hF := hide hF
    clear hfew hr
    cases hfew : fewB o with
    | false =>
      rw [hfew] at hG
      replace hG := hide hG
      clear hfew hr' h1 h2 hs hl8
      generalize l.length = n at *
      generalize o.length = no at *
      have tk0 : True := trivial
      have tk1 : True := trivial
      have tk2 : True := trivial
      go_enter Try.func3, Try.ntmps3
      go_upto_region 1 with (fail)
      rw [← hW2]
      clear hW2
      go_wp2_with (first
        | (have _t := tk0; clear tk0 _t; go_at_call 9; refine (unhide hL _).mono ?_; rintro ez wz0 ⟨rfl, bz0⟩; have szz0 := bz0.size; replace hB := hide ((unhide hB).trans (bz0.mono (unhide hB).size)); replace hl := hide ((unhide hl).grow bz0); replace ho := hide ((unhide ho).grow bz0); replace qf := hide ((unhide qf).below bz0 (unhide qf).lt); clear f0 f1 f2 f3 f4 f5; obtain ⟨f0, f1, f2, f3, f4, f5⟩ := bk6 (unhide qf); clear bz0)
        | (have _t := tk1; clear tk1 _t; go_at_call 10; refine (unhide hF _ (unhide hl)).mono ?_; rintro ez wz1 ⟨rfl, bz1⟩; have szz1 := bz1.size; replace hB := hide ((unhide hB).trans (bz1.mono (unhide hB).size)); replace hl := hide ((unhide hl).grow bz1); replace ho := hide ((unhide ho).grow bz1); replace qf := hide ((unhide qf).below bz1 (unhide qf).lt); clear f0 f1 f2 f3 f4 f5; obtain ⟨f0, f1, f2, f3, f4, f5⟩ := bk6 (unhide qf); clear bz1)
        | (have _t := tk2; clear tk2 _t; go_at_call 10; refine (unhide hG _ (unhide ho)).mono ?_; rintro ez wz2 ⟨rfl, bz2⟩; have szz2 := bz2.size; replace hB := hide ((unhide hB).trans (bz2.mono (unhide hB).size)); replace hl := hide ((unhide hl).grow bz2); replace ho := hide ((unhide ho).grow bz2); replace qf := hide ((unhide qf).below bz2 (unhide qf).lt); clear f0 f1 f2 f3 f4 f5; obtain ⟨f0, f1, f2, f3, f4, f5⟩ := bk6 (unhide qf); clear bz2)
        | fail)
      go_ret
      exact ⟨rfl, unhide hB⟩
    | true =>
      have hso := sm_few hr' hfew
      rw [hfew] at hG
      replace hG := hide hG
      clear hfew hr'
      by_cases hpl : 200 < p.length
      · have dp : decide ((p.length : Int) > 200) = true := decide_eq_true (by omega)
        clear h1 h2 hl8 hs hso
        generalize l.length = n at *
        generalize o.length = no at *
        have tk0 : True := trivial
        have tk1 : True := trivial
        have tk2 : True := trivial
        go_enter Try.func3, Try.ntmps3
        go_upto_region 1 with (fail)
        rw [← hW2]
        clear hW2
        go_wp2_with (first
          | (have _t := tk0; clear tk0 _t; go_at_call 9; refine (unhide hL _).mono ?_; rintro ez wz0 ⟨rfl, bz0⟩; have szz0 := bz0.size; replace hB := hide ((unhide hB).trans (bz0.mono (unhide hB).size)); replace hl := hide ((unhide hl).grow bz0); replace ho := hide ((unhide ho).grow bz0); replace qf := hide ((unhide qf).below bz0 (unhide qf).lt); clear f0 f1 f2 f3 f4 f5; obtain ⟨f0, f1, f2, f3, f4, f5⟩ := bk6 (unhide qf); clear bz0)
          | (have _t := tk1; clear tk1 _t; go_at_call 10; refine (unhide hF _ (unhide hl)).mono ?_; rintro ez wz1 ⟨rfl, bz1⟩; have szz1 := bz1.size; replace hB := hide ((unhide hB).trans (bz1.mono (unhide hB).size)); replace hl := hide ((unhide hl).grow bz1); replace ho := hide ((unhide ho).grow bz1); replace qf := hide ((unhide qf).below bz1 (unhide qf).lt); clear f0 f1 f2 f3 f4 f5; obtain ⟨f0, f1, f2, f3, f4, f5⟩ := bk6 (unhide qf); clear bz1)
          | (have _t := tk2; clear tk2 _t; go_at_call 10; refine (unhide hG _ (unhide ho)).mono ?_; rintro ez wz2 ⟨rfl, bz2⟩; have szz2 := bz2.size; replace hB := hide ((unhide hB).trans (bz2.mono (unhide hB).size)); replace hl := hide ((unhide hl).grow bz2); replace ho := hide ((unhide ho).grow bz2); replace qf := hide ((unhide qf).below bz2 (unhide qf).lt); clear f0 f1 f2 f3 f4 f5; obtain ⟨f0, f1, f2, f3, f4, f5⟩ := bk6 (unhide qf); clear bz2)
          | fail)
        go_ret
        exact ⟨rfl, unhide hB⟩
      · have dp : decide ((p.length : Int) > 200) = false := decide_eq_false (by omega)
        by_cases hql : 200 < q.length
        · have dq : decide ((q.length : Int) > 200) = true := decide_eq_true (by omega)
          clear h1 h2 hl8 hs hso
          generalize l.length = n at *
          generalize o.length = no at *
          have tk0 : True := trivial
          have tk1 : True := trivial
          have tk2 : True := trivial
          go_enter Try.func3, Try.ntmps3
          go_upto_region 1 with (fail)
          rw [← hW2]
          clear hW2
          go_wp2_with (first
            | (have _t := tk0; clear tk0 _t; go_at_call 9; refine (unhide hL _).mono ?_; rintro ez wz0 ⟨rfl, bz0⟩; have szz0 := bz0.size; replace hB := hide ((unhide hB).trans (bz0.mono (unhide hB).size)); replace hl := hide ((unhide hl).grow bz0); replace ho := hide ((unhide ho).grow bz0); replace qf := hide ((unhide qf).below bz0 (unhide qf).lt); clear f0 f1 f2 f3 f4 f5; obtain ⟨f0, f1, f2, f3, f4, f5⟩ := bk6 (unhide qf); clear bz0)
            | (have _t := tk1; clear tk1 _t; go_at_call 10; refine (unhide hF _ (unhide hl)).mono ?_; rintro ez wz1 ⟨rfl, bz1⟩; have szz1 := bz1.size; replace hB := hide ((unhide hB).trans (bz1.mono (unhide hB).size)); replace hl := hide ((unhide hl).grow bz1); replace ho := hide ((unhide ho).grow bz1); replace qf := hide ((unhide qf).below bz1 (unhide qf).lt); clear f0 f1 f2 f3 f4 f5; obtain ⟨f0, f1, f2, f3, f4, f5⟩ := bk6 (unhide qf); clear bz1)
            | (have _t := tk2; clear tk2 _t; go_at_call 10; refine (unhide hG _ (unhide ho)).mono ?_; rintro ez wz2 ⟨rfl, bz2⟩; have szz2 := bz2.size; replace hB := hide ((unhide hB).trans (bz2.mono (unhide hB).size)); replace hl := hide ((unhide hl).grow bz2); replace ho := hide ((unhide ho).grow bz2); replace qf := hide ((unhide qf).below bz2 (unhide qf).lt); clear f0 f1 f2 f3 f4 f5; obtain ⟨f0, f1, f2, f3, f4, f5⟩ := bk6 (unhide qf); clear bz2)
            | fail)
          go_ret
          exact ⟨rfl, unhide hB⟩
        · have dq : decide ((q.length : Int) > 200) = false := decide_eq_false (by omega)
          by_cases hfl : 200 < f.nm.length
          · have df : decide ((f.nm.length : Int) > 200) = true := decide_eq_true (by omega)
            clear h1 h2 hl8 hs hso
            generalize l.length = n at *
            generalize o.length = no at *
            have tk0 : True := trivial
            have tk1 : True := trivial
            have tk2 : True := trivial
            go_enter Try.func3, Try.ntmps3
            go_upto_region 1 with (fail)
            rw [← hW2]
            clear hW2
            go_wp2_with (first
              | (have _t := tk0; clear tk0 _t; go_at_call 9; refine (unhide hL _).mono ?_; rintro ez wz0 ⟨rfl, bz0⟩; have szz0 := bz0.size; replace hB := hide ((unhide hB).trans (bz0.mono (unhide hB).size)); replace hl := hide ((unhide hl).grow bz0); replace ho := hide ((unhide ho).grow bz0); replace qf := hide ((unhide qf).below bz0 (unhide qf).lt); clear f0 f1 f2 f3 f4 f5; obtain ⟨f0, f1, f2, f3, f4, f5⟩ := bk6 (unhide qf); clear bz0)
              | (have _t := tk1; clear tk1 _t; go_at_call 10; refine (unhide hF _ (unhide hl)).mono ?_; rintro ez wz1 ⟨rfl, bz1⟩; have szz1 := bz1.size; replace hB := hide ((unhide hB).trans (bz1.mono (unhide hB).size)); replace hl := hide ((unhide hl).grow bz1); replace ho := hide ((unhide ho).grow bz1); replace qf := hide ((unhide qf).below bz1 (unhide qf).lt); clear f0 f1 f2 f3 f4 f5; obtain ⟨f0, f1, f2, f3, f4, f5⟩ := bk6 (unhide qf); clear bz1)
              | (have _t := tk2; clear tk2 _t; go_at_call 10; refine (unhide hG _ (unhide ho)).mono ?_; rintro ez wz2 ⟨rfl, bz2⟩; have szz2 := bz2.size; replace hB := hide ((unhide hB).trans (bz2.mono (unhide hB).size)); replace hl := hide ((unhide hl).grow bz2); replace ho := hide ((unhide ho).grow bz2); replace qf := hide ((unhide qf).below bz2 (unhide qf).lt); clear f0 f1 f2 f3 f4 f5; obtain ⟨f0, f1, f2, f3, f4, f5⟩ := bk6 (unhide qf); clear bz2)
              | fail)
            go_ret
            exact ⟨rfl, unhide hB⟩
          · have df : decide ((f.nm.length : Int) > 200) = false := decide_eq_false (by omega)
            have sf : SmF f := ⟨by omega, hrf⟩
            obtain ⟨i0, hi0, hz0, hz1, hz2⟩ := info_parts info26
            have p1 := fun W (h : Fls 0 W.heap.size W (.slice A l.length c) l) => put_any 0 W.heap.size _ l f W h (Nat.le_refl _) hs sf
            have p2 := fun W (h : Fls 0 W.heap.size W (.slice A l.length c) l) => refPut_any 0 W.heap.size _ l f W h (Nat.le_refl _) hs sf
            have d1 := fun W (h : Fls 0 W.heap.size W (.slice A l.length c) l) => del_any 0 W.heap.size _ l p W h (Nat.le_refl _) hs (by omega)
            have d2 := fun W (h : Fls 0 W.heap.size W (.slice A l.length c) l) => refDel_any 0 W.heap.size _ l p W h (Nat.le_refl _) hs (by omega)
            have m1 := fun W (h : Fls 0 W.heap.size W (.slice A l.length c) l) => move_any 0 W.heap.size _ l p q W h (Nat.le_refl _) hs (by omega) (by omega)
            have m2 := fun W (h : Fls 0 W.heap.size W (.slice A l.length c) l) => refMove_any 0 W.heap.size _ l p q W h (Nat.le_refl _) hs (by omega) (by omega)
            have g1 := fun W (h : Fls 0 W.heap.size W (.slice A l.length c) l) => get_any 0 W.heap.size _ l p W h (Nat.le_refl _) hs (by omega)
            have g2 := fun W (h : Fls 0 W.heap.size W (.slice A l.length c) l) => refGet_any 0 W.heap.size _ l p W h (Nat.le_refl _) hs (by omega)
            have c1 := fun W (h : Fls 0 W.heap.size W (.slice A l.length c) l) => tcheck_any 0 W.heap.size _ l W h (Nat.le_refl _) hs
            have c2 := fun W (h : Fls 0 W.heap.size W (.slice A l.length c) l) => refCheckL_any 0 W.heap.size _ l W h (Nat.le_refl _) hs
            have t1 := fun W (h : Fls 0 W.heap.size W (.slice A l.length c) l) (h' : Fls 0 W.heap.size W (.slice Ao o.length co) o) => tsame_any 0 W.heap.size 0 W.heap.size _ _ l o W h h' (Nat.le_refl _) (Nat.le_refl _) hs hso
            have t2 := fun W (h : Fls 0 W.heap.size W (.slice A l.length c) l) (h' : Fls 0 W.heap.size W (.slice Ao o.length co) o) => refSameL_any 0 W.heap.size 0 W.heap.size _ _ l o W h h' (Nat.le_refl _) (Nat.le_refl _) hs hso
            have hrk := rk_getR hs p
            have o1 := fun W => refOne_any (getR l p).1 (getR l p).1 hrk hrk W
            rw [one_self] at o1
            have hsm := fun (x : List Fl) (hx : SmL x) W vx vy (h : Fls 0 W.heap.size W vx x) (h' : Fls 0 W.heap.size W vy x) => refSameL_any 0 W.heap.size 0 W.heap.size vx vy x x W h h' (Nat.le_refl _) (Nat.le_refl _) hx hx
            replace hsm := fun x hx W vx vy h h' => by
              have := hsm x hx W vx vy h h'
              rw [same_self] at this
              exact this
            have hs1 := fun W => hsm _ (sm_putR hs sf) W
            have hs2 := fun W => hsm _ (sm_delR hs p) W
            have hs3 := fun W => hsm _ (sm_movR (p := p) hs (show q.length ≤ 300 by omega)) W
            have hs4 := fun W => hsm _ hs W
            have n0 : (l.flatMap fc).length = l.length * 6 := flat_len fc_len l
            clear hsm hs hso h2 hrk sf
            obtain ⟨a, ha⟩ : ∃ a, a = (putR l f).1 := ⟨_, rfl⟩
            obtain ⟨ea, hea⟩ : ∃ a, a = (putR l f).2 := ⟨_, rfl⟩
            obtain ⟨b, hb⟩ : ∃ a, a = (delR l p).1 := ⟨_, rfl⟩
            obtain ⟨eb, heb⟩ : ∃ a, a = (delR l p).2 := ⟨_, rfl⟩
            obtain ⟨s, hs⟩ : ∃ a, a = (movR l p q).1 := ⟨_, rfl⟩
            obtain ⟨es, hes⟩ : ∃ a, a = (movR l p q).2 := ⟨_, rfl⟩
            obtain ⟨x, hx⟩ : ∃ a, a = (getR l p).1 := ⟨_, rfl⟩
            obtain ⟨ex, hex⟩ : ∃ a, a = (getR l p).2 := ⟨_, rfl⟩
            rw [← ha] at p1 p2 hs1
            rw [← hea] at p1 p2
            rw [← hb] at d1 d2 hs2
            rw [← heb] at d1 d2
            rw [← hs] at m1 m2 hs3
            rw [← hes] at m1 m2
            rw [← hx] at g1 g2 o1
            rw [← hex] at g1 g2
            clear ha hea hb heb hs hes hx hex
            generalize errB (tabB l) = ec at *
            generalize sameB l o = bs at *
            obtain ⟨n, hn⟩ : ∃ n, n = l.length := ⟨_, rfl⟩
            rw [← hn] at hF hl h0 hl8 p1 p2 d1 d2 m1 m2 g1 g2 c1 c2 t1 t2 n0 h1
            rw [← hn]
            generalize o.length = no at *
            have u1 : 0 + n ≤ maxLen := by simp only [maxLen]; omega
            have u2 : (0 + n) * 56 ≤ 140737488355328 := by omega
            have de1 : (ea == ea) = true := beq_self_eq_true _
            have de2 : (eb == eb) = true := beq_self_eq_true _
            have de3 : (es == es) = true := beq_self_eq_true _
            have de4 : (ex == ex) = true := beq_self_eq_true _
            have de5 : (ec == ec) = true := beq_self_eq_true _
            have de6 : (bs == bs) = true := beq_self_eq_true _
            replace p1 := hide p1; replace p2 := hide p2; replace d1 := hide d1; replace d2 := hide d2; replace m1 := hide m1; replace m2 := hide m2; replace g1 := hide g1; replace g2 := hide g2; replace c1 := hide c1; replace c2 := hide c2; replace t1 := hide t1; replace t2 := hide t2; replace o1 := hide o1
            replace hs1 := hide hs1; replace hs2 := hide hs2; replace hs3 := hide hs3; replace hs4 := hide hs4; replace hn := hide hn; replace n0 := hide n0; replace u1 := hide u1; replace u2 := hide u2; replace h1 := hide h1
            have tk0 : True := trivial
            have tk1 : True := trivial
            have tk2 : True := trivial
            have tk3 : True := trivial
            have tk4 : True := trivial
            have tk5 : True := trivial
            have tk6 : True := trivial
            have tk7 : True := trivial
            have tk8 : True := trivial
            have tk9 : True := trivial
            have tk10 : True := trivial
            have tk11 : True := trivial
            have tk12 : True := trivial
            have tk13 : True := trivial
            have tk14 : True := trivial
            have tk15 : True := trivial
            have tk16 : True := trivial
            have tk17 : True := trivial
            have tk18 : True := trivial
            have tk19 : True := trivial
            go_enter Try.func3, Try.ntmps3
            go_upto_region 1 with (fail)
            rw [← hW2]
            clear hW2
            go_wp2_with (first
              | (have _t := tk0; clear tk0 _t; go_at_call 9; refine (unhide hL _).mono ?_; rintro ez wz0 ⟨rfl, bz0⟩; have szz0 := bz0.size; replace hB := hide ((unhide hB).trans (bz0.mono (unhide hB).size)); replace hl := hide ((unhide hl).grow bz0); replace ho := hide ((unhide ho).grow bz0); replace qf := hide ((unhide qf).below bz0 (unhide qf).lt); clear f0 f1 f2 f3 f4 f5; obtain ⟨f0, f1, f2, f3, f4, f5⟩ := bk6 (unhide qf); clear bz0)
              | (have _t := tk1; clear tk1 _t; go_at_call 10; refine (unhide hF _ (unhide hl)).mono ?_; rintro ez wz1 ⟨rfl, bz1⟩; have szz1 := bz1.size; replace hB := hide ((unhide hB).trans (bz1.mono (unhide hB).size)); replace hl := hide ((unhide hl).grow bz1); replace ho := hide ((unhide ho).grow bz1); replace qf := hide ((unhide qf).below bz1 (unhide qf).lt); clear f0 f1 f2 f3 f4 f5; obtain ⟨f0, f1, f2, f3, f4, f5⟩ := bk6 (unhide qf); clear bz1)
              | (have _t := tk2; clear tk2 _t; go_at_call 10; refine (unhide hG _ (unhide ho)).mono ?_; rintro ez wz2 ⟨rfl, bz2⟩; have szz2 := bz2.size; replace hB := hide ((unhide hB).trans (bz2.mono (unhide hB).size)); replace hl := hide ((unhide hl).grow bz2); replace ho := hide ((unhide ho).grow bz2); replace qf := hide ((unhide qf).below bz2 (unhide qf).lt); clear f0 f1 f2 f3 f4 f5; obtain ⟨f0, f1, f2, f3, f4, f5⟩ := bk6 (unhide qf); clear bz2)
              | (at_builtin
                 refine wpList_app _ rfl (.const (.slice none 0 0)) (.tmp 59) 22 rfl wz2.heap.size 26 i0 _ 6 56 Try.underlying22 hi0 hz0 hz1 hz2 rfl (Nat.succ_pos _) _ 0 [] rfl (World.ownsRow_nil _ _ _ _) A n c (l.flatMap fc) rfl (unhide n0) (Rd.src fc_len (unhide hl)).2 (flat_one fc_one l) (unhide u1) (unhide u2) (Nat.le_refl _) ?_
                 intro v5 ww ow hg5
                 rw [Nat.zero_add, List.nil_append] at ow
                 obtain ⟨Aw, cw, rfl⟩ := ownsRow_form ow
                 have bz3 : Below wz2.heap.size wz2 ww := (Below.refl _ _).grown hg5 (Nat.le_refl _) (by intro k hk; cases hk)
                 have hw0 := hide (show Fls 0 ww.heap.size ww (.slice Aw n cw) l from by
                   have q : OwnF ww wz2.heap.size (.slice Aw l.length cw) l := by rw [← unhide hn]; unfold OwnF; rw [← unhide hn]; exact ow
                   have := q.fls.mono (Nat.zero_le _) (Nat.le_refl _)
                   rwa [← unhide hn] at this)
                 have hw := hw0
                 have szz3 := bz3.size
                 have hC := hide (Below.refl ww.heap.size ww)
                 clear hg5 ow
                 replace hB := hide ((unhide hB).trans (bz3.mono (unhide hB).size))
                 replace hl := hide ((unhide hl).grow bz3)
                 replace ho := hide ((unhide ho).grow bz3)
                 replace qf := hide ((unhide qf).below bz3 (unhide qf).lt)
                 clear f0 f1 f2 f3 f4 f5
                 obtain ⟨f0, f1, f2, f3, f4, f5⟩ := bk6 (unhide qf)
                 clear bz3)
              | (have _t := tk4; clear tk4 _t; go_at_call 11; refine (unhide p1 _ (unhide hl)).mono ?_; rintro ez wz4 ⟨va, rfl, oa, bz4⟩; have szz4 := bz4.size; replace hB := hide ((unhide hB).trans (bz4.mono (unhide hB).size)); replace hl := hide ((unhide hl).grow bz4); replace ho := hide ((unhide ho).grow bz4); replace qf := hide ((unhide qf).below bz4 (unhide qf).lt); replace hC := hide ((unhide hC).trans (bz4.mono (unhide hC).size)); replace hw := hide ((unhide hw).grow bz4); clear f0 f1 f2 f3 f4 f5; obtain ⟨f0, f1, f2, f3, f4, f5⟩ := bk6 (unhide qf); obtain ⟨Aa, ca, rfl⟩ := ownsRow_form oa; have bda := hide (own_lt oa); replace oa := hide oa; clear bz4)
              | (have _t := tk5; clear tk5 _t; go_at_call 12; refine (unhide p2 _ (unhide hl)).mono ?_; rintro ez wz5 ⟨vb, rfl, ohb, bz5⟩; have szz5 := bz5.size; replace hB := hide ((unhide hB).trans (bz5.mono (unhide hB).size)); replace hl := hide ((unhide hl).grow bz5); replace ho := hide ((unhide ho).grow bz5); replace qf := hide ((unhide qf).below bz5 (unhide qf).lt); replace hC := hide ((unhide hC).trans (bz5.mono (unhide hC).size)); replace hw := hide ((unhide hw).grow bz5); replace oa := hide (own_keep (unhide oa) bz5); clear f0 f1 f2 f3 f4 f5; obtain ⟨f0, f1, f2, f3, f4, f5⟩ := bk6 (unhide qf); (have hb := hide (ohb.fls.mono (Nat.zero_le _) (Nat.le_refl _))); clear ohb; clear bz5)
              | (have _t := tk6; clear tk6 _t; go_at_call 13; refine (unhide d1 _ (unhide hl)).mono ?_; rintro ez wz6 ⟨vc, rfl, oc, bz6⟩; have szz6 := bz6.size; replace hB := hide ((unhide hB).trans (bz6.mono (unhide hB).size)); replace hl := hide ((unhide hl).grow bz6); replace ho := hide ((unhide ho).grow bz6); replace qf := hide ((unhide qf).below bz6 (unhide qf).lt); replace hC := hide ((unhide hC).trans (bz6.mono (unhide hC).size)); replace hw := hide ((unhide hw).grow bz6); replace oa := hide (own_keep (unhide oa) bz6); replace hb := hide ((unhide hb).grow bz6); clear f0 f1 f2 f3 f4 f5; obtain ⟨f0, f1, f2, f3, f4, f5⟩ := bk6 (unhide qf); obtain ⟨Ac, cc, rfl⟩ := ownsRow_form oc; have bdc := hide (own_lt oc); replace oc := hide oc; clear bz6)
              | (have _t := tk7; clear tk7 _t; go_at_call 14; refine (unhide d2 _ (unhide hl)).mono ?_; rintro ez wz7 ⟨vd, rfl, ohd, bz7⟩; have szz7 := bz7.size; replace hB := hide ((unhide hB).trans (bz7.mono (unhide hB).size)); replace hl := hide ((unhide hl).grow bz7); replace ho := hide ((unhide ho).grow bz7); replace qf := hide ((unhide qf).below bz7 (unhide qf).lt); replace hC := hide ((unhide hC).trans (bz7.mono (unhide hC).size)); replace hw := hide ((unhide hw).grow bz7); replace oa := hide (own_keep (unhide oa) bz7); replace hb := hide ((unhide hb).grow bz7); replace oc := hide (own_keep (unhide oc) bz7); clear f0 f1 f2 f3 f4 f5; obtain ⟨f0, f1, f2, f3, f4, f5⟩ := bk6 (unhide qf); (have hd := hide (ohd.fls.mono (Nat.zero_le _) (Nat.le_refl _))); clear ohd; clear bz7)
              | (have _t := tk8; clear tk8 _t; go_at_call 15; refine (unhide m1 _ (unhide hl)).mono ?_; rintro ez wz8 ⟨vs, rfl, os, bz8⟩; have szz8 := bz8.size; replace hB := hide ((unhide hB).trans (bz8.mono (unhide hB).size)); replace hl := hide ((unhide hl).grow bz8); replace ho := hide ((unhide ho).grow bz8); replace qf := hide ((unhide qf).below bz8 (unhide qf).lt); replace hC := hide ((unhide hC).trans (bz8.mono (unhide hC).size)); replace hw := hide ((unhide hw).grow bz8); replace oa := hide (own_keep (unhide oa) bz8); replace hb := hide ((unhide hb).grow bz8); replace oc := hide (own_keep (unhide oc) bz8); replace hd := hide ((unhide hd).grow bz8); clear f0 f1 f2 f3 f4 f5; obtain ⟨f0, f1, f2, f3, f4, f5⟩ := bk6 (unhide qf); obtain ⟨As, cs, rfl⟩ := ownsRow_form os; have bds := hide (own_lt os); replace os := hide os; clear bz8)
              | (have _t := tk9; clear tk9 _t; go_at_call 16; refine (unhide m2 _ (unhide hl)).mono ?_; rintro ez wz9 ⟨vt, rfl, oht, bz9⟩; have szz9 := bz9.size; replace hB := hide ((unhide hB).trans (bz9.mono (unhide hB).size)); replace hl := hide ((unhide hl).grow bz9); replace ho := hide ((unhide ho).grow bz9); replace qf := hide ((unhide qf).below bz9 (unhide qf).lt); replace hC := hide ((unhide hC).trans (bz9.mono (unhide hC).size)); replace hw := hide ((unhide hw).grow bz9); replace oa := hide (own_keep (unhide oa) bz9); replace hb := hide ((unhide hb).grow bz9); replace oc := hide (own_keep (unhide oc) bz9); replace hd := hide ((unhide hd).grow bz9); replace os := hide (own_keep (unhide os) bz9); clear f0 f1 f2 f3 f4 f5; obtain ⟨f0, f1, f2, f3, f4, f5⟩ := bk6 (unhide qf); (have ht := hide (oht.fls.mono (Nat.zero_le _) (Nat.le_refl _))); clear oht; clear bz9)
              | (have _t := tk10; clear tk10 _t; go_at_call 17; refine (unhide g1 _ (unhide hl)).mono ?_; rintro ez wz10 ⟨rfl, bz10⟩; have szz10 := bz10.size; replace hB := hide ((unhide hB).trans (bz10.mono (unhide hB).size)); replace hl := hide ((unhide hl).grow bz10); replace ho := hide ((unhide ho).grow bz10); replace qf := hide ((unhide qf).below bz10 (unhide qf).lt); replace hC := hide ((unhide hC).trans (bz10.mono (unhide hC).size)); replace hw := hide ((unhide hw).grow bz10); replace oa := hide (own_keep (unhide oa) bz10); replace hb := hide ((unhide hb).grow bz10); replace oc := hide (own_keep (unhide oc) bz10); replace hd := hide ((unhide hd).grow bz10); replace os := hide (own_keep (unhide os) bz10); replace ht := hide ((unhide ht).grow bz10); clear f0 f1 f2 f3 f4 f5; obtain ⟨f0, f1, f2, f3, f4, f5⟩ := bk6 (unhide qf); clear bz10; have szy10 : wz10.heap.size ≤ (wz10.alloc (.cells #[.string (bz x.nm), .float .f64 x.rk, .int .u32 x.sm, .int .i64 x.bk, .int .i64 x.fr, .int .i64 x.ln] 26)).heap.size := (bl_alloc (Below.refl _ _) _).size; replace hB := hide ((unhide hB).alloc (unhide hB).size (.cells #[.string (bz x.nm), .float .f64 x.rk, .int .u32 x.sm, .int .i64 x.bk, .int .i64 x.fr, .int .i64 x.ln] 26)); replace hl := hide ((unhide hl).grow ((Below.refl _ _).alloc (Nat.le_refl _) (.cells #[.string (bz x.nm), .float .f64 x.rk, .int .u32 x.sm, .int .i64 x.bk, .int .i64 x.fr, .int .i64 x.ln] 26))); replace ho := hide ((unhide ho).grow ((Below.refl _ _).alloc (Nat.le_refl _) (.cells #[.string (bz x.nm), .float .f64 x.rk, .int .u32 x.sm, .int .i64 x.bk, .int .i64 x.fr, .int .i64 x.ln] 26))); replace qf := hide ((unhide qf).alloc (.cells #[.string (bz x.nm), .float .f64 x.rk, .int .u32 x.sm, .int .i64 x.bk, .int .i64 x.fr, .int .i64 x.ln] 26)); replace hC := hide ((unhide hC).alloc (unhide hC).size (.cells #[.string (bz x.nm), .float .f64 x.rk, .int .u32 x.sm, .int .i64 x.bk, .int .i64 x.fr, .int .i64 x.ln] 26)); replace hw := hide ((unhide hw).grow ((Below.refl _ _).alloc (Nat.le_refl _) (.cells #[.string (bz x.nm), .float .f64 x.rk, .int .u32 x.sm, .int .i64 x.bk, .int .i64 x.fr, .int .i64 x.ln] 26))); replace oa := hide (own_alloc (unhide oa) (.cells #[.string (bz x.nm), .float .f64 x.rk, .int .u32 x.sm, .int .i64 x.bk, .int .i64 x.fr, .int .i64 x.ln] 26)); replace hb := hide ((unhide hb).grow ((Below.refl _ _).alloc (Nat.le_refl _) (.cells #[.string (bz x.nm), .float .f64 x.rk, .int .u32 x.sm, .int .i64 x.bk, .int .i64 x.fr, .int .i64 x.ln] 26))); replace oc := hide (own_alloc (unhide oc) (.cells #[.string (bz x.nm), .float .f64 x.rk, .int .u32 x.sm, .int .i64 x.bk, .int .i64 x.fr, .int .i64 x.ln] 26)); replace hd := hide ((unhide hd).grow ((Below.refl _ _).alloc (Nat.le_refl _) (.cells #[.string (bz x.nm), .float .f64 x.rk, .int .u32 x.sm, .int .i64 x.bk, .int .i64 x.fr, .int .i64 x.ln] 26))); replace os := hide (own_alloc (unhide os) (.cells #[.string (bz x.nm), .float .f64 x.rk, .int .u32 x.sm, .int .i64 x.bk, .int .i64 x.fr, .int .i64 x.ln] 26)); replace ht := hide ((unhide ht).grow ((Below.refl _ _).alloc (Nat.le_refl _) (.cells #[.string (bz x.nm), .float .f64 x.rk, .int .u32 x.sm, .int .i64 x.bk, .int .i64 x.fr, .int .i64 x.ln] 26))); clear f0 f1 f2 f3 f4 f5; obtain ⟨f0, f1, f2, f3, f4, f5⟩ := bk6 (unhide qf); (have qx := hide (Blk.new (w := wz10) (cs := #[.string (bz x.nm), .float .f64 x.rk, .int .u32 x.sm, .int .i64 x.bk, .int .i64 x.fr, .int .i64 x.ln]) (t := 26) rfl)); obtain ⟨x0, x1, x2, x3, x4, x5⟩ := bk6 (unhide qx))
              | (have _t := tk11; clear tk11 _t; go_at_call 18; refine (unhide g2 _ (unhide hl)).mono ?_; rintro ez wz11 ⟨rfl, bz11⟩; have szz11 := bz11.size; replace hB := hide ((unhide hB).trans (bz11.mono (unhide hB).size)); replace hl := hide ((unhide hl).grow bz11); replace ho := hide ((unhide ho).grow bz11); replace qf := hide ((unhide qf).below bz11 (unhide qf).lt); replace hC := hide ((unhide hC).trans (bz11.mono (unhide hC).size)); replace hw := hide ((unhide hw).grow bz11); replace oa := hide (own_keep (unhide oa) bz11); replace hb := hide ((unhide hb).grow bz11); replace oc := hide (own_keep (unhide oc) bz11); replace hd := hide ((unhide hd).grow bz11); replace os := hide (own_keep (unhide os) bz11); replace ht := hide ((unhide ht).grow bz11); replace qx := hide ((unhide qx).below bz11 (unhide qx).lt); clear f0 f1 f2 f3 f4 f5; obtain ⟨f0, f1, f2, f3, f4, f5⟩ := bk6 (unhide qf); clear x0 x1 x2 x3 x4 x5; obtain ⟨x0, x1, x2, x3, x4, x5⟩ := bk6 (unhide qx); clear bz11; have szy11 : wz11.heap.size ≤ (wz11.alloc (.cells #[.string (bz x.nm), .float .f64 x.rk, .int .u32 x.sm, .int .i64 x.bk, .int .i64 x.fr, .int .i64 x.ln] 26)).heap.size := (bl_alloc (Below.refl _ _) _).size; replace hB := hide ((unhide hB).alloc (unhide hB).size (.cells #[.string (bz x.nm), .float .f64 x.rk, .int .u32 x.sm, .int .i64 x.bk, .int .i64 x.fr, .int .i64 x.ln] 26)); replace hl := hide ((unhide hl).grow ((Below.refl _ _).alloc (Nat.le_refl _) (.cells #[.string (bz x.nm), .float .f64 x.rk, .int .u32 x.sm, .int .i64 x.bk, .int .i64 x.fr, .int .i64 x.ln] 26))); replace ho := hide ((unhide ho).grow ((Below.refl _ _).alloc (Nat.le_refl _) (.cells #[.string (bz x.nm), .float .f64 x.rk, .int .u32 x.sm, .int .i64 x.bk, .int .i64 x.fr, .int .i64 x.ln] 26))); replace qf := hide ((unhide qf).alloc (.cells #[.string (bz x.nm), .float .f64 x.rk, .int .u32 x.sm, .int .i64 x.bk, .int .i64 x.fr, .int .i64 x.ln] 26)); replace hC := hide ((unhide hC).alloc (unhide hC).size (.cells #[.string (bz x.nm), .float .f64 x.rk, .int .u32 x.sm, .int .i64 x.bk, .int .i64 x.fr, .int .i64 x.ln] 26)); replace hw := hide ((unhide hw).grow ((Below.refl _ _).alloc (Nat.le_refl _) (.cells #[.string (bz x.nm), .float .f64 x.rk, .int .u32 x.sm, .int .i64 x.bk, .int .i64 x.fr, .int .i64 x.ln] 26))); replace oa := hide (own_alloc (unhide oa) (.cells #[.string (bz x.nm), .float .f64 x.rk, .int .u32 x.sm, .int .i64 x.bk, .int .i64 x.fr, .int .i64 x.ln] 26)); replace hb := hide ((unhide hb).grow ((Below.refl _ _).alloc (Nat.le_refl _) (.cells #[.string (bz x.nm), .float .f64 x.rk, .int .u32 x.sm, .int .i64 x.bk, .int .i64 x.fr, .int .i64 x.ln] 26))); replace oc := hide (own_alloc (unhide oc) (.cells #[.string (bz x.nm), .float .f64 x.rk, .int .u32 x.sm, .int .i64 x.bk, .int .i64 x.fr, .int .i64 x.ln] 26)); replace hd := hide ((unhide hd).grow ((Below.refl _ _).alloc (Nat.le_refl _) (.cells #[.string (bz x.nm), .float .f64 x.rk, .int .u32 x.sm, .int .i64 x.bk, .int .i64 x.fr, .int .i64 x.ln] 26))); replace os := hide (own_alloc (unhide os) (.cells #[.string (bz x.nm), .float .f64 x.rk, .int .u32 x.sm, .int .i64 x.bk, .int .i64 x.fr, .int .i64 x.ln] 26)); replace ht := hide ((unhide ht).grow ((Below.refl _ _).alloc (Nat.le_refl _) (.cells #[.string (bz x.nm), .float .f64 x.rk, .int .u32 x.sm, .int .i64 x.bk, .int .i64 x.fr, .int .i64 x.ln] 26))); replace qx := hide ((unhide qx).alloc (.cells #[.string (bz x.nm), .float .f64 x.rk, .int .u32 x.sm, .int .i64 x.bk, .int .i64 x.fr, .int .i64 x.ln] 26)); clear f0 f1 f2 f3 f4 f5; obtain ⟨f0, f1, f2, f3, f4, f5⟩ := bk6 (unhide qf); clear x0 x1 x2 x3 x4 x5; obtain ⟨x0, x1, x2, x3, x4, x5⟩ := bk6 (unhide qx); (have qy := hide (Blk.new (w := wz11) (cs := #[.string (bz x.nm), .float .f64 x.rk, .int .u32 x.sm, .int .i64 x.bk, .int .i64 x.fr, .int .i64 x.ln]) (t := 26) rfl)); obtain ⟨y0, y1, y2, y3, y4, y5⟩ := bk6 (unhide qy))
              | (have _t := tk12; clear tk12 _t; go_at_call 19; refine (unhide hs1 _ _ _ ((unhide oa).fls.mono (Nat.zero_le _) (Nat.le_refl _)) (unhide hb)).mono ?_; rintro ez wz12 ⟨rfl, bz12⟩; have szz12 := bz12.size; replace hB := hide ((unhide hB).trans (bz12.mono (unhide hB).size)); replace hl := hide ((unhide hl).grow bz12); replace ho := hide ((unhide ho).grow bz12); replace qf := hide ((unhide qf).below bz12 (unhide qf).lt); replace hC := hide ((unhide hC).trans (bz12.mono (unhide hC).size)); replace hw := hide ((unhide hw).grow bz12); replace oa := hide (own_keep (unhide oa) bz12); replace hb := hide ((unhide hb).grow bz12); replace oc := hide (own_keep (unhide oc) bz12); replace hd := hide ((unhide hd).grow bz12); replace os := hide (own_keep (unhide os) bz12); replace ht := hide ((unhide ht).grow bz12); replace qx := hide ((unhide qx).below bz12 (unhide qx).lt); replace qy := hide ((unhide qy).below bz12 (unhide qy).lt); clear f0 f1 f2 f3 f4 f5; obtain ⟨f0, f1, f2, f3, f4, f5⟩ := bk6 (unhide qf); clear x0 x1 x2 x3 x4 x5; obtain ⟨x0, x1, x2, x3, x4, x5⟩ := bk6 (unhide qx); clear y0 y1 y2 y3 y4 y5; obtain ⟨y0, y1, y2, y3, y4, y5⟩ := bk6 (unhide qy); clear bz12)
              | (have _t := tk13; clear tk13 _t; go_at_call 19; refine (unhide hs2 _ _ _ ((unhide oc).fls.mono (Nat.zero_le _) (Nat.le_refl _)) (unhide hd)).mono ?_; rintro ez wz13 ⟨rfl, bz13⟩; have szz13 := bz13.size; replace hB := hide ((unhide hB).trans (bz13.mono (unhide hB).size)); replace hl := hide ((unhide hl).grow bz13); replace ho := hide ((unhide ho).grow bz13); replace qf := hide ((unhide qf).below bz13 (unhide qf).lt); replace hC := hide ((unhide hC).trans (bz13.mono (unhide hC).size)); replace hw := hide ((unhide hw).grow bz13); replace oa := hide (own_keep (unhide oa) bz13); replace hb := hide ((unhide hb).grow bz13); replace oc := hide (own_keep (unhide oc) bz13); replace hd := hide ((unhide hd).grow bz13); replace os := hide (own_keep (unhide os) bz13); replace ht := hide ((unhide ht).grow bz13); replace qx := hide ((unhide qx).below bz13 (unhide qx).lt); replace qy := hide ((unhide qy).below bz13 (unhide qy).lt); clear f0 f1 f2 f3 f4 f5; obtain ⟨f0, f1, f2, f3, f4, f5⟩ := bk6 (unhide qf); clear x0 x1 x2 x3 x4 x5; obtain ⟨x0, x1, x2, x3, x4, x5⟩ := bk6 (unhide qx); clear y0 y1 y2 y3 y4 y5; obtain ⟨y0, y1, y2, y3, y4, y5⟩ := bk6 (unhide qy); clear bz13)
              | (have _t := tk14; clear tk14 _t; go_at_call 19; refine (unhide hs3 _ _ _ ((unhide os).fls.mono (Nat.zero_le _) (Nat.le_refl _)) (unhide ht)).mono ?_; rintro ez wz14 ⟨rfl, bz14⟩; have szz14 := bz14.size; replace hB := hide ((unhide hB).trans (bz14.mono (unhide hB).size)); replace hl := hide ((unhide hl).grow bz14); replace ho := hide ((unhide ho).grow bz14); replace qf := hide ((unhide qf).below bz14 (unhide qf).lt); replace hC := hide ((unhide hC).trans (bz14.mono (unhide hC).size)); replace hw := hide ((unhide hw).grow bz14); replace oa := hide (own_keep (unhide oa) bz14); replace hb := hide ((unhide hb).grow bz14); replace oc := hide (own_keep (unhide oc) bz14); replace hd := hide ((unhide hd).grow bz14); replace os := hide (own_keep (unhide os) bz14); replace ht := hide ((unhide ht).grow bz14); replace qx := hide ((unhide qx).below bz14 (unhide qx).lt); replace qy := hide ((unhide qy).below bz14 (unhide qy).lt); clear f0 f1 f2 f3 f4 f5; obtain ⟨f0, f1, f2, f3, f4, f5⟩ := bk6 (unhide qf); clear x0 x1 x2 x3 x4 x5; obtain ⟨x0, x1, x2, x3, x4, x5⟩ := bk6 (unhide qx); clear y0 y1 y2 y3 y4 y5; obtain ⟨y0, y1, y2, y3, y4, y5⟩ := bk6 (unhide qy); clear bz14)
              | (have _t := tk15; clear tk15 _t; go_at_call 20; refine (unhide o1 _).mono ?_; rintro ez wz15 ⟨rfl, bz15⟩; have szz15 := bz15.size; replace hB := hide ((unhide hB).trans (bz15.mono (unhide hB).size)); replace hl := hide ((unhide hl).grow bz15); replace ho := hide ((unhide ho).grow bz15); replace qf := hide ((unhide qf).below bz15 (unhide qf).lt); replace hC := hide ((unhide hC).trans (bz15.mono (unhide hC).size)); replace hw := hide ((unhide hw).grow bz15); replace oa := hide (own_keep (unhide oa) bz15); replace hb := hide ((unhide hb).grow bz15); replace oc := hide (own_keep (unhide oc) bz15); replace hd := hide ((unhide hd).grow bz15); replace os := hide (own_keep (unhide os) bz15); replace ht := hide ((unhide ht).grow bz15); replace qx := hide ((unhide qx).below bz15 (unhide qx).lt); replace qy := hide ((unhide qy).below bz15 (unhide qy).lt); clear f0 f1 f2 f3 f4 f5; obtain ⟨f0, f1, f2, f3, f4, f5⟩ := bk6 (unhide qf); clear x0 x1 x2 x3 x4 x5; obtain ⟨x0, x1, x2, x3, x4, x5⟩ := bk6 (unhide qx); clear y0 y1 y2 y3 y4 y5; obtain ⟨y0, y1, y2, y3, y4, y5⟩ := bk6 (unhide qy); clear bz15)
              | (have _t := tk16; clear tk16 _t; go_at_call 21; refine (unhide c1 _ (unhide hl)).mono ?_; rintro ez wz16 ⟨rfl, bz16⟩; have szz16 := bz16.size; replace hB := hide ((unhide hB).trans (bz16.mono (unhide hB).size)); replace hl := hide ((unhide hl).grow bz16); replace ho := hide ((unhide ho).grow bz16); replace qf := hide ((unhide qf).below bz16 (unhide qf).lt); replace hC := hide ((unhide hC).trans (bz16.mono (unhide hC).size)); replace hw := hide ((unhide hw).grow bz16); replace oa := hide (own_keep (unhide oa) bz16); replace hb := hide ((unhide hb).grow bz16); replace oc := hide (own_keep (unhide oc) bz16); replace hd := hide ((unhide hd).grow bz16); replace os := hide (own_keep (unhide os) bz16); replace ht := hide ((unhide ht).grow bz16); replace qx := hide ((unhide qx).below bz16 (unhide qx).lt); replace qy := hide ((unhide qy).below bz16 (unhide qy).lt); clear f0 f1 f2 f3 f4 f5; obtain ⟨f0, f1, f2, f3, f4, f5⟩ := bk6 (unhide qf); clear x0 x1 x2 x3 x4 x5; obtain ⟨x0, x1, x2, x3, x4, x5⟩ := bk6 (unhide qx); clear y0 y1 y2 y3 y4 y5; obtain ⟨y0, y1, y2, y3, y4, y5⟩ := bk6 (unhide qy); clear bz16)
              | (have _t := tk17; clear tk17 _t; go_at_call 22; refine (unhide c2 _ (unhide hl)).mono ?_; rintro ez wz17 ⟨rfl, bz17⟩; have szz17 := bz17.size; replace hB := hide ((unhide hB).trans (bz17.mono (unhide hB).size)); replace hl := hide ((unhide hl).grow bz17); replace ho := hide ((unhide ho).grow bz17); replace qf := hide ((unhide qf).below bz17 (unhide qf).lt); replace hC := hide ((unhide hC).trans (bz17.mono (unhide hC).size)); replace hw := hide ((unhide hw).grow bz17); replace oa := hide (own_keep (unhide oa) bz17); replace hb := hide ((unhide hb).grow bz17); replace oc := hide (own_keep (unhide oc) bz17); replace hd := hide ((unhide hd).grow bz17); replace os := hide (own_keep (unhide os) bz17); replace ht := hide ((unhide ht).grow bz17); replace qx := hide ((unhide qx).below bz17 (unhide qx).lt); replace qy := hide ((unhide qy).below bz17 (unhide qy).lt); clear f0 f1 f2 f3 f4 f5; obtain ⟨f0, f1, f2, f3, f4, f5⟩ := bk6 (unhide qf); clear x0 x1 x2 x3 x4 x5; obtain ⟨x0, x1, x2, x3, x4, x5⟩ := bk6 (unhide qx); clear y0 y1 y2 y3 y4 y5; obtain ⟨y0, y1, y2, y3, y4, y5⟩ := bk6 (unhide qy); clear bz17)
              | (have _t := tk18; clear tk18 _t; go_at_call 23; refine (unhide t1 _ (unhide hl) (unhide ho)).mono ?_; rintro ez wz18 ⟨rfl, bz18⟩; have szz18 := bz18.size; replace hB := hide ((unhide hB).trans (bz18.mono (unhide hB).size)); replace hl := hide ((unhide hl).grow bz18); replace ho := hide ((unhide ho).grow bz18); replace qf := hide ((unhide qf).below bz18 (unhide qf).lt); replace hC := hide ((unhide hC).trans (bz18.mono (unhide hC).size)); replace hw := hide ((unhide hw).grow bz18); replace oa := hide (own_keep (unhide oa) bz18); replace hb := hide ((unhide hb).grow bz18); replace oc := hide (own_keep (unhide oc) bz18); replace hd := hide ((unhide hd).grow bz18); replace os := hide (own_keep (unhide os) bz18); replace ht := hide ((unhide ht).grow bz18); replace qx := hide ((unhide qx).below bz18 (unhide qx).lt); replace qy := hide ((unhide qy).below bz18 (unhide qy).lt); clear f0 f1 f2 f3 f4 f5; obtain ⟨f0, f1, f2, f3, f4, f5⟩ := bk6 (unhide qf); clear x0 x1 x2 x3 x4 x5; obtain ⟨x0, x1, x2, x3, x4, x5⟩ := bk6 (unhide qx); clear y0 y1 y2 y3 y4 y5; obtain ⟨y0, y1, y2, y3, y4, y5⟩ := bk6 (unhide qy); clear bz18)
              | (have _t := tk19; clear tk19 _t; go_at_call 19; refine (unhide t2 _ (unhide hl) (unhide ho)).mono ?_; rintro ez wz19 ⟨rfl, bz19⟩; have szz19 := bz19.size; replace hB := hide ((unhide hB).trans (bz19.mono (unhide hB).size)); replace hl := hide ((unhide hl).grow bz19); replace ho := hide ((unhide ho).grow bz19); replace qf := hide ((unhide qf).below bz19 (unhide qf).lt); replace hC := hide ((unhide hC).trans (bz19.mono (unhide hC).size)); replace hw := hide ((unhide hw).grow bz19); replace oa := hide (own_keep (unhide oa) bz19); replace hb := hide ((unhide hb).grow bz19); replace oc := hide (own_keep (unhide oc) bz19); replace hd := hide ((unhide hd).grow bz19); replace os := hide (own_keep (unhide os) bz19); replace ht := hide ((unhide ht).grow bz19); replace qx := hide ((unhide qx).below bz19 (unhide qx).lt); replace qy := hide ((unhide qy).below bz19 (unhide qy).lt); clear f0 f1 f2 f3 f4 f5; obtain ⟨f0, f1, f2, f3, f4, f5⟩ := bk6 (unhide qf); clear x0 x1 x2 x3 x4 x5; obtain ⟨x0, x1, x2, x3, x4, x5⟩ := bk6 (unhide qx); clear y0 y1 y2 y3 y4 y5; obtain ⟨y0, y1, y2, y3, y4, y5⟩ := bk6 (unhide qy); clear bz19)
              | fail)
            have hIa := hide (inc_of_own (unhide oa))
            have hIc := hide (inc_of_own (unhide oc))
            have hIs := hide (inc_of_own (unhide os))
            have la := own_le (unhide oa)
            have lc := own_le (unhide oc)
            have ls := own_le (unhide os)
            clear oa oc os hb hd ht hl hw
            generalize a.length = na at *
            generalize b.length = nc at *
            generalize s.length = ns at *
            go_loopw [167] (fun i wr => ∃ k : Nat, k ≤ na ∧ i = .int .i64 k ∧ Hid (Inc Aa na ww.heap.size wr) ∧ Hid (ButA Aa wz19 wr)) (fun i _ => na - (intOf i).toNat)
            case atStart => exact ⟨0, Nat.zero_le _, rfl, hIa, hide (ButA.refl _ _)⟩
            case round =>
              obtain ⟨k, hk, rfl, hI2, hU⟩ := hrel
              by_cases hlt : k < na
              · obtain ⟨g, cur, rfl, hq, hz⟩ := (unhide hI2).2 (by omega)
                obtain ⟨z, hz'⟩ := hz k hlt
                have c5 := (hq.cell (k * 6 + 5)).trans hz'
                have fz := hq.frozen (k * 6 + 5)
                clear hq hz hz'
                go_wp2_with (fail)
                go_roundw
                case rel => exact ⟨k + 1, by omega, by go_num, hide ((unhide hI2).set hlt _), hide ((unhide hU).set _ _)⟩
                case measure => simp [intOf] <;> omega
              · obtain rfl : k = na := by omega
                have q9 := (unhide hU).below (unhide hI2).1 (by omega)
                replace hB := hide ((unhide hB).trans (q9.mono (by omega)))
                replace hC := hide ((unhide hC).trans (q9.mono (by omega)))
                have hIc2 := hide ((unhide hIc).but (unhide hU) (fun p e => by have := unhide bda p e; omega))
                have hIs2 := hide ((unhide hIs).but (unhide hU) (fun p e => by have := unhide bda p e; omega))
                have szq := (unhide hU).size
                clear q9 hI2 hU hIc hIs
                generalize wr = W9 at *
                go_wp2_with (fail)
                go_loopw [181] (fun i wr => ∃ k : Nat, k ≤ nc ∧ i = .int .i64 k ∧ Hid (Inc Ac nc wz5.heap.size wr) ∧ Hid (ButA Ac W9 wr)) (fun i _ => nc - (intOf i).toNat)
                case atStart => exact ⟨0, Nat.zero_le _, rfl, hIc2, hide (ButA.refl _ _)⟩
                case round =>
                  obtain ⟨k, hk, rfl, hI2, hU⟩ := hrel
                  by_cases hlt : k < nc
                  · obtain ⟨g, cur, rfl, hq, hz⟩ := (unhide hI2).2 (by omega)
                    obtain ⟨z, hz'⟩ := hz k hlt
                    have c5 := (hq.cell (k * 6 + 5)).trans hz'
                    have fz := hq.frozen (k * 6 + 5)
                    clear hq hz hz'
                    go_wp2_with (fail)
                    go_roundw
                    case rel => exact ⟨k + 1, by omega, by go_num, hide ((unhide hI2).set hlt _), hide ((unhide hU).set _ _)⟩
                    case measure => simp [intOf] <;> omega
                  · obtain rfl : k = nc := by omega
                    have q9 := (unhide hU).below (unhide hI2).1 (by omega)
                    replace hB := hide ((unhide hB).trans (q9.mono (by omega)))
                    replace hC := hide ((unhide hC).trans (q9.mono (by omega)))
                    have hIs3 := hide ((unhide hIs2).but (unhide hU) (fun p e => by have := unhide bdc p e; omega))
                    have szr := (unhide hU).size
                    clear q9 hI2 hU hIs2
                    generalize wr = W10 at *
                    go_wp2_with (fail)
                    go_loopw [195] (fun i wr => ∃ k : Nat, k ≤ ns ∧ i = .int .i64 k ∧ Hid (Inc As ns wz7.heap.size wr) ∧ Hid (ButA As W10 wr)) (fun i _ => ns - (intOf i).toNat)
                    case atStart => exact ⟨0, Nat.zero_le _, rfl, hIs3, hide (ButA.refl _ _)⟩
                    case round =>
                      obtain ⟨k, hk, rfl, hI2, hU⟩ := hrel
                      by_cases hlt : k < ns
                      · obtain ⟨g, cur, rfl, hq, hz⟩ := (unhide hI2).2 (by omega)
                        obtain ⟨z, hz'⟩ := hz k hlt
                        have c5 := (hq.cell (k * 6 + 5)).trans hz'
                        have fz := hq.frozen (k * 6 + 5)
                        clear hq hz hz'
                        go_wp2_with (fail)
                        go_roundw
                        case rel => exact ⟨k + 1, by omega, by go_num, hide ((unhide hI2).set hlt _), hide ((unhide hU).set _ _)⟩
                        case measure => simp [intOf] <;> omega
                      · obtain rfl : k = ns := by omega
                        have q9 := (unhide hU).below (unhide hI2).1 (by omega)
                        replace hB := hide ((unhide hB).trans (q9.mono (by omega)))
                        replace hC := hide ((unhide hC).trans (q9.mono (by omega)))
                        clear q9 hI2 hU
                        have hl := hide ((h0.below (unhide hB) (Nat.le_refl _)).mono (Nat.le_refl _) (unhide hB).size)
                        have hw := hide (((unhide hw0).below (unhide hC) (Nat.le_refl _)).mono (Nat.le_refl _) (unhide hC).size)
                        have tk0 : True := trivial
                        go_wp2_with (first
                          | (have _t := tk0; clear tk0 _t; go_at_call 19; refine (unhide hs4 _ _ _ (unhide hl) (unhide hw)).mono ?_; rintro ez wz0 ⟨rfl, bz0⟩; have szz0 := bz0.size; replace hB := hide ((unhide hB).trans (bz0.mono (unhide hB).size)); clear bz0)
                          | fail)
                        go_ret
                        exact ⟨rfl, unhide hB⟩
end Go.Proofs.Ytkgfmiicfegnlaa
