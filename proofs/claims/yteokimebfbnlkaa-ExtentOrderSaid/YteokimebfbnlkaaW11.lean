import Derived.Test.YteokimebfbnlkaaW10
namespace Go.Proofs.Yteokimebfbnlkaa
open Go.RowKit

set_option maxHeartbeats 4000000 in
theorem give_any (lo : Nat) (v : Value) (x : Xs) (s : Ex) (w : World) (h : XsR lo w.heap.size w v x) (hr : Rgs x.free) (hs : s.len ≤ 9223372036854775807) :
    Calls Try.prog 15 #[v, exV s] w fun e w' => ∃ A c y er, e = .returned (.tuple #[.agg #[.int .i64 y.size, .slice A y.free.length c], .int .i64 er]) ∧ GiveOut x s y er ∧
      XsR w.heap.size w'.heap.size w' (.agg #[.int .i64 y.size, .slice A y.free.length c]) y ∧ Below w.heap.size w w' := by
  have hchk : ∀ W, Below w.heap.size w W → Calls Try.prog 22 #[v] W fun e w' => e = .returned (.int .i64 (badE (okX x))) ∧ Below W.heap.size W w' := fun W hB => check_any lo v x W (h.grow hB) hr
  have h' := h
  obtain ⟨b, rfl, hb⟩ := h'
  obtain ⟨A, c, rfl, n1, n2, hopen⟩ := hb.open
  clear hopen
  cases hok : okX x with
  | false =>
    rw [hok] at hchk
    simp only [badE, Bool.false_eq_true, if_false] at hchk
    replace hchk := hide hchk
    have hout : GiveOut x s noX 1 := .inl ⟨by simp [hok], rfl, rfl⟩
    clear h hb hr
    replace hout := hide hout
    replace hok := hide hok
    unfold exV
    go_enter Try.func15, Try.ntmps15
    go_wp2_with (first
      | (go_at_call 22; refine (unhide hchk _ (by (repeat (first | with_reducible exact Below.refl _ _ | with_reducible assumption | with_reducible refine Below.drew ?_ | with_reducible refine bl_alloc ?_ _ | with_reducible refine bl_call ?_ (by assumption) | (focus (with_reducible refine Below.setCell ?_ ?_ _; rotate_left; focus (first | omega | (simp <;> omega)))) | fail)))).mono ?_; rintro e w1 ⟨rfl, hb1⟩; obtain ⟨hc1, hf1⟩ := bcell hb1; have hz1 := hb1.size; (try simp at hz1); have q12 : w.heap.size + 1 + 1 < w1.heap.size := (by omega); have q11 : w.heap.size + 1 < w1.heap.size := (by omega); have q10 : w.heap.size < w1.heap.size := (by omega)))
    refine ret_xs2 rfl (w.heap.size + 1 + 1) (.int .i64 0) (.slice none 0 0) (.int .i64 1) rfl rfl (Blk.set2 (show Blk _ (w.heap.size + 1 + 1) 24 #[.int .i64 0, .slice none 0 0] by (repeat (first | with_reducible assumption | (focus (with_reducible refine Blk.new ?_; focus (simp <;> fail))) | with_reducible refine Blk.set3 (a := .slice none 0 0) (b := .slice none 0 0) (c := .int .i64 0) ?_ | with_reducible refine Blk.alloc ?_ _ | with_reducible refine Blk.drew ?_ | (focus (with_reducible refine Blk.far ?_ ?_ _; rotate_left; focus (first | omega | (simp <;> omega)))) | (focus (with_reducible refine Blk.below ?_ hb1 ?_; rotate_left; focus (first | omega | (simp <;> omega)))) | (focus (with_reducible refine Blk.below ?_ hb2 ?_; rotate_left; focus (first | omega | (simp <;> omega)))) | (focus (with_reducible refine Blk.below ?_ hb3 ?_; rotate_left; focus (first | omega | (simp <;> omega)))) | (focus (with_reducible refine Blk.below ?_ hb4 ?_; rotate_left; focus (first | omega | (simp <;> omega)))) | (focus (with_reducible refine Blk.below ?_ hb5 ?_; rotate_left; focus (first | omega | (simp <;> omega)))) | (focus (with_reducible refine Blk.below ?_ hb6 ?_; rotate_left; focus (first | omega | (simp <;> omega)))) | fail)))) rfl ⟨none, 0, noX, 1, rfl, unhide hout, noX_xs _ _ _, by (repeat (first | with_reducible exact Below.refl _ _ | with_reducible assumption | with_reducible refine Below.drew ?_ | with_reducible refine bl_alloc ?_ _ | with_reducible refine bl_call ?_ (by assumption) | (focus (with_reducible refine Below.setCell ?_ ?_ _; rotate_left; focus (first | omega | (simp <;> omega)))) | fail))⟩
  | true =>
    obtain ⟨x1, x2, x3⟩ := okX_iff.1 hok
    have each := okX_each hok
    rw [hok] at hchk
    simp only [badE, if_true] at hchk
    have hio := fun W => isOf_any s x.size W x1 x2 hs
    replace hchk := hide hchk
    cases hof : isOfB s x.size with
    | false =>
      have hout : GiveOut x s noX 1 := .inl ⟨by simp [hof], rfl, rfl⟩
      rw [hof] at hio
      replace hio := hide hio
      clear h hb hr each x1 x2 x3
      replace hout := hide hout
      replace hok := hide hok
      replace hof := hide hof
      unfold exV at *
      go_enter Try.func15, Try.ntmps15
      go_wp2_with (first
        | (go_at_call 22; refine (unhide hchk _ (by (repeat (first | with_reducible exact Below.refl _ _ | with_reducible assumption | with_reducible refine Below.drew ?_ | with_reducible refine bl_alloc ?_ _ | with_reducible refine bl_call ?_ (by assumption) | (focus (with_reducible refine Below.setCell ?_ ?_ _; rotate_left; focus (first | omega | (simp <;> omega)))) | fail)))).mono ?_; rintro e w1 ⟨rfl, hb1⟩; obtain ⟨hc1, hf1⟩ := bcell hb1; have hz1 := hb1.size; (try simp at hz1); have q12 : w.heap.size + 1 + 1 < w1.heap.size := (by omega); have q11 : w.heap.size + 1 < w1.heap.size := (by omega); have q10 : w.heap.size < w1.heap.size := (by omega))
        | (go_at_call 28; refine (unhide hio _).mono ?_; rintro e w2 ⟨rfl, hb2⟩; obtain ⟨hc2, hf2⟩ := bcell hb2; have hz2 := hb2.size; (try simp at hz2); have q22 : w.heap.size + 1 + 1 < w2.heap.size := (by omega); have q21 : w.heap.size + 1 < w2.heap.size := (by omega); have q20 : w.heap.size < w2.heap.size := (by omega)))
      refine ret_xs2 rfl (w.heap.size + 1 + 1) (.int .i64 0) (.slice none 0 0) (.int .i64 1) rfl rfl (Blk.set2 (show Blk _ (w.heap.size + 1 + 1) 24 #[.int .i64 0, .slice none 0 0] by (repeat (first | with_reducible assumption | (focus (with_reducible refine Blk.new ?_; focus (simp <;> fail))) | with_reducible refine Blk.set3 (a := .slice none 0 0) (b := .slice none 0 0) (c := .int .i64 0) ?_ | with_reducible refine Blk.alloc ?_ _ | with_reducible refine Blk.drew ?_ | (focus (with_reducible refine Blk.far ?_ ?_ _; rotate_left; focus (first | omega | (simp <;> omega)))) | (focus (with_reducible refine Blk.below ?_ hb1 ?_; rotate_left; focus (first | omega | (simp <;> omega)))) | (focus (with_reducible refine Blk.below ?_ hb2 ?_; rotate_left; focus (first | omega | (simp <;> omega)))) | (focus (with_reducible refine Blk.below ?_ hb3 ?_; rotate_left; focus (first | omega | (simp <;> omega)))) | (focus (with_reducible refine Blk.below ?_ hb4 ?_; rotate_left; focus (first | omega | (simp <;> omega)))) | (focus (with_reducible refine Blk.below ?_ hb5 ?_; rotate_left; focus (first | omega | (simp <;> omega)))) | (focus (with_reducible refine Blk.below ?_ hb6 ?_; rotate_left; focus (first | omega | (simp <;> omega)))) | fail)))) rfl ⟨none, 0, noX, 1, rfl, unhide hout, noX_xs _ _ _, by (repeat (first | with_reducible exact Below.refl _ _ | with_reducible assumption | with_reducible refine Below.drew ?_ | with_reducible refine bl_alloc ?_ _ | with_reducible refine bl_call ?_ (by assumption) | (focus (with_reducible refine Below.setCell ?_ ?_ _; rotate_left; focus (first | omega | (simp <;> omega)))) | fail))⟩
    | true =>
      rw [hof] at hio
      replace hio := hide hio
      obtain ⟨o1, o2, o3⟩ := isOfB_iff.1 hof
      have hs64 : In64 (s.at_ + s.len) := ⟨by omega, by omega⟩
      obtain ⟨P, hP⟩ : ∃ P : Ex → Bool, P = fun f => decide (f.at_ < s.at_ + s.len) && decide (s.at_ < f.at_ + f.len) := ⟨_, rfl⟩
      have hcon : ∀ W, Below w.heap.size w W → Blk W (w.heap.size + 1) 26 #[.int .i64 s.at_, .int .i64 s.len] →
          Calls Try.prog 33 #[.slice A x.free.length c, .func (.func 34) #[] #[.pointer (some ⟨w.heap.size + 1, 0, none⟩)]] W fun e w' => e = .returned (.bool (decide (0 ≤ firstI P 0 x.free))) ∧ Below W.heap.size W w' := fun W hB hblk =>
        contains_any _ P lo _ x.free W (hb.grow hB) fun f hf W' hB' => by
          obtain ⟨a1, a2, a3⟩ := each f hf
          rw [hP]
          exact give1_any f s _ W' (hblk.below hB' hblk.lt) hs64 ⟨by omega, by omega⟩
      rcases firstI_cases P x.free with hn | ⟨p, f, q, hpq, hp, hf⟩
      · rw [firstI_none hn, show decide ((0 : Int) ≤ -1) = false from rfl] at hcon
        replace hcon := hide hcon
        have hfr : ∀ W, Below w.heap.size w W → Blk W (w.heap.size + 1) 26 #[.int .i64 s.at_, .int .i64 s.len] →
            Calls Try.prog 35 #[.slice A x.free.length c, .func (.func 36) #[] #[.pointer (some ⟨w.heap.size + 1, 0, none⟩)]] W fun e w' => e = .returned (.int .i64 (ahead (fun f => decide (s.at_ ≤ f.at_ + f.len)) x.free : Nat)) ∧ Below W.heap.size W w' := fun W hB hblk =>
          first36_any _ _ lo _ x.free W (hb.grow hB) fun f hf W' hB' => by
            obtain ⟨a1, a2, a3⟩ := each f hf
            exact give2_any f s _ W' (hblk.below hB' hblk.lt) ⟨by omega, by omega⟩
        have hto : ∀ W, Below w.heap.size w W → Blk W (w.heap.size + 1) 26 #[.int .i64 s.at_, .int .i64 s.len] →
            Calls Try.prog 35 #[.slice A x.free.length c, .func (.func 37) #[] #[.pointer (some ⟨w.heap.size + 1, 0, none⟩)]] W fun e w' => e = .returned (.int .i64 (ahead (fun f => decide (s.at_ + s.len < f.at_)) x.free : Nat)) ∧ Below W.heap.size W w' := fun W hB hblk =>
          first37_any _ _ lo _ x.free W (hb.grow hB) fun f hf W' hB' => by
            obtain ⟨a1, a2, a3⟩ := each f hf
            exact give3_any f s _ W' (hblk.below hB' hblk.lt) hs64
        obtain ⟨p, m, q, hpq, e1, e2, hp, hm, hq⟩ := give_parts (s := s) x3 o2
        rw [e1] at hfr
        rw [e2] at hto
        have hlen : x.free.length = p.length + (m.length + q.length) := by rw [hpq]; simp
        have hnf : ∀ f ∈ x.free, ¬ (f.at_ < s.at_ + s.len ∧ s.at_ < f.at_ + f.len) := fun f hf hh => by
          have := hn f hf
          rw [hP] at this
          simp [hh.1, hh.2] at this
        have hfree : ∀ i, inE s i → ¬ mem x.free i := by
          rintro i hi ⟨f, hf, hfi⟩
          exact hnf f hf ((meets (each f hf).2.1 o2).2 ⟨i, hi, hfi⟩)
        have x3' := x3
        have hnf' := hnf
        rw [hpq] at x3' hnf'
        obtain ⟨g1, g2⟩ := give_ok x3' (Int.le_refl _) ⟨o1, o2, o3⟩ hnf' hp hm hq
        have hout : GiveOut x s ⟨x.size, p ++ (m.foldl joinE s :: q)⟩ 0 := .inr (.inr ⟨hok, hof, hfree, rfl, rfl, okX_iff.2 ⟨x1, x2, g1⟩, fun i => by rw [g2 i, hpq]⟩)
        obtain ⟨A0, s0, z0⟩ := hb.part 0 p.length (by omega) (by omega)
        obtain ⟨A1, s1, z1⟩ := hb.part p.length (p.length + m.length) (by omega) (by omega)
        obtain ⟨A2, s2, z2⟩ := hb.part (p.length + m.length) x.free.length (by omega) (by omega)
        rw [List.drop_zero, Nat.sub_zero, Nat.sub_zero, show x.free.take p.length = p by rw [hpq]; simp] at z0
        rw [show p.length + m.length - p.length = m.length by omega, show (x.free.drop p.length).take m.length = m by rw [hpq]; simp] at z1
        rw [show x.free.length - (p.length + m.length) = q.length by omega, show (x.free.drop (p.length + m.length)).take q.length = q by rw [hpq, ← List.append_assoc, ← List.length_append]; simp] at z2
        have t0 := slice_h A x.free.length c p.length (by omega)
        have t1 := slice_lh A x.free.length c p.length (p.length + m.length) (by omega) (by omega)
        have t2 := slice_l A x.free.length c (p.length + m.length) (by omega)
        rw [s0, Nat.sub_zero, Nat.sub_zero] at t0
        rw [s1, show p.length + m.length - p.length = m.length by omega] at t1
        rw [s2, show x.free.length - (p.length + m.length) = q.length by omega] at t2
        have hml : ∀ f ∈ m, 0 ≤ f.len ∧ f.len ≤ 8192 := fun f hf => by
          obtain ⟨a1, a2, a3⟩ := each f (by rw [hpq]; simp [hf])
          omega
        have hxl : x.free.length ≤ 100000 := by have := okF_len x3 (by omega); omega
        have hs8' : s.len ≤ 8192 := by omega
        replace hs8' := hide hs8'
        generalize x.free.length = n at *
        clear h hr each x1 x2 x3 x3' hP hn hnf hnf' g1 g2 e1 e2 s0 s1 s2 hp hm hq hfree o3 hb
        simp only [Int.natCast_add] at hto t1 t2
        generalize hpl : p.length = pl at *
        replace hfr := hide hfr; replace hto := hide hto; replace hout := hide hout; replace z0 := hide z0; replace z1 := hide z1; replace z2 := hide z2; replace hml := hide hml
        replace hok := hide hok; replace hof := hide hof; replace hpq := hide hpq; replace hpl := hide hpl; replace hs64 := hide hs64
        replace t0 := hide t0; replace t1 := hide t1; replace t2 := hide t2; replace n1 := hide n1; replace hxl := hide hxl; replace hlen := hide hlen; replace o1 := hide o1; replace o2 := hide o2
        clear hs
        unfold exV at *
        go_enter Try.func15, Try.ntmps15
        go_upto_region 7 with (first
          | (go_at_call 22; refine (unhide hchk _ (by (repeat (first | with_reducible exact Below.refl _ _ | with_reducible assumption | with_reducible refine Below.drew ?_ | with_reducible refine bl_alloc ?_ _ | with_reducible refine bl_call ?_ (by assumption) | (focus (with_reducible refine Below.setCell ?_ ?_ _; rotate_left; focus (first | omega | (simp <;> omega)))) | fail)))).mono ?_; rintro e w1 ⟨rfl, hb1⟩; obtain ⟨hc1, hf1⟩ := bcell hb1; have hz1 := hb1.size; (try simp at hz1); have q12 : w.heap.size + 1 + 1 < w1.heap.size := (by omega); have q11 : w.heap.size + 1 < w1.heap.size := (by omega); have q10 : w.heap.size < w1.heap.size := (by omega))
          | (go_at_call 28; refine (unhide hio _).mono ?_; rintro e w2 ⟨rfl, hb2⟩; obtain ⟨hc2, hf2⟩ := bcell hb2; have hz2 := hb2.size; (try simp at hz2); have q22 : w.heap.size + 1 + 1 < w2.heap.size := (by omega); have q21 : w.heap.size + 1 < w2.heap.size := (by omega); have q20 : w.heap.size < w2.heap.size := (by omega))
          | (go_at_call 33; refine (unhide hcon _ (by (repeat (first | with_reducible exact Below.refl _ _ | with_reducible assumption | with_reducible refine Below.drew ?_ | with_reducible refine bl_alloc ?_ _ | with_reducible refine bl_call ?_ (by assumption) | (focus (with_reducible refine Below.setCell ?_ ?_ _; rotate_left; focus (first | omega | (simp <;> omega)))) | fail))) (by (repeat (first | with_reducible assumption | (focus (with_reducible refine Blk.new ?_; focus (simp <;> fail))) | with_reducible refine Blk.set3 (a := .slice none 0 0) (b := .slice none 0 0) (c := .int .i64 0) ?_ | with_reducible refine Blk.alloc ?_ _ | with_reducible refine Blk.drew ?_ | (focus (with_reducible refine Blk.far ?_ ?_ _; rotate_left; focus (first | omega | (simp <;> omega)))) | (focus (with_reducible refine Blk.below ?_ hb1 ?_; rotate_left; focus (first | omega | (simp <;> omega)))) | (focus (with_reducible refine Blk.below ?_ hb2 ?_; rotate_left; focus (first | omega | (simp <;> omega)))) | (focus (with_reducible refine Blk.below ?_ hb3 ?_; rotate_left; focus (first | omega | (simp <;> omega)))) | (focus (with_reducible refine Blk.below ?_ hb4 ?_; rotate_left; focus (first | omega | (simp <;> omega)))) | (focus (with_reducible refine Blk.below ?_ hb5 ?_; rotate_left; focus (first | omega | (simp <;> omega)))) | (focus (with_reducible refine Blk.below ?_ hb6 ?_; rotate_left; focus (first | omega | (simp <;> omega)))) | fail)))).mono ?_; rintro e w3 ⟨rfl, hb3⟩; obtain ⟨hc3, hf3⟩ := bcell hb3; have hz3 := hb3.size; (try simp at hz3); have q32 : w.heap.size + 1 + 1 < w3.heap.size := (by omega); have q31 : w.heap.size + 1 < w3.heap.size := (by omega); have q30 : w.heap.size < w3.heap.size := (by omega))
          | (go_at_call 35; have _t := tok1; refine (unhide hto _ (by (repeat (first | with_reducible exact Below.refl _ _ | with_reducible assumption | with_reducible refine Below.drew ?_ | with_reducible refine bl_alloc ?_ _ | with_reducible refine bl_call ?_ (by assumption) | (focus (with_reducible refine Below.setCell ?_ ?_ _; rotate_left; focus (first | omega | (simp <;> omega)))) | fail))) (by (repeat (first | with_reducible assumption | (focus (with_reducible refine Blk.new ?_; focus (simp <;> fail))) | with_reducible refine Blk.set3 (a := .slice none 0 0) (b := .slice none 0 0) (c := .int .i64 0) ?_ | with_reducible refine Blk.alloc ?_ _ | with_reducible refine Blk.drew ?_ | (focus (with_reducible refine Blk.far ?_ ?_ _; rotate_left; focus (first | omega | (simp <;> omega)))) | (focus (with_reducible refine Blk.below ?_ hb1 ?_; rotate_left; focus (first | omega | (simp <;> omega)))) | (focus (with_reducible refine Blk.below ?_ hb2 ?_; rotate_left; focus (first | omega | (simp <;> omega)))) | (focus (with_reducible refine Blk.below ?_ hb3 ?_; rotate_left; focus (first | omega | (simp <;> omega)))) | (focus (with_reducible refine Blk.below ?_ hb4 ?_; rotate_left; focus (first | omega | (simp <;> omega)))) | (focus (with_reducible refine Blk.below ?_ hb5 ?_; rotate_left; focus (first | omega | (simp <;> omega)))) | (focus (with_reducible refine Blk.below ?_ hb6 ?_; rotate_left; focus (first | omega | (simp <;> omega)))) | fail)))).mono ?_; rintro e w6 ⟨rfl, hb6⟩; obtain ⟨hc6, hf6⟩ := bcell hb6; have hz6 := hb6.size; (try simp at hz6); have q62 : w.heap.size + 1 + 1 < w6.heap.size := (by omega); have q61 : w.heap.size + 1 < w6.heap.size := (by omega); have q60 : w.heap.size < w6.heap.size := (by omega); clear _t)
          | (go_at_call 35; refine (unhide hfr _ (by (repeat (first | with_reducible exact Below.refl _ _ | with_reducible assumption | with_reducible refine Below.drew ?_ | with_reducible refine bl_alloc ?_ _ | with_reducible refine bl_call ?_ (by assumption) | (focus (with_reducible refine Below.setCell ?_ ?_ _; rotate_left; focus (first | omega | (simp <;> omega)))) | fail))) (by (repeat (first | with_reducible assumption | (focus (with_reducible refine Blk.new ?_; focus (simp <;> fail))) | with_reducible refine Blk.set3 (a := .slice none 0 0) (b := .slice none 0 0) (c := .int .i64 0) ?_ | with_reducible refine Blk.alloc ?_ _ | with_reducible refine Blk.drew ?_ | (focus (with_reducible refine Blk.far ?_ ?_ _; rotate_left; focus (first | omega | (simp <;> omega)))) | (focus (with_reducible refine Blk.below ?_ hb1 ?_; rotate_left; focus (first | omega | (simp <;> omega)))) | (focus (with_reducible refine Blk.below ?_ hb2 ?_; rotate_left; focus (first | omega | (simp <;> omega)))) | (focus (with_reducible refine Blk.below ?_ hb3 ?_; rotate_left; focus (first | omega | (simp <;> omega)))) | (focus (with_reducible refine Blk.below ?_ hb4 ?_; rotate_left; focus (first | omega | (simp <;> omega)))) | (focus (with_reducible refine Blk.below ?_ hb5 ?_; rotate_left; focus (first | omega | (simp <;> omega)))) | (focus (with_reducible refine Blk.below ?_ hb6 ?_; rotate_left; focus (first | omega | (simp <;> omega)))) | fail)))).mono ?_; rintro e w5 ⟨rfl, hb5⟩; have tok1 : True := trivial; obtain ⟨hc5, hf5⟩ := bcell hb5; have hz5 := hb5.size; (try simp at hz5); have q52 : w.heap.size + 1 + 1 < w5.heap.size := (by omega); have q51 : w.heap.size + 1 < w5.heap.size := (by omega); have q50 : w.heap.size < w5.heap.size := (by omega)))
        have HBo : Below w.heap.size w w6 := by (repeat (first | with_reducible exact Below.refl _ _ | with_reducible assumption | with_reducible refine Below.drew ?_ | with_reducible refine bl_alloc ?_ _ | with_reducible refine bl_call ?_ (by assumption) | (focus (with_reducible refine Below.setCell ?_ ?_ _; rotate_left; focus (first | omega | (simp <;> omega)))) | fail))
        have K0 : Blk w6 w.heap.size 24 #[.int .i64 x.size, .slice A n c] := by (repeat (first | with_reducible assumption | (focus (with_reducible refine Blk.new ?_; focus (simp <;> fail))) | with_reducible refine Blk.set3 (a := .slice none 0 0) (b := .slice none 0 0) (c := .int .i64 0) ?_ | with_reducible refine Blk.alloc ?_ _ | with_reducible refine Blk.drew ?_ | (focus (with_reducible refine Blk.far ?_ ?_ _; rotate_left; focus (first | omega | (simp <;> omega)))) | (focus (with_reducible refine Blk.below ?_ hb1 ?_; rotate_left; focus (first | omega | (simp <;> omega)))) | (focus (with_reducible refine Blk.below ?_ hb2 ?_; rotate_left; focus (first | omega | (simp <;> omega)))) | (focus (with_reducible refine Blk.below ?_ hb3 ?_; rotate_left; focus (first | omega | (simp <;> omega)))) | (focus (with_reducible refine Blk.below ?_ hb4 ?_; rotate_left; focus (first | omega | (simp <;> omega)))) | (focus (with_reducible refine Blk.below ?_ hb5 ?_; rotate_left; focus (first | omega | (simp <;> omega)))) | (focus (with_reducible refine Blk.below ?_ hb6 ?_; rotate_left; focus (first | omega | (simp <;> omega)))) | fail))
        have K1 : Blk w6 (w.heap.size + 1) 26 #[.int .i64 s.at_, .int .i64 s.len] := by (repeat (first | with_reducible assumption | (focus (with_reducible refine Blk.new ?_; focus (simp <;> fail))) | with_reducible refine Blk.set3 (a := .slice none 0 0) (b := .slice none 0 0) (c := .int .i64 0) ?_ | with_reducible refine Blk.alloc ?_ _ | with_reducible refine Blk.drew ?_ | (focus (with_reducible refine Blk.far ?_ ?_ _; rotate_left; focus (first | omega | (simp <;> omega)))) | (focus (with_reducible refine Blk.below ?_ hb1 ?_; rotate_left; focus (first | omega | (simp <;> omega)))) | (focus (with_reducible refine Blk.below ?_ hb2 ?_; rotate_left; focus (first | omega | (simp <;> omega)))) | (focus (with_reducible refine Blk.below ?_ hb3 ?_; rotate_left; focus (first | omega | (simp <;> omega)))) | (focus (with_reducible refine Blk.below ?_ hb4 ?_; rotate_left; focus (first | omega | (simp <;> omega)))) | (focus (with_reducible refine Blk.below ?_ hb5 ?_; rotate_left; focus (first | omega | (simp <;> omega)))) | (focus (with_reducible refine Blk.below ?_ hb6 ?_; rotate_left; focus (first | omega | (simp <;> omega)))) | fail))
        have K2 : Blk w6 (w.heap.size + 1 + 1) 24 #[.int .i64 0, .slice none 0 0] := by (repeat (first | with_reducible assumption | (focus (with_reducible refine Blk.new ?_; focus (simp <;> fail))) | with_reducible refine Blk.set3 (a := .slice none 0 0) (b := .slice none 0 0) (c := .int .i64 0) ?_ | with_reducible refine Blk.alloc ?_ _ | with_reducible refine Blk.drew ?_ | (focus (with_reducible refine Blk.far ?_ ?_ _; rotate_left; focus (first | omega | (simp <;> omega)))) | (focus (with_reducible refine Blk.below ?_ hb1 ?_; rotate_left; focus (first | omega | (simp <;> omega)))) | (focus (with_reducible refine Blk.below ?_ hb2 ?_; rotate_left; focus (first | omega | (simp <;> omega)))) | (focus (with_reducible refine Blk.below ?_ hb3 ?_; rotate_left; focus (first | omega | (simp <;> omega)))) | (focus (with_reducible refine Blk.below ?_ hb4 ?_; rotate_left; focus (first | omega | (simp <;> omega)))) | (focus (with_reducible refine Blk.below ?_ hb5 ?_; rotate_left; focus (first | omega | (simp <;> omega)))) | (focus (with_reducible refine Blk.below ?_ hb6 ?_; rotate_left; focus (first | omega | (simp <;> omega)))) | fail))
        clear hb1 hb2 hb3 hb5 hb6 hc1 hc2 hc3 hc5 hc6 hf1 hf2 hf3 hf5 hf6 hz1 hz2 hz3 hz5 hz6
        have e0 := K0.cell 1
        simp at e0
        replace t1 := unhide t1
        have j0 : (0 : Int) ≤ (pl : Int) + (m.length : Int) := by omega
        have hmn : m.length ≤ 1000000 := by have := unhide hlen; have := unhide hxl; omega
        have hacl := fun k => accE_len (s := s) k (unhide hml) (by have := unhide o2; omega) hmn
        have hs8 : s.len ≤ 8192 := unhide hs8'
        replace hacl := hide hacl; replace hmn := hide hmn; replace hs8 := hide hs8
        go_wp2_with fail
        replace t1 := hide t1
        replace K0 := hide K0; replace K1 := hide K1; replace K2 := hide K2; replace HBo := hide HBo
        go_loopw [40] (fun s40 wr => ∃ k : Nat, k ≤ m.length ∧ s40 = .int .i64 k ∧ Hid (Below w.heap.size w wr) ∧ Hid (Blk wr w.heap.size 24 #[.int .i64 x.size, .slice A n c]) ∧ Hid (Blk wr (w.heap.size + 1) 26 #[.int .i64 (accE m s k).at_, .int .i64 (accE m s k).len]) ∧ Hid (Blk wr (w.heap.size + 1 + 1) 24 #[.int .i64 0, .slice none 0 0])) (fun i _ => m.length - (intOf i).toNat)
        case atStart => exact ⟨0, by omega, rfl, HBo, K0, K1, K2⟩
        case round =>
          obtain ⟨k, hk, rfl, hB, k0, k1, k2⟩ := hrel
          clear K0 K1 K2 HBo
          by_cases hlt : k < m.length
          · obtain ⟨A1', c1', ez, _, _, zo⟩ := (unhide z1).open
            obtain ⟨b, off, rfl, _, l2, q0, q1⟩ := zo k hlt
            injection ez with ez1 ez2 ez3
            subst ez1
            clear ez2 ez3
            clear zo
            have c0 := ((unhide hB).cell (p := ⟨b, off + k * 2, none⟩) l2).trans q0
            have c1 := ((unhide hB).cell (p := ⟨b, off + k * 2 + 1, none⟩) l2).trans q1
            have hsu := accE_succ (s := s) hlt
            have a1 := unhide hacl k
            have a2 := unhide hml m[k] (List.getElem_mem _)
            have hjn := fun W => joined_any (accE m s k) m[k] W (by have := unhide hs8; unfold In64; omega)
            rw [← hsu] at hjn
            unfold exV at hjn
            generalize m[k] = mk at *
            obtain ⟨S1, hS1⟩ : ∃ S1, S1 = accE m s (k + 1) := ⟨_, rfl⟩
            rw [← hS1] at hjn
            replace hS1 := hide hS1
            generalize accE m s k = S0 at *
            replace hjn := hide hjn; replace hsu := hide hsu
            have B0 := unhide hB
            have K0 := unhide k0
            have K1 := unhide k1
            have K2 := unhide k2
            have d0 := K1.cell 0
            have d1 := K1.cell 1
            simp at d0 d1
            have y1 : w.heap.size + 1 < wr.heap.size := K1.lt
            have y2 : b < wr.heap.size := by have := B0.size; omega
            have fz0 := K1.frozen 0
            have fz1 := K1.frozen 1
            clear a1 a2 q0 q1 K0 K1 K2
            go_wp2_with (first
              | (go_at_call 38; refine (unhide hjn _).mono ?_; rintro e w1 ⟨rfl, hb1⟩; obtain ⟨hc1, hf1⟩ := bcell hb1; have hz1 := hb1.size; (try simp at hz1); have y3 : w.heap.size + 1 < w1.heap.size := (by omega); have K1 := (Blk.alloc (unhide k1) (.cells #[.int .i64 mk.at_, .int .i64 mk.len] 26)).below hb1 (by simp; omega); have r0 := K1.cell 0; have r1 := K1.cell 1; have g0 := K1.frozen 0; have g1 := K1.frozen 1; simp at r0 r1))
            have B1 : Below w.heap.size w w1 := bl_call (by (repeat (first | with_reducible exact Below.refl _ _ | with_reducible assumption | with_reducible refine Below.drew ?_ | with_reducible refine bl_alloc ?_ _ | with_reducible refine bl_call ?_ (by assumption) | (focus (with_reducible refine Below.setCell ?_ ?_ _; rotate_left; focus (first | omega | (simp <;> omega)))) | fail))) hb1
            have K0 : Blk w1 w.heap.size 24 #[.int .i64 x.size, .slice A n c] := (Blk.alloc (unhide k0) _).below hb1 (by simp; omega)
            have K2 : Blk w1 (w.heap.size + 1 + 1) 24 #[.int .i64 0, .slice none 0 0] := (Blk.alloc (unhide k2) _).below hb1 (by have := (unhide k2).lt; simp; omega)
            go_roundw
            case rel =>
              refine ⟨k + 1, by omega, by go_num, hide (by (repeat (first | with_reducible exact Below.refl _ _ | with_reducible assumption | with_reducible refine Below.drew ?_ | with_reducible refine bl_alloc ?_ _ | with_reducible refine bl_call ?_ (by assumption) | (focus (with_reducible refine Below.setCell ?_ ?_ _; rotate_left; focus (first | omega | (simp <;> omega)))) | fail))), hide (Blk.far (Blk.far K0 (by simp) _) (by simp) _), hide ?_, hide (Blk.far (Blk.far K2 (by simp) _) (by simp) _)⟩
              rw [← unhide hS1]
              exact Blk.set2 K1
            case measure => simp [intOf]; omega
          · obtain rfl : k = m.length := by omega
            have hS : accE m s m.length = m.foldl joinE s := by unfold accE; rw [List.take_length]
            rw [← hS] at hout
            generalize accE m s m.length = S at *
            clear hS
            have hcat : ∀ W g g1, Below w.heap.size w W → W.cell? ⟨g, 0, none⟩ = some (.slice A0 pl c) → W.cell? ⟨g, 1, none⟩ = some (.slice (some ⟨g1, 0, none⟩) 1 1) → W.cell? ⟨g, 2, none⟩ = some (.slice A2 q.length (c - (pl + m.length))) →
                W.cell? ⟨g1, 0, none⟩ = some (.int .i64 S.at_) → W.cell? ⟨g1, 1, none⟩ = some (.int .i64 S.len) → Calls Try.prog 39 #[.slice (some ⟨g, 0, none⟩) 3 3] W fun e w' => ∃ A c, e = .returned (.slice A (p ++ S :: q).length c) ∧ Exs W.heap.size w'.heap.size w' (.slice A (p ++ S :: q).length c) (p ++ S :: q) ∧ Below W.heap.size W w' := by
              intro W g g1 hB b0 b1 b2 b3 b4
              have z0' := unhide z0
              rw [← unhide hpl] at b0 z0'
              refine concat3 (lists3 b0 ((z0'.grow hB).mono (Nat.zero_le _) (Nat.le_refl _)) b1 b3 b4 b2 (((unhide z2).grow hB).mono (Nat.zero_le _) (Nat.le_refl _))) (World.block_lt_of_cell? W _ b0) ?_
              have := unhide hlen; have := unhide hxl; have := unhide hpl
              omega
            replace hcat := hide hcat
            generalize p ++ S :: q = L at *
            have B0 := unhide hB
            have K0 := unhide k0
            have K1 := unhide k1
            have K2 := unhide k2
            have d0 := K0.cell 0
            have d1 := K0.cell 1
            have d2 := K1.cell 0
            have d3 := K1.cell 1
            simp at d0 d1 d2 d3
            have y1 : w.heap.size + 1 + 1 < wr.heap.size := K2.lt
            have y2 : w.heap.size + 1 < wr.heap.size := by omega
            have y3 : w.heap.size < wr.heap.size := by omega
            replace t0 := unhide t0
            replace t2 := unhide t2
            go_upto_region 12 with fail
            go_region_held3 (fun W => W.cell? ⟨w.heap.size, 0, none⟩ = some (.int .i64 x.size) ∧ W.cell? ⟨w.heap.size, 1, none⟩ = some (.slice A n c) ∧ W.cell? ⟨w.heap.size + 1, 0, none⟩ = some (.int .i64 S.at_) ∧ W.cell? ⟨w.heap.size + 1, 1, none⟩ = some (.int .i64 S.len)) (first | exact ⟨by with_reducible assumption, by with_reducible assumption, by with_reducible assumption, by with_reducible assumption⟩ | exact ⟨by go_simp, by go_simp, by go_simp, by go_simp⟩)
              (first
                | (go_at_call 39; refine (unhide hcat _ _ wr.heap.size (by (repeat (first | with_reducible exact Below.refl _ _ | with_reducible assumption | with_reducible refine Below.drew ?_ | with_reducible refine bl_alloc ?_ _ | with_reducible refine bl_call ?_ (by assumption) | (focus (with_reducible refine Below.setCell ?_ ?_ _; rotate_left; focus (first | omega | (simp <;> omega)))) | fail))) (by go_simp) (by go_simp) (by go_simp) (by go_simp) (by go_simp)).mono ?_; rintro e w7 ⟨A7, c7, rfl, hx7, hb7⟩; have M0 := Blk.below (w := _) (g := w.heap.size) (t := 24) (cs := #[.int .i64 x.size, .slice A n c]) (by (repeat (first | with_reducible assumption | (focus (with_reducible refine Blk.new ?_; focus (simp <;> fail))) | with_reducible refine Blk.set3 (a := .slice none 0 0) (b := .slice none 0 0) (c := .int .i64 0) ?_ | with_reducible refine Blk.alloc ?_ _ | with_reducible refine Blk.drew ?_ | (focus (with_reducible refine Blk.far ?_ ?_ _; rotate_left; focus (first | omega | (simp <;> omega)))) | (focus (with_reducible refine Blk.below ?_ hb1 ?_; rotate_left; focus (first | omega | (simp <;> omega)))) | (focus (with_reducible refine Blk.below ?_ hb2 ?_; rotate_left; focus (first | omega | (simp <;> omega)))) | (focus (with_reducible refine Blk.below ?_ hb3 ?_; rotate_left; focus (first | omega | (simp <;> omega)))) | (focus (with_reducible refine Blk.below ?_ hb4 ?_; rotate_left; focus (first | omega | (simp <;> omega)))) | (focus (with_reducible refine Blk.below ?_ hb5 ?_; rotate_left; focus (first | omega | (simp <;> omega)))) | (focus (with_reducible refine Blk.below ?_ hb6 ?_; rotate_left; focus (first | omega | (simp <;> omega)))) | fail))) hb7 (by simp; omega); have M1 := Blk.below (g := w.heap.size + 1) (t := 26) (cs := #[.int .i64 S.at_, .int .i64 S.len]) (by (repeat (first | with_reducible assumption | (focus (with_reducible refine Blk.new ?_; focus (simp <;> fail))) | with_reducible refine Blk.set3 (a := .slice none 0 0) (b := .slice none 0 0) (c := .int .i64 0) ?_ | with_reducible refine Blk.alloc ?_ _ | with_reducible refine Blk.drew ?_ | (focus (with_reducible refine Blk.far ?_ ?_ _; rotate_left; focus (first | omega | (simp <;> omega)))) | (focus (with_reducible refine Blk.below ?_ hb1 ?_; rotate_left; focus (first | omega | (simp <;> omega)))) | (focus (with_reducible refine Blk.below ?_ hb2 ?_; rotate_left; focus (first | omega | (simp <;> omega)))) | (focus (with_reducible refine Blk.below ?_ hb3 ?_; rotate_left; focus (first | omega | (simp <;> omega)))) | (focus (with_reducible refine Blk.below ?_ hb4 ?_; rotate_left; focus (first | omega | (simp <;> omega)))) | (focus (with_reducible refine Blk.below ?_ hb5 ?_; rotate_left; focus (first | omega | (simp <;> omega)))) | (focus (with_reducible refine Blk.below ?_ hb6 ?_; rotate_left; focus (first | omega | (simp <;> omega)))) | fail))) hb7 (by simp; omega); have M2 := Blk.below (g := w.heap.size + 1 + 1) (t := 24) (cs := #[.int .i64 0, .slice none 0 0]) (by (repeat (first | with_reducible assumption | (focus (with_reducible refine Blk.new ?_; focus (simp <;> fail))) | with_reducible refine Blk.set3 (a := .slice none 0 0) (b := .slice none 0 0) (c := .int .i64 0) ?_ | with_reducible refine Blk.alloc ?_ _ | with_reducible refine Blk.drew ?_ | (focus (with_reducible refine Blk.far ?_ ?_ _; rotate_left; focus (first | omega | (simp <;> omega)))) | (focus (with_reducible refine Blk.below ?_ hb1 ?_; rotate_left; focus (first | omega | (simp <;> omega)))) | (focus (with_reducible refine Blk.below ?_ hb2 ?_; rotate_left; focus (first | omega | (simp <;> omega)))) | (focus (with_reducible refine Blk.below ?_ hb3 ?_; rotate_left; focus (first | omega | (simp <;> omega)))) | (focus (with_reducible refine Blk.below ?_ hb4 ?_; rotate_left; focus (first | omega | (simp <;> omega)))) | (focus (with_reducible refine Blk.below ?_ hb5 ?_; rotate_left; focus (first | omega | (simp <;> omega)))) | (focus (with_reducible refine Blk.below ?_ hb6 ?_; rotate_left; focus (first | omega | (simp <;> omega)))) | fail))) hb7 (by simp; omega); have r0 := M0.cell 0; have r1 := M0.cell 1; have r2 := M1.cell 0; have r3 := M1.cell 1; have s0 := M2.cell 0; have s1 := M2.cell 1; have g0 := M2.frozen 0; have g1 := M2.frozen 1; simp at r0 r1 r2 r3 s0 s1))
            all_goals go_wp2_with fail
            have HB : Below w.heap.size w w7 := bl_call (by (repeat (first | with_reducible exact Below.refl _ _ | with_reducible assumption | with_reducible refine Below.drew ?_ | with_reducible refine bl_alloc ?_ _ | with_reducible refine bl_call ?_ (by assumption) | (focus (with_reducible refine Below.setCell ?_ ?_ _; rotate_left; focus (first | omega | (simp <;> omega)))) | fail))) hb7
            refine ret_xs2 rfl (w.heap.size + 1 + 1) (.int .i64 x.size) (.slice A7 L.length c7) (.int .i64 0) rfl rfl (Blk.set2 M2) rfl ⟨A7, c7, ⟨x.size, L⟩, 0, rfl, unhide hout, ⟨_, rfl, ?_⟩, by (repeat (first | with_reducible exact Below.refl _ _ | with_reducible assumption | with_reducible refine Below.drew ?_ | with_reducible refine bl_alloc ?_ _ | with_reducible refine bl_call ?_ (by assumption) | (focus (with_reducible refine Below.setCell ?_ ?_ _; rotate_left; focus (first | omega | (simp <;> omega)))) | fail))⟩
            exact (hx7.keep (((Agree.refl _ _ _).set (by simp; omega) _).set (by simp; omega) _)).mono (by simp; omega) (by simp)
      · have hout : GiveOut x s noX 5 := by
          refine .inr (.inl ⟨hok, hof, fun hall => ?_, rfl, rfl⟩)
          rw [hP] at hf
          simp only [Bool.and_eq_true, decide_eq_true_eq] at hf
          have hmem : f ∈ x.free := by rw [hpq]; simp
          obtain ⟨i, h1, h2⟩ := (meets (each f hmem).2.1 o2).1 hf
          exact hall i h1 ⟨f, hmem, h2⟩
        have hcon' : (0 : Int) ≤ firstI P 0 x.free := by rw [hpq, firstI_at hp hf]; omega
        rw [show decide ((0 : Int) ≤ firstI P 0 x.free) = true by simpa using hcon'] at hcon
        replace hcon := hide hcon
        clear h hb hr each x1 x2 x3 hP hp hf hpq hcon' o1 o2 o3 hs64
        replace hout := hide hout
        replace hok := hide hok
        replace hof := hide hof
        unfold exV at *
        go_enter Try.func15, Try.ntmps15
        go_wp2_with (first
          | (go_at_call 22; refine (unhide hchk _ (by (repeat (first | with_reducible exact Below.refl _ _ | with_reducible assumption | with_reducible refine Below.drew ?_ | with_reducible refine bl_alloc ?_ _ | with_reducible refine bl_call ?_ (by assumption) | (focus (with_reducible refine Below.setCell ?_ ?_ _; rotate_left; focus (first | omega | (simp <;> omega)))) | fail)))).mono ?_; rintro e w1 ⟨rfl, hb1⟩; obtain ⟨hc1, hf1⟩ := bcell hb1; have hz1 := hb1.size; (try simp at hz1); have q12 : w.heap.size + 1 + 1 < w1.heap.size := (by omega); have q11 : w.heap.size + 1 < w1.heap.size := (by omega); have q10 : w.heap.size < w1.heap.size := (by omega))
          | (go_at_call 28; refine (unhide hio _).mono ?_; rintro e w2 ⟨rfl, hb2⟩; obtain ⟨hc2, hf2⟩ := bcell hb2; have hz2 := hb2.size; (try simp at hz2); have q22 : w.heap.size + 1 + 1 < w2.heap.size := (by omega); have q21 : w.heap.size + 1 < w2.heap.size := (by omega); have q20 : w.heap.size < w2.heap.size := (by omega))
          | (go_at_call 33; refine (unhide hcon _ (by (repeat (first | with_reducible exact Below.refl _ _ | with_reducible assumption | with_reducible refine Below.drew ?_ | with_reducible refine bl_alloc ?_ _ | with_reducible refine bl_call ?_ (by assumption) | (focus (with_reducible refine Below.setCell ?_ ?_ _; rotate_left; focus (first | omega | (simp <;> omega)))) | fail))) (by (repeat (first | with_reducible assumption | (focus (with_reducible refine Blk.new ?_; focus (simp <;> fail))) | with_reducible refine Blk.set3 (a := .slice none 0 0) (b := .slice none 0 0) (c := .int .i64 0) ?_ | with_reducible refine Blk.alloc ?_ _ | with_reducible refine Blk.drew ?_ | (focus (with_reducible refine Blk.far ?_ ?_ _; rotate_left; focus (first | omega | (simp <;> omega)))) | (focus (with_reducible refine Blk.below ?_ hb1 ?_; rotate_left; focus (first | omega | (simp <;> omega)))) | (focus (with_reducible refine Blk.below ?_ hb2 ?_; rotate_left; focus (first | omega | (simp <;> omega)))) | (focus (with_reducible refine Blk.below ?_ hb3 ?_; rotate_left; focus (first | omega | (simp <;> omega)))) | (focus (with_reducible refine Blk.below ?_ hb4 ?_; rotate_left; focus (first | omega | (simp <;> omega)))) | (focus (with_reducible refine Blk.below ?_ hb5 ?_; rotate_left; focus (first | omega | (simp <;> omega)))) | (focus (with_reducible refine Blk.below ?_ hb6 ?_; rotate_left; focus (first | omega | (simp <;> omega)))) | fail)))).mono ?_; rintro e w3 ⟨rfl, hb3⟩; obtain ⟨hc3, hf3⟩ := bcell hb3; have hz3 := hb3.size; (try simp at hz3); have q32 : w.heap.size + 1 + 1 < w3.heap.size := (by omega); have q31 : w.heap.size + 1 < w3.heap.size := (by omega); have q30 : w.heap.size < w3.heap.size := (by omega)))
        refine ret_xs2 rfl (w.heap.size + 1 + 1) (.int .i64 0) (.slice none 0 0) (.int .i64 5) rfl rfl (Blk.set2 (show Blk _ (w.heap.size + 1 + 1) 24 #[.int .i64 0, .slice none 0 0] by (repeat (first | with_reducible assumption | (focus (with_reducible refine Blk.new ?_; focus (simp <;> fail))) | with_reducible refine Blk.set3 (a := .slice none 0 0) (b := .slice none 0 0) (c := .int .i64 0) ?_ | with_reducible refine Blk.alloc ?_ _ | with_reducible refine Blk.drew ?_ | (focus (with_reducible refine Blk.far ?_ ?_ _; rotate_left; focus (first | omega | (simp <;> omega)))) | (focus (with_reducible refine Blk.below ?_ hb1 ?_; rotate_left; focus (first | omega | (simp <;> omega)))) | (focus (with_reducible refine Blk.below ?_ hb2 ?_; rotate_left; focus (first | omega | (simp <;> omega)))) | (focus (with_reducible refine Blk.below ?_ hb3 ?_; rotate_left; focus (first | omega | (simp <;> omega)))) | (focus (with_reducible refine Blk.below ?_ hb4 ?_; rotate_left; focus (first | omega | (simp <;> omega)))) | (focus (with_reducible refine Blk.below ?_ hb5 ?_; rotate_left; focus (first | omega | (simp <;> omega)))) | (focus (with_reducible refine Blk.below ?_ hb6 ?_; rotate_left; focus (first | omega | (simp <;> omega)))) | fail)))) rfl ⟨none, 0, noX, 5, rfl, unhide hout, noX_xs _ _ _, by (repeat (first | with_reducible exact Below.refl _ _ | with_reducible assumption | with_reducible refine Below.drew ?_ | with_reducible refine bl_alloc ?_ _ | with_reducible refine bl_call ?_ (by assumption) | (focus (with_reducible refine Below.setCell ?_ ?_ _; rotate_left; focus (first | omega | (simp <;> omega)))) | fail))⟩
end Go.Proofs.Yteokimebfbnlkaa
