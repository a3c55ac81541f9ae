import Derived.Test.YtcgfcdbchcehmaaS60
namespace Go.Proofs.Ytcgfcdbchcehmaa
open Go.RowKit

set_option maxRecDepth 100000 in
set_option maxHeartbeats 1000000 in
theorem does_gate (lo lo' : Nat) (v vo : Value) (d o : Dk) (at_ sec deeds : Int) (Ab : Option Addr) (nb cb : Nat) (w : World) (h : Dsk lo w.heap.size w v d) (ho : Dsk lo' w.heap.size w vo o) (fx fo : Bool)
    (hx : fewB d = fx) (hy : fewB o = fo) (hg : fx = false ∨ fo = false ∨ 100 < (nb : Int) ∨ (200 < sec ∧ sec ≤ 8192)) :
    Calls Try.prog 3 #[v, vo, .int .i64 at_, .slice Ab nb cb, .int .i64 sec, .int .i64 deeds] w fun e w' => e = .returned (.bool true) ∧ Below w.heap.size w w' := by
  have hF := fun W (hb : Below w.heap.size w W) => few_any lo v d W (h.grow hb)
  have hF' := fun W (hb : Below w.heap.size w W) => few_any lo' vo o W (ho.grow hb)
  rw [hx] at hF
  rw [hy] at hF'
  obtain ⟨A1, c1, A2, c2, rfl⟩ := h.form
  obtain ⟨A3, c3, A4, c4, rfl⟩ := ho.form
  replace h := hide h; replace ho := hide ho
  clear hx hy
  replace hF := hide hF; replace hF' := hide hF'
  go_enter Try.func3, Try.ntmps3
  obtain ⟨w0, hw0⟩ : ∃ w0, w0 = (w.alloc (.cells #[.slice A1 d.dry.length c1, .slice A2 d.wet.length c2, .int .i64 d.left] 25)).alloc (.cells #[.slice A3 o.dry.length c3, .slice A4 o.wet.length c4, .int .i64 o.left] 25) := ⟨_, rfl⟩
  have X0 : Fx w0 [(w.heap.size, 25, #[.slice A1 d.dry.length c1, .slice A2 d.wet.length c2, .int .i64 d.left]), (w.heap.size + 1, 25, #[.slice A3 o.dry.length c3, .slice A4 o.wet.length c4, .int .i64 o.left])] [] [] [] [] := by
    rw [hw0]
    exact (((Fx.nil _).alloc _).alloc _).addB ((Blk.new rfl).alloc _) |>.addB (Blk.new (by simp))
  have B0 : Below w.heap.size w w0 := by rw [hw0]; (repeat (first | with_reducible exact Below.refl _ _ | with_reducible assumption | with_reducible refine Below.drew ?_ | with_reducible refine bl_alloc ?_ _ | with_reducible refine bl_call ?_ (by assumption) | (focus (with_reducible refine Below.setCell ?_ ?_ _; rotate_left; focus (first | omega | (simp <;> omega)))) | fail))
  replace X0 := hide X0; replace B0 := hide B0
  clear h ho
  have tok1 : True := trivial
  cases fx with
  | false =>
      clear hg
      go_wp2_with (first
        | (go_at_call 9; rw [← hw0]; refine (live_any _).mono ?_; rintro e w1 ⟨rfl, hb1⟩
           have X1 := (unhide X0).below hb1
           have B1 := bl_call (unhide B0) hb1
           have x0 := (X1.get 0 rfl).cell 0; have x1 := (X1.get 0 rfl).cell 1; have x2 := (X1.get 0 rfl).cell 2
           have o0 := (X1.get 1 rfl).cell 0; have o1 := (X1.get 1 rfl).cell 1; have o2 := (X1.get 1 rfl).cell 2
           simp at x0 x1 x2 o0 o1 o2
           replace X1 := hide X1; replace B1 := hide B1
           clear hb1)
        | (go_at_call 10; have _t := tok1; refine (unhide hF _ (unhide B1)).mono ?_; clear tok1 _t; rintro e w2 ⟨rfl, hb2⟩
           have X2 := (unhide X1).below hb2
           have B2 := bl_call (unhide B1) hb2
           have o0 := (X2.get 1 rfl).cell 0; have o1 := (X2.get 1 rfl).cell 1; have o2 := (X2.get 1 rfl).cell 2
           simp at o0 o1 o2
           replace X2 := hide X2; replace B2 := hide B2
           clear hb2)
        | fail)
      go_ret
      exact ⟨rfl, unhide B2⟩
  | true =>
    cases fo with
    | false =>
      clear hg
      go_wp2_with (first
        | (go_at_call 9; rw [← hw0]; refine (live_any _).mono ?_; rintro e w1 ⟨rfl, hb1⟩
           have X1 := (unhide X0).below hb1
           have B1 := bl_call (unhide B0) hb1
           have x0 := (X1.get 0 rfl).cell 0; have x1 := (X1.get 0 rfl).cell 1; have x2 := (X1.get 0 rfl).cell 2
           have o0 := (X1.get 1 rfl).cell 0; have o1 := (X1.get 1 rfl).cell 1; have o2 := (X1.get 1 rfl).cell 2
           simp at x0 x1 x2 o0 o1 o2
           replace X1 := hide X1; replace B1 := hide B1
           clear hb1)
        | (go_at_call 10; have _t := tok1; refine (unhide hF _ (unhide B1)).mono ?_; clear tok1 _t; rintro e w2 ⟨rfl, hb2⟩
           have X2 := (unhide X1).below hb2
           have B2 := bl_call (unhide B1) hb2
           have o0 := (X2.get 1 rfl).cell 0; have o1 := (X2.get 1 rfl).cell 1; have o2 := (X2.get 1 rfl).cell 2
           simp at o0 o1 o2
           replace X2 := hide X2; replace B2 := hide B2
           clear hb2)
        | (go_at_call 10; refine (unhide hF' _ (unhide B2)).mono ?_; rintro e w3 ⟨rfl, hb3⟩
           have B3 := bl_call (unhide B2) hb3
           replace B3 := hide B3
           clear hb3)
        | fail)
      go_ret
      exact ⟨rfl, unhide B3⟩
    | true =>
      rcases (show 100 < (nb : Int) ∨ (¬ 100 < (nb : Int) ∧ 200 < sec ∧ sec ≤ 8192) by rcases hg with h | h | h | h; cases h; cases h; exact .inl h; by_cases h100 : 100 < (nb : Int); exact .inl h100; exact .inr ⟨h100, h⟩) with h1 | ⟨h1, h2, h3⟩
      · clear hg
        go_wp2_with (first
          | (go_at_call 9; rw [← hw0]; refine (live_any _).mono ?_; rintro e w1 ⟨rfl, hb1⟩
             have X1 := (unhide X0).below hb1
             have B1 := bl_call (unhide B0) hb1
             have x0 := (X1.get 0 rfl).cell 0; have x1 := (X1.get 0 rfl).cell 1; have x2 := (X1.get 0 rfl).cell 2
             have o0 := (X1.get 1 rfl).cell 0; have o1 := (X1.get 1 rfl).cell 1; have o2 := (X1.get 1 rfl).cell 2
             simp at x0 x1 x2 o0 o1 o2
             replace X1 := hide X1; replace B1 := hide B1
             clear hb1)
          | (go_at_call 10; have _t := tok1; refine (unhide hF _ (unhide B1)).mono ?_; clear tok1 _t; rintro e w2 ⟨rfl, hb2⟩
             have X2 := (unhide X1).below hb2
             have B2 := bl_call (unhide B1) hb2
             have o0 := (X2.get 1 rfl).cell 0; have o1 := (X2.get 1 rfl).cell 1; have o2 := (X2.get 1 rfl).cell 2
             simp at o0 o1 o2
             replace X2 := hide X2; replace B2 := hide B2
             clear hb2)
          | (go_at_call 10; refine (unhide hF' _ (unhide B2)).mono ?_; rintro e w3 ⟨rfl, hb3⟩
             have B3 := bl_call (unhide B2) hb3
             replace B3 := hide B3
             clear hb3)
          | fail)
        go_ret
        exact ⟨rfl, unhide B3⟩
      · clear hg
        go_wp2_with (first
          | (go_at_call 9; rw [← hw0]; refine (live_any _).mono ?_; rintro e w1 ⟨rfl, hb1⟩
             have X1 := (unhide X0).below hb1
             have B1 := bl_call (unhide B0) hb1
             have x0 := (X1.get 0 rfl).cell 0; have x1 := (X1.get 0 rfl).cell 1; have x2 := (X1.get 0 rfl).cell 2
             have o0 := (X1.get 1 rfl).cell 0; have o1 := (X1.get 1 rfl).cell 1; have o2 := (X1.get 1 rfl).cell 2
             simp at x0 x1 x2 o0 o1 o2
             replace X1 := hide X1; replace B1 := hide B1
             clear hb1)
          | (go_at_call 10; have _t := tok1; refine (unhide hF _ (unhide B1)).mono ?_; clear tok1 _t; rintro e w2 ⟨rfl, hb2⟩
             have X2 := (unhide X1).below hb2
             have B2 := bl_call (unhide B1) hb2
             have o0 := (X2.get 1 rfl).cell 0; have o1 := (X2.get 1 rfl).cell 1; have o2 := (X2.get 1 rfl).cell 2
             simp at o0 o1 o2
             replace X2 := hide X2; replace B2 := hide B2
             clear hb2)
          | (go_at_call 10; refine (unhide hF' _ (unhide B2)).mono ?_; rintro e w3 ⟨rfl, hb3⟩
             have B3 := bl_call (unhide B2) hb3
             replace B3 := hide B3
             clear hb3)
          | fail)
        go_ret
        exact ⟨rfl, unhide B3⟩
end Go.Proofs.Ytcgfcdbchcehmaa
