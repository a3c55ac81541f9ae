import Derived.Test.YteokimebfbnlkaaC4
namespace Go.Proofs.Yteokimebfbnlkaa
open Go.RowKit

set_option maxRecDepth 100000 in
set_option maxHeartbeats 2000000 in
theorem does_gate (lo lo' : Nat) (v vo : Value) (x o : Xs) (n m : Int) (s : Ex) (w : World) (h : XsR lo w.heap.size w v x) (ho : XsR lo' w.heap.size w vo o) (fx fo : Bool)
    (hx : decide ((x.size ≤ 100 ∨ 8192 < x.size) ∧ x.free.length ≤ 60) = fx) (hy : decide ((o.size ≤ 100 ∨ 8192 < o.size) ∧ o.free.length ≤ 60) = fo) (hg : fx = false ∨ fo = false ∨ (200 < m ∧ m ≤ 8192)) :
    Calls Try.prog 3 #[v, vo, .int .i64 n, exV s, .int .i64 m] w fun e w' => e = .returned (.bool true) ∧ Below w.heap.size w w' := by
  have hF := fun W (hb : Below w.heap.size w W) => few_any v x lo W (h.grow hb)
  have hF' := fun W (hb : Below w.heap.size w W) => few_any vo o lo' W (ho.grow hb)
  rw [hx] at hF
  rw [hy] at hF'
  obtain ⟨bb, rfl, hb⟩ := h
  obtain ⟨bo, rfl, hbo⟩ := ho
  obtain ⟨sa, sl⟩ := s
  unfold exV at *
  clear hb hbo hx hy
  replace hF := hide hF; replace hF' := hide hF'
  go_enter Try.func3, Try.ntmps3
  obtain ⟨w0, hw0⟩ : ∃ w0, w0 = ((w.alloc (.cells #[.int .i64 x.size, bb] 24)).alloc (.cells #[.int .i64 o.size, bo] 24)).alloc (.cells #[.int .i64 sa, .int .i64 sl] 26) := ⟨_, rfl⟩
  have KX : Blk w0 w.heap.size 24 #[.int .i64 x.size, bb] := by rw [hw0]; exact ((Blk.new rfl).alloc _).alloc _
  have KO : Blk w0 (w.heap.size + 1) 24 #[.int .i64 o.size, bo] := by rw [hw0]; exact (Blk.new (by simp)).alloc _
  have B0 : Below w.heap.size w w0 := by rw [hw0]; (repeat (first | with_reducible exact Below.refl _ _ | with_reducible assumption | with_reducible refine Below.drew ?_ | with_reducible refine bl_alloc ?_ _ | with_reducible refine bl_call ?_ (by assumption) | (focus (with_reducible refine Below.setCell ?_ ?_ _; rotate_left; focus (first | omega | (simp <;> omega)))) | fail))
  replace KX := hide KX; replace KO := hide KO; replace B0 := hide B0
  cases fx with
  | false =>
    clear hg
    go_wp2_with (first
      | (go_at_call 9; rw [← hw0]; refine (live_any _).mono ?_; rintro e w1 ⟨rfl, hb1⟩
         have K1 := (unhide KX).below hb1 (unhide KX).lt
         have x0 := K1.cell 0; have x1 := K1.cell 1
         simp at x0 x1
         have B1 := bl_call (unhide B0) hb1
         replace B1 := hide B1
         clear hb1 K1)
      | (go_at_call 10; refine (unhide hF _ (unhide B1)).mono ?_; rintro e w2 ⟨rfl, hb2⟩
         have B2 := bl_call (unhide B1) hb2
         replace B2 := hide B2
         clear hb2)
      | fail)
    go_ret
    exact ⟨rfl, unhide B2⟩
  | true =>
    have tok1 : True := trivial
    cases fo with
    | false =>
      clear hg
      go_wp2_with (first
        | (go_at_call 9; rw [← hw0]; refine (live_any _).mono ?_; rintro e w1 ⟨rfl, hb1⟩
           have K1 := (unhide KX).below hb1 (unhide KX).lt
           have K2 := (unhide KO).below hb1 (unhide KO).lt
           have x0 := K1.cell 0; have x1 := K1.cell 1
           simp at x0 x1
           have B1 := bl_call (unhide B0) hb1
           replace B1 := hide B1; replace K2 := hide K2
           clear hb1 K1)
        | (go_at_call 10; have _t := tok1; refine (unhide hF _ (unhide B1)).mono ?_; clear tok1 _t; rintro e w2 ⟨rfl, hb2⟩
           have K3 := (unhide K2).below hb2 (unhide K2).lt
           have o0 := K3.cell 0; have o1 := K3.cell 1
           simp at o0 o1
           have B2 := bl_call (unhide B1) hb2
           replace B2 := hide B2
           clear hb2 K3)
        | (go_at_call 10; refine (unhide hF' _ (unhide B2)).mono ?_; rintro e w3 ⟨rfl, hb3⟩
           have B3 := bl_call (unhide B2) hb3
           replace B3 := hide B3
           clear hb3)
        | fail)
      go_ret
      exact ⟨rfl, unhide B3⟩
    | true =>
      obtain ⟨b4, b5⟩ : 200 < m ∧ m ≤ 8192 := by simpa using hg
      clear hg
      go_wp2_with (first
        | (go_at_call 9; rw [← hw0]; refine (live_any _).mono ?_; rintro e w1 ⟨rfl, hb1⟩
           have K1 := (unhide KX).below hb1 (unhide KX).lt
           have K2 := (unhide KO).below hb1 (unhide KO).lt
           have x0 := K1.cell 0; have x1 := K1.cell 1
           simp at x0 x1
           have B1 := bl_call (unhide B0) hb1
           replace B1 := hide B1; replace K2 := hide K2
           clear hb1 K1)
        | (go_at_call 10; have _t := tok1; refine (unhide hF _ (unhide B1)).mono ?_; clear tok1 _t; rintro e w2 ⟨rfl, hb2⟩
           have K3 := (unhide K2).below hb2 (unhide K2).lt
           have o0 := K3.cell 0; have o1 := K3.cell 1
           simp at o0 o1
           have B2 := bl_call (unhide B1) hb2
           replace B2 := hide B2
           clear hb2 K3)
        | (go_at_call 10; refine (unhide hF' _ (unhide B2)).mono ?_; rintro e w3 ⟨rfl, hb3⟩
           have B3 := bl_call (unhide B2) hb3
           replace B3 := hide B3
           clear hb3)
        | fail)
      go_ret
      exact ⟨rfl, unhide B3⟩
end Go.Proofs.Yteokimebfbnlkaa
