import Derived.Test.YteokimebfbnlkaaA6
namespace Go.Proofs.Yteokimebfbnlkaa
open Go.RowKit

/-- The sectors, with the first J of an extent free or not. -/
def setB (f : Nat → Bool) (s : Ex) (b : Bool) (J : Int) (u : Nat) : Bool := if inB s J u then b else f u

set_option maxRecDepth 100000 in
set_option maxHeartbeats 4000000 in
theorem set_any (lo n : Nat) (v : Value) (x : Xs) (s : Ex) (b : Bool) (w : World) (h : XsR lo w.heap.size w v x) (hok : okX x = true) (hn : x.size = (n : Int)) (hs : 0 ≤ s.at_ ∧ 1 ≤ s.len ∧ s.at_ + s.len ≤ n) :
    Calls Try.prog 32 #[v, exV s, .bool b] w fun e w' => ∃ A c, ∃ y : Xs, ∃ r : Bool, e = .returned (.tuple #[.agg #[.int .i64 y.size, .slice A y.free.length c], .bool r]) ∧
      ((r = true ∧ (∀ t, inB s s.len t = true → freeB x.free t = !b) ∧ y = ⟨n, runs (setB (freeB x.free) s b s.len) n⟩) ∨ (r = false ∧ y = ⟨0, []⟩ ∧ ∃ t, inB s s.len t = true ∧ freeB x.free t = b)) ∧
      w'.ownsRow w.heap.size 26 2 (.slice A y.free.length c) y.free.length (y.free.flatMap exv) ∧ Below w.heap.size w w' := by
  have hn2 : n ≤ 8192 := by
    simp only [okX, Bool.and_eq_true, decide_eq_true_eq] at hok
    omega
  have hbits := fun W (hW : Below w.heap.size w W) => refbits_any lo n v x W (h.grow hW) hok hn
  obtain ⟨bb, rfl, hb⟩ := h
  obtain ⟨A, c, rfl, h1, h2, h9⟩ := hb.open
  clear h9
  obtain ⟨sa, sl⟩ := s
  unfold exV
  try dsimp only at hs ⊢
  obtain ⟨hs0, hs1, hs2⟩ := hs
  rw [hn] at hbits ⊢
  clear hok hn hb
  replace hbits := hide hbits
  generalize hfL : freeB x.free = F at *
  replace hfL := hide hfL
  generalize x.free.length = N at *
  go_enter Try.func32, Try.ntmps32
  obtain ⟨w3, hw3⟩ : ∃ w3, w3 = ((w.alloc (.cells #[.int .i64 n, .slice A N c] 24)).alloc (.cells #[.int .i64 sa, .int .i64 sl] 26)).alloc (.cells #[.int .i64 0, .slice none 0 0] 24) := ⟨_, rfl⟩
  have B3 : Below w.heap.size w w3 := by rw [hw3]; (repeat (first | with_reducible exact Below.refl _ _ | with_reducible assumption | with_reducible refine Below.drew ?_ | with_reducible refine bl_alloc ?_ _ | with_reducible refine bl_call ?_ (by assumption) | (focus (with_reducible refine Below.setCell ?_ ?_ _; rotate_left; focus (first | omega | (simp <;> omega)))) | fail))
  have S3 : Blk w3 (w.heap.size + 1) 26 #[.int .i64 sa, .int .i64 sl] := by rw [hw3]; exact (Blk.new (by simp)).alloc _
  have R3 : Blk w3 (w.heap.size + 1 + 1) 24 #[.int .i64 0, .slice none 0 0] := by rw [hw3]; exact Blk.new (by simp)
  have hc3 := unhide hbits w3 B3
  replace hc3 := hide hc3; replace B3 := hide B3; replace S3 := hide S3; replace R3 := hide R3; replace hw3 := hide hw3
  go_wp2_with (first
    | (go_at_call 42; rw [← unhide hw3]; refine (unhide hc3).mono ?_; rintro e w4 ⟨gO, hgO, rfl, M0, hb4⟩
       have S4 := (unhide S3).below hb4 (unhide S3).lt
       have R4 := (unhide R3).below hb4 (unhide R3).lt
       have B4 := bl_call (unhide B3) hb4
       have q0 := S4.cell 0; have q1 := S4.cell 1; have y4 := S4.lt
       simp at q0 q1
       have hgq : w.heap.size + 1 + 1 < gO := Nat.lt_of_lt_of_le (unhide R3).lt hgO
       replace S4 := hide S4; replace R4 := hide R4; replace B4 := hide B4; replace M0 := hide M0; clear hb4 hgO)
    | fail)
  clear q0 q1 y4 S3 R3 B3 hc3 hbits
  have hg12 : w.heap.size + 1 < gO := by omega
  have hg0 : w.heap.size ≤ gO := by omega
  have hgg : w.heap.size ≤ w.heap.size + 1 + 1 := by omega
  generalize w.heap.size + 1 + 1 = g2 at *
  generalize w.heap.size + 1 = g1 at *
  rw [show bitC n F = bitC n (setB F ⟨sa, sl⟩ b 0) from bitC_congr fun t _ => by rw [setB, if_neg]; simp [inB] <;> omega] at M0
  have N0 : Hid (∀ t, inB ⟨sa, sl⟩ 0 t = true → F t = !b) := hide fun t ht => by exfalso; simp only [inB, Bool.and_eq_true, decide_eq_true_eq] at ht; omega
  go_loopw [14] (fun i wy => ∃ (J : Int), 0 ≤ J ∧ J ≤ sl ∧ i = .int .i64 J ∧ Hid (∀ t, inB ⟨sa, sl⟩ J t = true → F t = !b) ∧ Hid (Blk wy gO 4 (bitC n (setB F ⟨sa, sl⟩ b J)).toArray) ∧ Hid (Blk wy g1 26 #[.int .i64 sa, .int .i64 sl]) ∧ Hid (Blk wy g2 24 #[.int .i64 0, .slice none 0 0]) ∧ Hid (Below w.heap.size w wy)) (fun i _ => sl.toNat - (intOf i).toNat)
  case atStart => exact ⟨0, by omega, by omega, rfl, N0, M0, S4, R4, B4⟩
  case round =>
    clear M0 S4 R4 B4 N0
    obtain ⟨J, hJ0, hJ1, rfl, hN, I1, I2, I3, I4⟩ := hrel
    generalize wr = wy at *
    have r0 := (unhide I2).cell 0
    have r1 := (unhide I2).cell 1
    simp at r0 r1
    have y1 : g1 < wy.heap.size := (unhide I2).lt
    have yO : gO < wy.heap.size := (unhide I1).lt
    by_cases hJ : J < sl
    · obtain ⟨t, ht⟩ : ∃ t : Nat, sa + J = (t : Int) := ⟨(sa + J).toNat, by omega⟩
      have htn : t < n := by omega
      have r2 : wy.cell? ⟨gO, t, none⟩ = some (.bool (F t)) := by
        rw [(unhide I1).cell]
        have := bitC_get n (setB F ⟨sa, sl⟩ b J) t htn
        rw [show setB F ⟨sa, sl⟩ b J t = F t by rw [setB, if_neg]; simp [inB]; omega] at this
        simpa using this
      have r3 := (unhide I1).frozen t
      have i1 : IntKind.i64.wrap (sa + J) = (t : Int) := by rw [ht]; exact IntWalk.i64_in _ (by omega)
      have i2 : IntKind.i64.wrap (J + 1) = J + 1 := IntWalk.i64_in _ (by omega)
      have d0 : (t : Int) < (n : Int) := by omega
      have d1 : (0 : Int) ≤ (t : Int) := by omega
      have hin : inB ⟨sa, sl⟩ sl t = true := by simp [inB]; omega
      have hnx : F t = (!b) → ∀ u, inB ⟨sa, sl⟩ (J + 1) u = true → F u = !b := fun e u hu => by
        by_cases h : u = t
        · subst h; exact e
        · exact unhide hN u (by simp [inB] at hu ⊢; omega)
      have hq : (F t = b) ∨ (F t = !b) := by cases F t <;> cases b <;> simp
      replace hin := hide hin; replace hnx := hide hnx
      have I1' := (unhide I1).set t (.bool b)
      rw [List.setIfInBounds_toArray, bitC_set, show bitC n (fun u => if u = t then b else setB F ⟨sa, sl⟩ b J u) = bitC n (setB F ⟨sa, sl⟩ b (J + 1)) from bitC_congr fun u _ => by
        by_cases h : u = t
        · subst h; rw [if_pos rfl, setB, if_pos]; simp [inB]; omega
        · rw [if_neg h]
          have : inB ⟨sa, sl⟩ J u = inB ⟨sa, sl⟩ (J + 1) u := by rw [Bool.eq_iff_iff]; simp [inB]; omega
          simp only [setB, this]] at I1'
      have I2' := (unhide I2).far (p := ⟨gO, t, none⟩) (by show g1 ≠ gO; omega) (.bool b)
      have I3' := (unhide I3).far (p := ⟨gO, t, none⟩) (by show g2 ≠ gO; omega) (.bool b)
      have I4' := (unhide I4).setCell (p := ⟨gO, t, none⟩) hg0 (.bool b)
      replace I1' := hide I1'; replace I2' := hide I2'; replace I3' := hide I3'; replace I4' := hide I4'
      generalize hF : F t = z at *
      replace hF := hide hF
      rcases hq with rfl | rfl
      · have z0 := (unhide I3).cell 0
        have z1 := (unhide I3).cell 1
        have f0 := (unhide I3).frozen 0
        have f1 := (unhide I3).frozen 1
        have y2 := (unhide I3).lt
        simp at z0 z1
        have hb0 := unhide I4
        go_wp2_with fail
        exact ret_xs2 rfl g2 (.int .i64 0) (.slice none 0 0) (.bool false) rfl rfl (Blk.set2 (unhide I3)) rfl ⟨none, 0, ⟨0, []⟩, false, rfl, .inr ⟨rfl, rfl, t, unhide hin, unhide hF⟩, World.ownsRow_nil _ _ _ _, by (repeat (first | with_reducible exact Below.refl _ _ | with_reducible assumption | with_reducible refine Below.drew ?_ | with_reducible refine bl_alloc ?_ _ | with_reducible refine bl_call ?_ (by assumption) | (focus (with_reducible refine Below.setCell ?_ ?_ _; rotate_left; focus (first | omega | (simp <;> omega)))) | fail))⟩
      · have hN' := unhide hnx rfl
        replace hN' := hide hN'
        clear I1 I2 I3 I4 ht hnx
        go_wp2_with fail
        clear i1 i2
        go_roundw
        case rel => exact ⟨J + 1, by omega, by omega, rfl, hN', I1', I2', I3', I4'⟩
        case measure => simp [intOf]; omega
    · obtain rfl : J = sl := by omega
      have hof := of_any n gO (setB F ⟨sa, J⟩ b J) wy (unhide I1) hn2
      replace hof := hide hof
      have hMB := unhide I4
      have hwx : w.heap.size ≤ wy.heap.size := hMB.size
      have hwy : g2 < wy.heap.size := (unhide I3).lt
      clear I1
      go_wp2_with (first
        | (go_at_call 41; refine (unhide hof).mono ?_; rintro e w1 ⟨A1, c1, rfl, o1, hb1⟩
           have K2 := (unhide I3).below hb1 hwy
           have s0 := K2.cell 0
           have s1 := K2.cell 1
           have f0 := K2.frozen 0
           have f1 := K2.frozen 1
           have y0 := K2.lt
           simp at s0 s1
           have o2 := own_far (own_far o1 K2 (by decide) 0 (.int .i64 n)) (K2.set 0 (.int .i64 n)) (by decide) 1 (.slice A1 (runs (setB F ⟨sa, J⟩ b J) n).length c1)
           have B2 : Below w.heap.size w w1 := bl_call hMB hb1
           replace o2 := hide o2; replace K2 := hide K2; replace B2 := hide B2; clear o1 hb1)
        | fail)
      have B3 := unhide B2
      refine ret_xs2 rfl g2 (.int .i64 n) (.slice A1 (runs (setB F ⟨sa, J⟩ b J) n).length c1) (.bool true) rfl rfl (Blk.set2 (unhide K2)) rfl ⟨A1, c1, ⟨n, runs (setB F ⟨sa, J⟩ b J) n⟩, true, rfl, .inl ⟨rfl, unhide hN, rfl⟩, ownsRow_mono (unhide o2) hwx, by (repeat (first | with_reducible exact Below.refl _ _ | with_reducible assumption | with_reducible refine Below.drew ?_ | with_reducible refine bl_alloc ?_ _ | with_reducible refine bl_call ?_ (by assumption) | (focus (with_reducible refine Below.setCell ?_ ?_ _; rotate_left; focus (first | omega | (simp <;> omega)))) | fail))⟩
end Go.Proofs.Yteokimebfbnlkaa
