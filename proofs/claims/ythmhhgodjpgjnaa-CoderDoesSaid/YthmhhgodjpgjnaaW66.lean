import Derived.Test.YthmhhgodjpgjnaaW62
namespace Go.Proofs.Ythmhhgodjpgjnaa
open Go.RowKit

theorem encT_ok8 (n : Int) (l : List Bit) : okB (encT n l) := by
  by_cases h : encE n l = 0
  · exact encT_okB h
  · have : encT n l = [] := by unfold encT; rw [if_neg h]
    rw [this]; intro x hx; cases hx

set_option maxHeartbeats 1000000 in
theorem does_gate (n : Int) (v v' v'' : Value) (l : List Bit) (t a : List Int) (lo lo' lo'' : Nat) (w : World) (h1 : Bts lo w.heap.size w v l) (h2 : Os lo' w.heap.size w v' t) (h3 : Is lo'' w.heap.size w v'' a) (hg : 300 < l.length ∨ 500 < t.length ∨ 300 < a.length ∨ (60 < n ∧ n ≤ 1024)) :
    Calls Try.prog 3 #[.int .i64 n, v, v', v''] w fun e w' => e = .returned (.bool true) ∧ Below w.heap.size w w' := by
  obtain ⟨A, c, rfl, x1, x2, _⟩ := h1.open
  obtain ⟨B, d, rfl, y1, y2, _⟩ := Os.open h2
  obtain ⟨C, f, rfl, z1, z2, _⟩ := h3.open
  clear h1 h2 h3
  by_cases a0 : 300 < l.length
  · have b0 : (300 : Int) < (l.length : Int) := by omega
    clear hg a0
    go_enter Try.func3, Try.ntmps3
    go_wp2_with (first
      | (go_at_call 9; refine (live_any _).mono ?_; rintro e w1 ⟨rfl, hb1⟩)
      | fail)
    go_ret
    exact ⟨rfl, by (repeat (first | with_reducible exact Below.refl _ _ | with_reducible assumption | with_reducible refine Below.drew ?_ | with_reducible refine bl_alloc ?_ _ | with_reducible refine bl_call ?_ (by assumption) | (focus (with_reducible refine Below.setCell ?_ ?_ _; rotate_left; focus (first | omega | (simp <;> omega)))) | fail))⟩
  · have b0 : ¬ (300 : Int) < (l.length : Int) := by omega
    by_cases a1 : 500 < t.length
    · have b1 : (500 : Int) < (t.length : Int) := by omega
      clear hg a1
      go_enter Try.func3, Try.ntmps3
      go_wp2_with (first
        | (go_at_call 9; refine (live_any _).mono ?_; rintro e w1 ⟨rfl, hb1⟩)
        | fail)
      go_ret
      exact ⟨rfl, by (repeat (first | with_reducible exact Below.refl _ _ | with_reducible assumption | with_reducible refine Below.drew ?_ | with_reducible refine bl_alloc ?_ _ | with_reducible refine bl_call ?_ (by assumption) | (focus (with_reducible refine Below.setCell ?_ ?_ _; rotate_left; focus (first | omega | (simp <;> omega)))) | fail))⟩
    · have b1 : ¬ (500 : Int) < (t.length : Int) := by omega
      by_cases a2 : 300 < a.length
      · have b2 : (300 : Int) < (a.length : Int) := by omega
        clear hg a2
        go_enter Try.func3, Try.ntmps3
        go_wp2_with (first
          | (go_at_call 9; refine (live_any _).mono ?_; rintro e w1 ⟨rfl, hb1⟩)
          | fail)
        go_ret
        exact ⟨rfl, by (repeat (first | with_reducible exact Below.refl _ _ | with_reducible assumption | with_reducible refine Below.drew ?_ | with_reducible refine bl_alloc ?_ _ | with_reducible refine bl_call ?_ (by assumption) | (focus (with_reducible refine Below.setCell ?_ ?_ _; rotate_left; focus (first | omega | (simp <;> omega)))) | fail))⟩
      · have b2 : ¬ (300 : Int) < (a.length : Int) := by omega
        have b3 : 60 < n := by omega
        have b4 : n ≤ 1024 := by omega
        clear hg
        go_enter Try.func3, Try.ntmps3
        go_wp2_with (first
          | (go_at_call 9; refine (live_any _).mono ?_; rintro e w1 ⟨rfl, hb1⟩)
          | fail)
        go_ret
        exact ⟨rfl, by (repeat (first | with_reducible exact Below.refl _ _ | with_reducible assumption | with_reducible refine Below.drew ?_ | with_reducible refine bl_alloc ?_ _ | with_reducible refine bl_call ?_ (by assumption) | (focus (with_reducible refine Below.setCell ?_ ?_ _; rotate_left; focus (first | omega | (simp <;> omega)))) | fail))⟩

set_option maxHeartbeats 2000000 in
theorem does_main (n : Int) (v v' v'' : Value) (l : List Bit) (t a : List Int) (lo lo' lo'' : Nat) (w : World) (h1 : Bts lo w.heap.size w v l) (h2 : Os lo' w.heap.size w v' t) (h3 : Is lo'' w.heap.size w v'' a) (ht : okB t) (hl : l.length ≤ 300) (hm : t.length ≤ 500) (ha : a.length ≤ 300) (hn : n ≤ 60) :
    Calls Try.prog 3 #[.int .i64 n, v, v', v''] w fun e w' => e = .returned (.bool true) ∧ Below w.heap.size w w' := by
  have hE := fun W (hb : Below w.heap.size w W) => Encode_any n lo v l W (h1.grow hb) (by omega)
  have hF := fun W (hb : Below w.heap.size w W) => refEncode_any n lo v l W (h1.grow hb) (by omega)
  have hD := fun W (hb : Below w.heap.size w W) => Decode_any n lo' lo'' v' v'' t a W (h2.grow hb) (h3.grow hb) ht (by omega) (by omega)
  have hR := fun W (hb : Below w.heap.size w W) => refDecode_any n lo' lo'' v' v'' t a W (h2.grow hb) (h3.grow hb) ht (by omega) (by omega)
  have hC := fun W (hb : Below w.heap.size w W) => Os.convert (h2.grow hb)
  have h8 := encT_ok8 n l
  generalize encT n l = T at *
  generalize encE n l = E at *
  generalize decR n t a = D at *
  obtain ⟨D1, D2, D3⟩ := D
  simp only [] at hD hR
  have hS := fun lo hi lo' hi' v1 v2 W x y => sameBytes_any lo hi lo' hi' v1 v2 T T W x y h8 h8
  have hB := fun lo hi lo' hi' v1 v2 W x y i1 i2 => sameBits_any lo hi lo' hi' v1 v2 D1 D1 W x y i1 i2
  rw [show decide (T = T) = true by simp] at hS
  rw [show decide (D1 = D1) = true by simp] at hB
  obtain ⟨A, c, rfl, x1, x2, _⟩ := h1.open
  obtain ⟨B, d, rfl, y1, y2, _⟩ := Os.open h2
  obtain ⟨C, f, rfl, z1, z2, _⟩ := h3.open
  have b0 : ¬ (300 : Int) < (l.length : Int) := by omega
  have b1 : ¬ (500 : Int) < (t.length : Int) := by omega
  have b2 : ¬ (300 : Int) < (a.length : Int) := by omega
  have b3 : ¬ 60 < n := by omega
  replace hE := hide hE; replace hF := hide hF; replace hD := hide hD; replace hR := hide hR; replace hC := hide hC; replace hS := hide hS; replace hB := hide hB; replace h8 := hide h8
  clear h1 h2 h3 ht hl hm ha
  go_enter Try.func3, Try.ntmps3
  go_wp2_with (first
    | (go_at_call 9; refine (live_any _).mono ?_; rintro e w1 ⟨rfl, hb1⟩
       have cv1 := unhide hC _ hb1
       replace hb1 := hide hb1)
    | (go_at_call 10; refine (unhide hE _ (unhide hb1)).mono ?_; rintro e w2 ⟨A2, c2, rfl, o2, hb2⟩
       have B2 := bl_call (unhide hb1) hb2
       replace B2 := hide B2; replace o2 := hide o2
       clear hb2)
    | (go_at_call 11; refine (unhide hF _ (unhide B2)).mono ?_; rintro e w3 ⟨A3, c3, rfl, o3, hb3⟩
       have B3 := bl_call (unhide B2) hb3
       have p3 := own_below (unhide o2) hb3 (Nat.le_refl _)
       replace B3 := hide B3; replace o3 := hide o3; replace p3 := hide p3
       clear hb3)
    | (go_at_call 12; refine (unhide hD _ (unhide B3)).mono ?_; rintro e w4 ⟨A4, c4, rfl, o4, hb4⟩
       have B4 := bl_call (unhide B3) hb4
       have p4 := own_below (unhide p3) hb4 (Nat.le_refl _)
       have q4 := own_below (unhide o3) hb4 (Nat.le_refl _)
       replace B4 := hide B4; replace o4 := hide o4; replace p4 := hide p4; replace q4 := hide q4
       clear hb4)
    | (go_at_call 13; refine (unhide hR _ (unhide B4)).mono ?_; rintro e w5 ⟨A5, c5, rfl, o5, hb5⟩
       have B5 := bl_call (unhide B4) hb5
       have p5 := own_below (unhide p4) hb5 (Nat.le_refl _)
       have q5 := own_below (unhide q4) hb5 (Nat.le_refl _)
       have r5 := own_below (unhide o4) hb5 (Nat.le_refl _)
       replace B5 := hide B5; replace o5 := hide o5; replace p5 := hide p5; replace q5 := hide q5; replace r5 := hide r5
       clear hb5)
    | (go_at_call 14; refine (unhide hS 0 _ 0 _ _ _ w5 (Os.own (unhide p5)) (Os.own (unhide q5))).mono ?_; rintro e w6 ⟨rfl, rfl⟩)
    | (go_at_call 15; refine (unhide hB 0 _ 0 _ _ _ w5 (Bos.own (unhide r5)) (Bos.own (unhide o5)) (Nat.le_refl _) (Nat.le_refl _)).mono ?_; rintro e w7 ⟨rfl, hb7⟩
       have B7 := bl_call (unhide B5) hb7
       have cv7 := unhide hC _ B7
       replace B7 := hide B7
       clear hb7)
    | fail)
  go_ret
  exact ⟨rfl, unhide B7⟩

set_option maxHeartbeats 2000000 in
theorem does_far (n : Int) (v v' v'' : Value) (l : List Bit) (t a : List Int) (lo lo' lo'' : Nat) (w : World) (h1 : Bts lo w.heap.size w v l) (h2 : Os lo' w.heap.size w v' t) (h3 : Is lo'' w.heap.size w v'' a) (ht : okB t) (hl : l.length ≤ 300) (hm : t.length ≤ 500) (ha : a.length ≤ 300) (hn : 60 < n) (hn' : ¬ n ≤ 1024) :
    Calls Try.prog 3 #[.int .i64 n, v, v', v''] w fun e w' => e = .returned (.bool true) ∧ Below w.heap.size w w' := by
  have hE := fun W (hb : Below w.heap.size w W) => Encode_any n lo v l W (h1.grow hb) (by omega)
  have hF := fun W (hb : Below w.heap.size w W) => refEncode_any n lo v l W (h1.grow hb) (by omega)
  have hD := fun W (hb : Below w.heap.size w W) => Decode_any n lo' lo'' v' v'' t a W (h2.grow hb) (h3.grow hb) ht (by omega) (by omega)
  have hR := fun W (hb : Below w.heap.size w W) => refDecode_any n lo' lo'' v' v'' t a W (h2.grow hb) (h3.grow hb) ht (by omega) (by omega)
  have hC := fun W (hb : Below w.heap.size w W) => Os.convert (h2.grow hb)
  have h8 := encT_ok8 n l
  generalize encT n l = T at *
  generalize encE n l = E at *
  generalize decR n t a = D at *
  obtain ⟨D1, D2, D3⟩ := D
  simp only [] at hD hR
  have hS := fun lo hi lo' hi' v1 v2 W x y => sameBytes_any lo hi lo' hi' v1 v2 T T W x y h8 h8
  have hB := fun lo hi lo' hi' v1 v2 W x y i1 i2 => sameBits_any lo hi lo' hi' v1 v2 D1 D1 W x y i1 i2
  rw [show decide (T = T) = true by simp] at hS
  rw [show decide (D1 = D1) = true by simp] at hB
  obtain ⟨A, c, rfl, x1, x2, _⟩ := h1.open
  obtain ⟨B, d, rfl, y1, y2, _⟩ := Os.open h2
  obtain ⟨C, f, rfl, z1, z2, _⟩ := h3.open
  have b0 : ¬ (300 : Int) < (l.length : Int) := by omega
  have b1 : ¬ (500 : Int) < (t.length : Int) := by omega
  have b2 : ¬ (300 : Int) < (a.length : Int) := by omega
  have b3 : 60 < n := hn
  have b4 : ¬ n ≤ 1024 := hn'
  replace hE := hide hE; replace hF := hide hF; replace hD := hide hD; replace hR := hide hR; replace hC := hide hC; replace hS := hide hS; replace hB := hide hB; replace h8 := hide h8
  clear h1 h2 h3 ht hl hm ha
  go_enter Try.func3, Try.ntmps3
  go_wp2_with (first
    | (go_at_call 9; refine (live_any _).mono ?_; rintro e w1 ⟨rfl, hb1⟩
       have cv1 := unhide hC _ hb1
       replace hb1 := hide hb1)
    | (go_at_call 10; refine (unhide hE _ (unhide hb1)).mono ?_; rintro e w2 ⟨A2, c2, rfl, o2, hb2⟩
       have B2 := bl_call (unhide hb1) hb2
       replace B2 := hide B2; replace o2 := hide o2
       clear hb2)
    | (go_at_call 11; refine (unhide hF _ (unhide B2)).mono ?_; rintro e w3 ⟨A3, c3, rfl, o3, hb3⟩
       have B3 := bl_call (unhide B2) hb3
       have p3 := own_below (unhide o2) hb3 (Nat.le_refl _)
       replace B3 := hide B3; replace o3 := hide o3; replace p3 := hide p3
       clear hb3)
    | (go_at_call 12; refine (unhide hD _ (unhide B3)).mono ?_; rintro e w4 ⟨A4, c4, rfl, o4, hb4⟩
       have B4 := bl_call (unhide B3) hb4
       have p4 := own_below (unhide p3) hb4 (Nat.le_refl _)
       have q4 := own_below (unhide o3) hb4 (Nat.le_refl _)
       replace B4 := hide B4; replace o4 := hide o4; replace p4 := hide p4; replace q4 := hide q4
       clear hb4)
    | (go_at_call 13; refine (unhide hR _ (unhide B4)).mono ?_; rintro e w5 ⟨A5, c5, rfl, o5, hb5⟩
       have B5 := bl_call (unhide B4) hb5
       have p5 := own_below (unhide p4) hb5 (Nat.le_refl _)
       have q5 := own_below (unhide q4) hb5 (Nat.le_refl _)
       have r5 := own_below (unhide o4) hb5 (Nat.le_refl _)
       replace B5 := hide B5; replace o5 := hide o5; replace p5 := hide p5; replace q5 := hide q5; replace r5 := hide r5
       clear hb5)
    | (go_at_call 14; refine (unhide hS 0 _ 0 _ _ _ w5 (Os.own (unhide p5)) (Os.own (unhide q5))).mono ?_; rintro e w6 ⟨rfl, rfl⟩)
    | (go_at_call 15; refine (unhide hB 0 _ 0 _ _ _ w5 (Bos.own (unhide r5)) (Bos.own (unhide o5)) (Nat.le_refl _) (Nat.le_refl _)).mono ?_; rintro e w7 ⟨rfl, hb7⟩
       have B7 := bl_call (unhide B5) hb7
       have cv7 := unhide hC _ B7
       replace B7 := hide B7
       clear hb7)
    | fail)
  go_ret
  exact ⟨rfl, unhide B7⟩

theorem does_law (n : Int) (v v' v'' : Value) (l : List Bit) (t a : List Int) (lo lo' lo'' : Nat) (w : World) (h1 : Bts lo w.heap.size w v l) (h2 : Os lo' w.heap.size w v' t) (ht : okB t) (h3 : Is lo'' w.heap.size w v'' a) :
    Calls Try.prog 3 #[.int .i64 n, v, v', v''] w fun e w' => e = .returned (.bool true) ∧ Below w.heap.size w w' := by
  by_cases hg : 300 < l.length ∨ 500 < t.length ∨ 300 < a.length ∨ (60 < n ∧ n ≤ 1024)
  · exact does_gate n v v' v'' l t a lo lo' lo'' w h1 h2 h3 hg
  · by_cases hn : n ≤ 60
    · exact does_main n v v' v'' l t a lo lo' lo'' w h1 h2 h3 ht (by omega) (by omega) (by omega) hn
    · exact does_far n v v' v'' l t a lo lo' lo'' w h1 h2 h3 ht (by omega) (by omega) (by omega) (by omega) (by omega)
end Go.Proofs.Ythmhhgodjpgjnaa
