import Derived.Test.YthmhhgodjpgjnaaW57
namespace Go.Proofs.Ythmhhgodjpgjnaa
open Go.RowKit

theorem own_but_lt {w w' : World} {base n size : Nat} {e : TypeId} {v : Value} {xs : List Value} {S : List Nat} (h : w.ownsRow base e size v n xs) (hb : But S w w') (hS : ∀ k ∈ S, k < base) : w'.ownsRow base e size v n xs := by
  obtain ⟨h1, h2⟩ := h
  refine ⟨h1, ?_⟩
  rcases h2 with h2 | ⟨g, cap, cur, hv, hg, hh, r⟩
  · exact .inl h2
  · have hl : g < w.heap.size := Blk.lt (t := e) (cs := cur) hh
    exact .inr ⟨g, cap, cur, hv, hg, (hb.block g hl fun hm => by have := hS g hm; omega).trans hh, r⟩

set_option maxHeartbeats 1000000 in
theorem reads_gate (n : Int) (v v' : Value) (t a : List Int) (lo lo' : Nat) (w : World) (h2 : Os lo w.heap.size w v t) (h3 : Is lo' w.heap.size w v' a) (hg : 500 < t.length ∨ 300 < a.length ∨ (60 < n ∧ n ≤ 1024)) :
    Calls Try.prog 4 #[.int .i64 n, v, v'] w fun e w' => e = .returned (.bool true) ∧ Below w.heap.size w w' := by
  obtain ⟨B, d, rfl, y1, y2, _⟩ := Os.open h2
  obtain ⟨C, f, rfl, z1, z2, _⟩ := h3.open
  clear h2 h3
  by_cases a0 : 500 < t.length
  · have b0 : (500 : Int) < (t.length : Int) := by omega
    clear hg a0
    go_enter Try.func4, Try.ntmps4
    go_wp2_with (first
      | (go_at_call 9; refine (live_any _).mono ?_; rintro e w1 ⟨rfl, hb1⟩)
      | fail)
    go_ret
    exact ⟨rfl, by (repeat (first | with_reducible exact Below.refl _ _ | with_reducible assumption | with_reducible refine Below.drew ?_ | with_reducible refine bl_alloc ?_ _ | with_reducible refine bl_call ?_ (by assumption) | (focus (with_reducible refine Below.setCell ?_ ?_ _; rotate_left; focus (first | omega | (simp <;> omega)))) | fail))⟩
  · have b0 : ¬ (500 : Int) < (t.length : Int) := by omega
    by_cases a1 : 300 < a.length
    · have b1 : (300 : Int) < (a.length : Int) := by omega
      clear hg a1
      go_enter Try.func4, Try.ntmps4
      go_wp2_with (first
        | (go_at_call 9; refine (live_any _).mono ?_; rintro e w1 ⟨rfl, hb1⟩)
        | fail)
      go_ret
      exact ⟨rfl, by (repeat (first | with_reducible exact Below.refl _ _ | with_reducible assumption | with_reducible refine Below.drew ?_ | with_reducible refine bl_alloc ?_ _ | with_reducible refine bl_call ?_ (by assumption) | (focus (with_reducible refine Below.setCell ?_ ?_ _; rotate_left; focus (first | omega | (simp <;> omega)))) | fail))⟩
    · have b1 : ¬ (300 : Int) < (a.length : Int) := by omega
      have b3 : 60 < n := by omega
      have b4 : n ≤ 1024 := by omega
      clear hg
      go_enter Try.func4, Try.ntmps4
      go_wp2_with (first
        | (go_at_call 9; refine (live_any _).mono ?_; rintro e w1 ⟨rfl, hb1⟩)
        | fail)
      go_ret
      exact ⟨rfl, by (repeat (first | with_reducible exact Below.refl _ _ | with_reducible assumption | with_reducible refine Below.drew ?_ | with_reducible refine bl_alloc ?_ _ | with_reducible refine bl_call ?_ (by assumption) | (focus (with_reducible refine Below.setCell ?_ ?_ _; rotate_left; focus (first | omega | (simp <;> omega)))) | fail))⟩

set_option maxRecDepth 100000 in
set_option maxHeartbeats 2000000 in
theorem reads_err (n : Int) (v v' : Value) (t a : List Int) (lo lo' : Nat) (w : World) (h2 : Os lo w.heap.size w v t) (h3 : Is lo' w.heap.size w v' a) (ht : okB t) (hm : t.length ≤ 500) (ha : a.length ≤ 300) (hn : n ≤ 60) (h : startE n t ≠ 0) :
    Calls Try.prog 4 #[.int .i64 n, v, v'] w fun e w' => e = .returned (.bool true) ∧ Below w.heap.size w w' := by
  obtain ⟨i5, hi5, iz0, iz1, iz2⟩ := info5'
  have hN := fun v W (hv : Os 0 W.heap.size W v t) => NewReader_bad n 0 v t W hv ht h
  have hR := fun W (hb : Below w.heap.size w W) => refStart_bad n lo v t W (h2.grow hb) ht h
  have hM := fun W (hb : Below w.heap.size w W) => h2.grow hb
  obtain ⟨B, d, rfl, y1, y2, _⟩ := Os.open h2
  obtain ⟨C, f, rfl, z1, z2, _⟩ := h3.open
  clear h2 h3
  generalize startE n t = E at *
  have hE0 : (E != 0) = true := by simpa using h
  have b0 : ¬ (500 : Int) < (t.length : Int) := by omega
  have b1 : ¬ (300 : Int) < (a.length : Int) := by omega
  have b2 : ¬ 60 < n := by omega
  have t1 : 0 + t.length ≤ maxLen := by simp only [maxLen]; omega
  have t2 : (0 + t.length) * 1 ≤ 140737488355328 := by omega
  have t7 : (t.flatMap byc).length = t.length * 1 := flat_len byc_len t
  have t8 := flat_one byc_one t
  replace hN := hide hN; replace hR := hide hR; replace hM := hide hM; replace t1 := hide t1; replace t2 := hide t2; replace t7 := hide t7; replace t8 := hide t8
  clear h ht
  go_enter Try.func4, Try.ntmps4
  go_wp2_with (first
    | (go_at_call 9; refine (live_any _).mono ?_; rintro e w1 ⟨rfl, hb1⟩
       have hS := (Rd.src byc_len (unhide hM w1 hb1)).2
       replace hb1 := hide hb1; replace hS := hide hS)
    | (at_builtin
       refine wpList_app _ rfl (.const (.slice none 0 0)) (.tmp 43) 23 rfl w.heap.size 5 i5 _ 1 1 Try.underlying23 hi5 iz0 iz1 iz2 rfl (Nat.succ_pos _) _ 0 [] rfl (World.ownsRow_nil _ _ _ _) B t.length d (t.flatMap byc) rfl (unhide t7) (unhide hS) (unhide t8) (unhide t1) (unhide t2) (unhide hb1).size ?_
       intro v3 w3 o3 g3
       rw [Nat.zero_add, List.nil_append] at o3
       obtain ⟨A3, c3, rfl⟩ := ownsRow_form o3
       have B3 : Below w.heap.size w w3 := bl_grown (unhide hb1) g3 (own_base (World.ownsRow_nil w1 w.heap.size 5 1))
       replace o3 := hide o3; replace B3 := hide B3
       clear g3)
    | (go_at_call 16; refine (unhide hN _ _ (Os.own (unhide o3))).mono ?_; rintro e w4 ⟨rfl, hb4⟩
       have B4 := bl_call (unhide B3) hb4
       replace B4 := hide B4
       clear hb4)
    | (go_at_call 17; refine (unhide hR _ (unhide B4)).mono ?_; rintro e w5 ⟨rfl, hb5⟩
       have B5 := bl_call (unhide B4) hb5
       replace B5 := hide B5
       clear hb5)
    | (go_at_call 18; refine (Next_nil _ _).mono ?_; rintro e w6 ⟨rfl, rfl⟩)
    | (go_at_call 19; refine (Used_nil _).mono ?_; rintro e w6 ⟨rfl, rfl⟩)
    | fail)
  go_ret
  exact ⟨rfl, (unhide B5).alloc (unhide B5).size _⟩
set_option maxRecDepth 100000 in
set_option maxHeartbeats 2000000 in
theorem reads_far (n : Int) (v v' : Value) (t a : List Int) (lo lo' : Nat) (w : World) (h2 : Os lo w.heap.size w v t) (h3 : Is lo' w.heap.size w v' a) (ht : okB t) (hm : t.length ≤ 500) (ha : a.length ≤ 300) (hn : 60 < n) (hn' : ¬ n ≤ 1024) (h : startE n t ≠ 0) :
    Calls Try.prog 4 #[.int .i64 n, v, v'] w fun e w' => e = .returned (.bool true) ∧ Below w.heap.size w w' := by
  obtain ⟨i5, hi5, iz0, iz1, iz2⟩ := info5'
  have hN := fun v W (hv : Os 0 W.heap.size W v t) => NewReader_bad n 0 v t W hv ht h
  have hR := fun W (hb : Below w.heap.size w W) => refStart_bad n lo v t W (h2.grow hb) ht h
  have hM := fun W (hb : Below w.heap.size w W) => h2.grow hb
  obtain ⟨B, d, rfl, y1, y2, _⟩ := Os.open h2
  obtain ⟨C, f, rfl, z1, z2, _⟩ := h3.open
  clear h2 h3
  generalize startE n t = E at *
  have hE0 : (E != 0) = true := by simpa using h
  have b0 : ¬ (500 : Int) < (t.length : Int) := by omega
  have b1 : ¬ (300 : Int) < (a.length : Int) := by omega
  have t1 : 0 + t.length ≤ maxLen := by simp only [maxLen]; omega
  have t2 : (0 + t.length) * 1 ≤ 140737488355328 := by omega
  have t7 : (t.flatMap byc).length = t.length * 1 := flat_len byc_len t
  have t8 := flat_one byc_one t
  replace hN := hide hN; replace hR := hide hR; replace hM := hide hM; replace t1 := hide t1; replace t2 := hide t2; replace t7 := hide t7; replace t8 := hide t8
  clear h ht
  go_enter Try.func4, Try.ntmps4
  go_wp2_with (first
    | (go_at_call 9; refine (live_any _).mono ?_; rintro e w1 ⟨rfl, hb1⟩
       have hS := (Rd.src byc_len (unhide hM w1 hb1)).2
       replace hb1 := hide hb1; replace hS := hide hS)
    | (at_builtin
       refine wpList_app _ rfl (.const (.slice none 0 0)) (.tmp 43) 23 rfl w.heap.size 5 i5 _ 1 1 Try.underlying23 hi5 iz0 iz1 iz2 rfl (Nat.succ_pos _) _ 0 [] rfl (World.ownsRow_nil _ _ _ _) B t.length d (t.flatMap byc) rfl (unhide t7) (unhide hS) (unhide t8) (unhide t1) (unhide t2) (unhide hb1).size ?_
       intro v3 w3 o3 g3
       rw [Nat.zero_add, List.nil_append] at o3
       obtain ⟨A3, c3, rfl⟩ := ownsRow_form o3
       have B3 : Below w.heap.size w w3 := bl_grown (unhide hb1) g3 (own_base (World.ownsRow_nil w1 w.heap.size 5 1))
       replace o3 := hide o3; replace B3 := hide B3
       clear g3)
    | (go_at_call 16; refine (unhide hN _ _ (Os.own (unhide o3))).mono ?_; rintro e w4 ⟨rfl, hb4⟩
       have B4 := bl_call (unhide B3) hb4
       replace B4 := hide B4
       clear hb4)
    | (go_at_call 17; refine (unhide hR _ (unhide B4)).mono ?_; rintro e w5 ⟨rfl, hb5⟩
       have B5 := bl_call (unhide B4) hb5
       replace B5 := hide B5
       clear hb5)
    | (go_at_call 18; refine (Next_nil _ _).mono ?_; rintro e w6 ⟨rfl, rfl⟩)
    | (go_at_call 19; refine (Used_nil _).mono ?_; rintro e w6 ⟨rfl, rfl⟩)
    | fail)
  go_ret
  exact ⟨rfl, (unhide B5).alloc (unhide B5).size _⟩
end Go.Proofs.Ythmhhgodjpgjnaa
