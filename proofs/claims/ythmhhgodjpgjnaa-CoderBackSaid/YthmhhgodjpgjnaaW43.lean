import Derived.Test.YthmhhgodjpgjnaaW41
namespace Go.Proofs.Ythmhhgodjpgjnaa
open Go.RowKit

set_option maxHeartbeats 1000000 in
theorem back_gate (n : Int) (v v' : Value) (l : List Bit) (m : List Int) (lo lo' : Nat) (w : World) (h1 : Bts lo w.heap.size w v l) (h2 : Os lo' w.heap.size w v' m) (hg : 300 < l.length ∨ 100 < m.length ∨ 60 < n) :
    Calls Try.prog 5 #[.int .i64 n, v, v'] w fun e w' => e = .returned (.bool true) ∧ Below w.heap.size w w' := by
  obtain ⟨A, c, rfl, x1, x2, _⟩ := h1.open
  obtain ⟨B, d, rfl, y1, y2, _⟩ := Os.open h2
  clear h1 h2
  by_cases a1 : 300 < l.length
  · have b1 : (300 : Int) < (l.length : Int) := by omega
    clear hg a1
    go_enter Try.func5, Try.ntmps5
    go_wp2_with (first
      | (go_at_call 9; refine (live_any _).mono ?_; rintro e w1 ⟨rfl, hb1⟩)
      | fail)
    go_ret
    exact ⟨rfl, by (repeat (first | with_reducible exact Below.refl _ _ | with_reducible assumption | with_reducible refine Below.drew ?_ | with_reducible refine bl_alloc ?_ _ | with_reducible refine bl_call ?_ (by assumption) | (focus (with_reducible refine Below.setCell ?_ ?_ _; rotate_left; focus (first | omega | (simp <;> omega)))) | fail))⟩
  · have b1 : ¬ (300 : Int) < (l.length : Int) := by omega
    by_cases a2 : 100 < m.length
    · have b2 : (100 : Int) < (m.length : Int) := by omega
      clear hg a1 a2
      go_enter Try.func5, Try.ntmps5
      go_wp2_with (first
        | (go_at_call 9; refine (live_any _).mono ?_; rintro e w1 ⟨rfl, hb1⟩)
        | fail)
      go_ret
      exact ⟨rfl, by (repeat (first | with_reducible exact Below.refl _ _ | with_reducible assumption | with_reducible refine Below.drew ?_ | with_reducible refine bl_alloc ?_ _ | with_reducible refine bl_call ?_ (by assumption) | (focus (with_reducible refine Below.setCell ?_ ?_ _; rotate_left; focus (first | omega | (simp <;> omega)))) | fail))⟩
    · have b2 : ¬ (100 : Int) < (m.length : Int) := by omega
      have b3 : 60 < n := by omega
      clear hg a1 a2
      go_enter Try.func5, Try.ntmps5
      go_wp2_with (first
        | (go_at_call 9; refine (live_any _).mono ?_; rintro e w1 ⟨rfl, hb1⟩)
        | fail)
      go_ret
      exact ⟨rfl, by (repeat (first | with_reducible exact Below.refl _ _ | with_reducible assumption | with_reducible refine Below.drew ?_ | with_reducible refine bl_alloc ?_ _ | with_reducible refine bl_call ?_ (by assumption) | (focus (with_reducible refine Below.setCell ?_ ?_ _; rotate_left; focus (first | omega | (simp <;> omega)))) | fail))⟩

set_option maxHeartbeats 1000000 in
theorem back_err (n : Int) (v v' : Value) (l : List Bit) (m : List Int) (lo lo' : Nat) (w : World) (h1 : Bts lo w.heap.size w v l) (h2 : Os lo' w.heap.size w v' m) (hl : l.length ≤ 300) (hm : m.length ≤ 100) (hn : n ≤ 60) (he : encE n l ≠ 0) :
    Calls Try.prog 5 #[.int .i64 n, v, v'] w fun e w' => e = .returned (.bool true) ∧ Below w.heap.size w w' := by
  have hE := fun W (hb : Below w.heap.size w W) => Encode_any n lo v l W (h1.grow hb) (by omega)
  obtain ⟨A, c, rfl, x1, x2, _⟩ := h1.open
  obtain ⟨B, d, rfl, y1, y2, _⟩ := Os.open h2
  clear h1 h2
  have b1 : ¬ (300 : Int) < (l.length : Int) := by omega
  have b2 : ¬ (100 : Int) < (m.length : Int) := by omega
  have b3 : ¬ 60 < n := by omega
  have e0 : encT n l = [] := by unfold encT; rw [if_neg he]
  rw [e0] at hE
  generalize encE n l = E at *
  have hE0 : (E != 0) = true := by simpa using he
  replace hE := hide hE
  clear he e0
  go_enter Try.func5, Try.ntmps5
  go_wp2_with (first
    | (go_at_call 9; refine (live_any _).mono ?_; rintro e w1 ⟨rfl, hb1⟩)
    | (go_at_call 10; refine (unhide hE _ (by (repeat (first | with_reducible exact Below.refl _ _ | with_reducible assumption | with_reducible refine Below.drew ?_ | with_reducible refine bl_alloc ?_ _ | with_reducible refine bl_call ?_ (by assumption) | (focus (with_reducible refine Below.setCell ?_ ?_ _; rotate_left; focus (first | omega | (simp <;> omega)))) | fail)))).mono ?_; rintro e w2 ⟨A2, c2, rfl, o2, hb2⟩; rw [List.length_nil])
    | fail)
  go_ret
  exact ⟨rfl, by (repeat (first | with_reducible exact Below.refl _ _ | with_reducible assumption | with_reducible refine Below.drew ?_ | with_reducible refine bl_alloc ?_ _ | with_reducible refine bl_call ?_ (by assumption) | (focus (with_reducible refine Below.setCell ?_ ?_ _; rotate_left; focus (first | omega | (simp <;> omega)))) | fail))⟩

set_option maxHeartbeats 2000000 in
theorem back_main (n : Int) (v v' : Value) (l : List Bit) (m : List Int) (lo lo' : Nat) (w : World) (h1 : Bts lo w.heap.size w v l) (h2 : Os lo' w.heap.size w v' m) (hm8 : okB m) (hl : l.length ≤ 300) (hm : m.length ≤ 100) (hn : n ≤ 60) (he : encE n l = 0) :
    Calls Try.prog 5 #[.int .i64 n, v, v'] w fun e w' => e = .returned (.bool true) ∧ Below w.heap.size w w' := by
  obtain ⟨i5, hi5, iz0, iz1, iz2⟩ := info5'
  have hE := fun W (hb : Below w.heap.size w W) => Encode_any n lo v l W (h1.grow hb) (by omega)
  have hP := fun W (hb : Below w.heap.size w W) => places_any lo v l W (h1.grow hb) (by omega)
  have hM := fun W (hb : Below w.heap.size w W) => h2.grow hb
  obtain ⟨A, c, rfl, x1, x2, x3⟩ := h1.open
  obtain ⟨B, d, rfl, y1, y2, _⟩ := Os.open h2
  clear h1 h2
  have b1 : ¬ (300 : Int) < (l.length : Int) := by omega
  have b2 : ¬ (100 : Int) < (m.length : Int) := by omega
  have b3 : ¬ 60 < n := by omega
  obtain ⟨s1, s2⟩ := short_len he
  have s4 := back_all (xs := l) (ys := []) (by rw [List.append_nil]; exact he) m hm8
  have s5 := encT_okB he
  rw [List.append_nil] at s4
  rw [he] at hE
  have hD := fun lo lo' v v' W h h' => Decode_any n lo lo' v v' (encT n l ++ m) (l.map Bit.at_) W h h' (okB_app s5 hm8) (by simp; omega) (by simp; omega)
  rw [s4] at hD
  simp only [List.length_map] at hD
  generalize hT : encT n l = T at *
  obtain ⟨N, hN⟩ : ∃ N, N = T.length := ⟨_, rfl⟩
  rw [← hN] at hE s1 s2 hD
  have t1 : 0 + N ≤ maxLen := by simp only [maxLen]; omega
  have t2 : (0 + N) * 1 ≤ 140737488355328 := by omega
  have t3 : N + m.length ≤ maxLen := by simp only [maxLen]; omega
  have t4 : (N + m.length) * 1 ≤ 140737488355328 := by omega
  have t5 : (T.flatMap byc).length = N * 1 := by rw [flat_len byc_len, hN]
  have t6 := flat_one byc_one T
  have t7 : (m.flatMap byc).length = m.length * 1 := flat_len byc_len m
  have t8 := flat_one byc_one m
  replace hE := hide hE; replace hP := hide hP; replace hD := hide hD; replace s5 := hide s5; replace hN := hide hN; replace hT := hide hT; replace hM := hide hM; replace x3 := hide x3
  replace t1 := hide t1; replace t2 := hide t2; replace t3 := hide t3; replace t4 := hide t4; replace t5 := hide t5; replace t6 := hide t6; replace t7 := hide t7; replace t8 := hide t8
  clear s2 s4 he hm8
  go_enter Try.func5, Try.ntmps5
  have tok1 : True := trivial
  go_wp2_with (first
    | (go_at_call 9; refine (live_any _).mono ?_; rintro e w1 ⟨rfl, hb1⟩)
    | (go_at_call 10; refine (unhide hE _ (by (repeat (first | with_reducible exact Below.refl _ _ | with_reducible assumption | with_reducible refine Below.drew ?_ | with_reducible refine bl_alloc ?_ _ | with_reducible refine bl_call ?_ (by assumption) | (focus (with_reducible refine Below.setCell ?_ ?_ _; rotate_left; focus (first | omega | (simp <;> omega)))) | fail)))).mono ?_; rintro e w2 ⟨A2, c2, rfl, o2, hb2⟩
       have hB2 : Below w.heap.size w w2 := by (repeat (first | with_reducible exact Below.refl _ _ | with_reducible assumption | with_reducible refine Below.drew ?_ | with_reducible refine bl_alloc ?_ _ | with_reducible refine bl_call ?_ (by assumption) | (focus (with_reducible refine Below.setCell ?_ ?_ _; rotate_left; focus (first | omega | (simp <;> omega)))) | fail))
       have hO := Os.own o2
       have hS := (Rd.src byc_len hO).2
       clear hb1 hb2
       replace o2 := hide o2; replace hB2 := hide hB2; replace hO := hide hO; replace hS := hide hS)
    | (at_builtin
       have _t := tok1
       refine wpList_app _ rfl (.const (.slice none 0 0)) (.tmp 45) 23 rfl w.heap.size 5 i5 _ 1 1 Try.underlying23 hi5 iz0 iz1 iz2 rfl (Nat.succ_pos _) _ 0 [] rfl (World.ownsRow_nil _ _ _ _) A2 N c2 (T.flatMap byc) rfl (unhide t5) (unhide hS) (unhide t6) (unhide t1) (unhide t2) (unhide hB2).size ?_
       clear tok1 _t
       intro v3 w3 o3 g3
       rw [Nat.zero_add, List.nil_append] at o3
       obtain ⟨A3, c3, rfl⟩ := ownsRow_form o3
       have hB3 : Below w.heap.size w w3 := bl_grown (unhide hB2) g3 (own_base (World.ownsRow_nil w2 w.heap.size 5 1))
       have hMs := (Rd.src byc_len (unhide hM w3 hB3)).2
       clear g3
       replace o3 := hide o3; replace hB3 := hide hB3; replace hMs := hide hMs)
    | (at_builtin
       refine wpList_app _ rfl (.tmp 46) (.tmp 47) 23 rfl w.heap.size 5 i5 _ 1 1 Try.underlying23 hi5 iz0 iz1 iz2 rfl (Nat.succ_pos _) _ N (T.flatMap byc) rfl (unhide o3) B m.length d (m.flatMap byc) rfl (unhide t7) (unhide hMs) (unhide t8) (unhide t3) (unhide t4) (unhide hB3).size ?_
       intro v4 w4 o4 g4
       rw [← List.flatMap_append] at o4
       obtain ⟨A4, c4, rfl⟩ := ownsRow_form o4
       have hB4 : Below w.heap.size w w4 := bl_grown (unhide hB3) g4 (own_base (unhide o3))
       clear g4
       replace o4 := hide o4; replace hB4 := hide hB4)
    | (go_at_call 21; refine (unhide hP _ (unhide hB4)).mono ?_; rintro e w5 ⟨A5, c5, rfl, o5, hb5⟩
       have hO5 := Rd.grow (Os.own (unhide o4)) hb5
       have hB5 : Below w.heap.size w w5 := bl_call (unhide hB4) hb5
       have hI5 := Is.own o5
       clear hb5
       replace hO5 := hide hO5; replace hB5 := hide hB5; replace hI5 := hide hI5)
    | (go_at_call 12; refine (unhide hD _ _ _ _ w5 (unhide hO5) (unhide hI5)).mono ?_; rintro e w6 ⟨A6, c6, rfl, o6, hb6⟩
       have hB6 : Below w.heap.size w w6 := bl_call (unhide hB5) hb6
       clear hb6
       replace o6 := hide o6; replace hB6 := hide hB6)
    | fail)
  have hG := Rd.of_own (l := l.map Bit.b) bvc_len (by omega) (unhide o6)
  obtain ⟨A7, c7, e7, _, _, z3⟩ := Bos.open hG
  rw [List.length_map] at e7
  injection e7 with e71 e72 e73
  subst e71 e73
  clear hE hP hD hM hB2 hO hS o2 o3 o4 hB3 hB4 hO5 hI5 hB5 o6 hG hMs s1
  replace z3 := hide z3
  go_loopw [72] (fun i wr => ∃ (k : Nat), k ≤ l.length ∧ i = .int .i64 k ∧ Hid (Below w6.heap.size w6 wr)) (fun i _ => l.length - (intOf i).toNat)
  case atStart => exact ⟨0, Nat.zero_le _, rfl, hide (Below.refl _ _)⟩
  case round =>
    obtain ⟨k, hk, rfl, hB⟩ := hrel
    by_cases hlt : k < l.length
    · obtain ⟨b, off, rfl, g1, g2, q0, q1⟩ := unhide x3 k hlt
      obtain ⟨b', off', rfl, g3, g4, p0⟩ := unhide z3 k (by simpa using hlt)
      rw [List.getElem_map] at p0
      have hbb : Below w.heap.size w wr := bl_call (unhide hB6) (unhide hB)
      have c0 := (hbb.cell (p := ⟨b, off + k * 2, none⟩) g2).trans q0
      have c1 := (hbb.cell (p := ⟨b, off + k * 2 + 1, none⟩) g2).trans q1
      have d0 := ((unhide hB).cell (p := ⟨b', off' + k, none⟩) g4).trans p0
      have z1 : b < wr.heap.size := World.block_lt_of_cell? wr _ c0
      have z2 : b' < wr.heap.size := World.block_lt_of_cell? wr _ d0
      have i3 : IntKind.i64.wrap ((k : Int) + 1) = (k : Int) + 1 := IntWalk.i64_in _ (by omega)
      have hk0 : (0 : Int) ≤ (k : Int) := by omega
      have hk1 : (k : Int) < (l.length : Int) := by omega
      generalize l[k].b = sb at *
      generalize l[k].at_ = sa at *
      have hbx : Blk (wr.alloc (.cells #[.int .i64 sa, .bool sb] 51)) wr.heap.size 51 #[.int .i64 sa, .bool sb] := Blk.new rfl
      have u1 : (wr.alloc (.cells #[.int .i64 sa, .bool sb] 51)).cell? ⟨wr.heap.size, 1, none⟩ = some (.bool sb) := hbx.cell 1
      have u2 : (wr.alloc (.cells #[.int .i64 sa, .bool sb] 51)).cell? ⟨b', off' + k, none⟩ = some (.bool sb) := (World.cell?_of_block (Below.heap_alloc wr _ b' z2)).trans d0
      have hBA := (unhide hB).alloc (unhide hB).size (.cells #[.int .i64 sa, .bool sb] 51)
      have z4 : b' < (wr.alloc (.cells #[.int .i64 sa, .bool sb] 51)).heap.size := by simp; omega
      have z5 : wr.heap.size < (wr.alloc (.cells #[.int .i64 sa, .bool sb] 51)).heap.size := by simp
      replace hBA := hide hBA
      clear q0 q1 p0 hbb hbx
      go_wp2_with fail
      generalize wr.alloc (.cells #[.int .i64 sa, .bool sb] 51) = wx at *
      generalize wr.heap.size = gx at *
      clear c0 c1 d0
      go_quiet (fail)
      have hq : (sb != sb) = false := by simp
      have hBq := below_drewN (unhide hBA) nq
      replace hBq := hide hBq
      go_wp2_with fail
      clear i3
      go_roundw
      case rel => exact ⟨k + 1, by omega, by go_num, hBq⟩
      case measure => simp [intOf]; omega
    · obtain rfl : k = l.length := by omega
      have hbb : Below w.heap.size w wr := bl_call (unhide hB6) (unhide hB)
      go_wp2_with fail
      go_ret
      exact ⟨rfl, hbb⟩

theorem back_law (n : Int) (v v' : Value) (l : List Bit) (m : List Int) (lo lo' : Nat) (w : World) (h1 : Bts lo w.heap.size w v l) (h2 : Os lo' w.heap.size w v' m) (hm8 : okB m) :
    Calls Try.prog 5 #[.int .i64 n, v, v'] w fun e w' => e = .returned (.bool true) ∧ Below w.heap.size w w' := by
  by_cases hg : 300 < l.length ∨ 100 < m.length ∨ 60 < n
  · exact back_gate n v v' l m lo lo' w h1 h2 hg
  · by_cases he : encE n l = 0
    · exact back_main n v v' l m lo lo' w h1 h2 hm8 (by omega) (by omega) (by omega) he
    · exact back_err n v v' l m lo lo' w h1 h2 (by omega) (by omega) (by omega) he
end Go.Proofs.Ythmhhgodjpgjnaa
