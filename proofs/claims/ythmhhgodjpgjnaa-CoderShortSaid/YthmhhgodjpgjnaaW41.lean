import Derived.Test.YthmhhgodjpgjnaaW37
namespace Go.Proofs.Ythmhhgodjpgjnaa
open Go.RowKit

theorem Rd.take {α : Type} {k : Nat} {f : α → List Value} {lo hi : Nat} {w : World} {A : Option Addr} {n c : Nat} {l : List α} (h : Rd k f lo hi w (.slice A n c) l) (m : Nat) (hm : m ≤ n) : Rd k f lo hi w (.slice A m c) (l.take m) := by
  obtain ⟨A', c', e, h1, h2, h3⟩ := h
  injection e with e1 e2 e3
  subst e1 e2 e3
  have hl : (l.take m).length = m := by simp; omega
  refine ⟨A, c, by rw [hl], by omega, h2, fun h0 => ?_⟩
  obtain ⟨b, off, e, g1, g2, g3⟩ := h3 (by omega)
  refine ⟨b, off, e, g1, g2, fun i hi j u hu => g3 i (by omega) j u (by rw [List.getElem_take] at hu; exact hu)⟩
theorem slice_h23 (A : Option Addr) (n c j : Nat) (hj : j ≤ c) (W : World) :
    (Instr.slice 23 (.slice A n c) none (some (.int .i64 (j : Int))) none).run Try.prog W = .ok (sliced A 0 j c 1) W := by
  rw [run_slice_h (P := Try.prog) W 23 A n c (by kernel_rfl) .i64 j (by omega) (by omega), show (sizeOf (Try.prog.elem 23)).run Try.prog W = .ok 1 W from by kernel_rfl]
  simp [Result.andThen]
theorem sliced0 (g j c : Nat) : sliced (some ⟨g, 0, none⟩) 0 j c 1 = .slice (some ⟨g, 0, none⟩) j c := by
  unfold sliced
  split
  · simp
  · simp [Addr.add]

set_option maxHeartbeats 1000000 in
theorem short_gate (n : Int) (v : Value) (l : List Bit) (lo : Nat) (w : World) (h1 : Bts lo w.heap.size w v l) (hg : 300 < l.length ∨ 60 < n) :
    Calls Try.prog 6 #[.int .i64 n, v] w fun e w' => e = .returned (.bool true) ∧ Below w.heap.size w w' := by
  obtain ⟨A, c, rfl, x1, x2, _⟩ := h1.open
  clear h1
  by_cases a1 : 300 < l.length
  · have b1 : (300 : Int) < (l.length : Int) := by omega
    clear hg a1
    go_enter Try.func6, Try.ntmps6
    go_wp2_with (first
      | (go_at_call 9; refine (live_any _).mono ?_; rintro e w1 ⟨rfl, hb1⟩)
      | fail)
    go_ret
    exact ⟨rfl, by (repeat (first | with_reducible exact Below.refl _ _ | with_reducible assumption | with_reducible refine Below.drew ?_ | with_reducible refine bl_alloc ?_ _ | with_reducible refine bl_call ?_ (by assumption) | (focus (with_reducible refine Below.setCell ?_ ?_ _; rotate_left; focus (first | omega | (simp <;> omega)))) | fail))⟩
  · have b1 : ¬ (300 : Int) < (l.length : Int) := by omega
    have b2 : 60 < n := by omega
    clear hg a1
    go_enter Try.func6, Try.ntmps6
    go_wp2_with (first
      | (go_at_call 9; refine (live_any _).mono ?_; rintro e w1 ⟨rfl, hb1⟩)
      | fail)
    go_ret
    exact ⟨rfl, by (repeat (first | with_reducible exact Below.refl _ _ | with_reducible assumption | with_reducible refine Below.drew ?_ | with_reducible refine bl_alloc ?_ _ | with_reducible refine bl_call ?_ (by assumption) | (focus (with_reducible refine Below.setCell ?_ ?_ _; rotate_left; focus (first | omega | (simp <;> omega)))) | fail))⟩

set_option maxHeartbeats 1000000 in
theorem short_err (n : Int) (v : Value) (l : List Bit) (lo : Nat) (w : World) (h1 : Bts lo w.heap.size w v l) (hl : l.length ≤ 300) (hn : n ≤ 60) (he : encE n l ≠ 0) :
    Calls Try.prog 6 #[.int .i64 n, v] w fun e w' => e = .returned (.bool true) ∧ Below w.heap.size w w' := by
  have hE := fun W (hb : Below w.heap.size w W) => Encode_any n lo v l W (h1.grow hb) (by omega)
  obtain ⟨A, c, rfl, x1, x2, _⟩ := h1.open
  clear h1
  have b1 : ¬ (300 : Int) < (l.length : Int) := by omega
  have b2 : ¬ 60 < n := by omega
  generalize encE n l = E at *
  have hE0 : (E != 0) = true := by simpa using he
  replace hE := hide hE
  clear he
  go_enter Try.func6, Try.ntmps6
  go_wp2_with (first
    | (go_at_call 9; refine (live_any _).mono ?_; rintro e w1 ⟨rfl, hb1⟩)
    | (go_at_call 10; refine (unhide hE _ (by (repeat (first | with_reducible exact Below.refl _ _ | with_reducible assumption | with_reducible refine Below.drew ?_ | with_reducible refine bl_alloc ?_ _ | with_reducible refine bl_call ?_ (by assumption) | (focus (with_reducible refine Below.setCell ?_ ?_ _; rotate_left; focus (first | omega | (simp <;> omega)))) | fail)))).mono ?_; rintro e w2 ⟨A2, c2, rfl, o2, hb2⟩)
    | fail)
  go_ret
  exact ⟨rfl, by (repeat (first | with_reducible exact Below.refl _ _ | with_reducible assumption | with_reducible refine Below.drew ?_ | with_reducible refine bl_alloc ?_ _ | with_reducible refine bl_call ?_ (by assumption) | (focus (with_reducible refine Below.setCell ?_ ?_ _; rotate_left; focus (first | omega | (simp <;> omega)))) | fail))⟩

set_option maxHeartbeats 2000000 in
theorem short_main (n : Int) (v : Value) (l : List Bit) (lo : Nat) (w : World) (h1 : Bts lo w.heap.size w v l) (hl : l.length ≤ 300) (hn : n ≤ 60) (he : encE n l = 0) :
    Calls Try.prog 6 #[.int .i64 n, v] w fun e w' => e = .returned (.bool true) ∧ Below w.heap.size w w' := by
  have hE := fun W (hb : Below w.heap.size w W) => Encode_any n lo v l W (h1.grow hb) (by omega)
  have hP := fun W (hb : Below w.heap.size w W) => places_any lo v l W (h1.grow hb) (by omega)
  obtain ⟨A, c, rfl, x1, x2, _⟩ := h1.open
  clear h1
  have b1 : ¬ (300 : Int) < (l.length : Int) := by omega
  have b2 : ¬ 60 < n := by omega
  obtain ⟨s1, s2⟩ := short_len he
  have s3 := enc_zero he
  have s4 := short_all he
  have s5 := encT_okB he
  rw [he] at hE
  have hD := fun lo lo' v v' W h h' => Decode_any n lo lo' v v' ((encT n l).take ((encT n l).length - 1)) (l.map Bit.at_) W h h' (okB_take _ s5) (by simp; omega) (by simp; omega)
  rw [s4] at hD
  generalize decR n ((encT n l).take ((encT n l).length - 1)) (l.map Bit.at_) = D at hD
  generalize hT : encT n l = T at *
  obtain ⟨N, hN⟩ : ∃ N, N = T.length := ⟨_, rfl⟩
  rw [← hN] at hE s1 s2 hD
  have i1 : IntKind.i64.wrap ((l.length : Int) + 7) = (l.length : Int) + 7 := IntWalk.i64_in _ (by omega)
  have i2 : ((l.length : Int) + 7).tdiv 8 = ((l.length : Int) + 7) / 8 := Int.tdiv_eq_ediv_of_nonneg (by omega)
  have i3 : IntKind.i64.wrap (((l.length : Int) + 7) / 8 * 7) = ((l.length : Int) + 7) / 8 * 7 := IntWalk.i64_in _ (by omega)
  have i4 : IntKind.i64.wrap (5 + ((l.length : Int) + 7) / 8 * 7) = 5 + ((l.length : Int) + 7) / 8 * 7 := IntWalk.i64_in _ (by omega)
  have i5 : IntKind.i64.wrap ((N : Int) - 1) = ((N - 1 : Nat) : Int) := by rw [IntWalk.i64_in _ (by omega)]; omega
  have j1 : ¬ (N : Int) < 5 := by omega
  have j2 : decide (5 + ((l.length : Int) + 7) / 8 * 7 < (N : Int)) = false := by simp; omega
  have j3 : ¬ 5 + ((l.length : Int) + 7) / 8 * 7 < (N : Int) := by omega
  replace hE := hide hE; replace hP := hide hP; replace hD := hide hD; replace s5 := hide s5; replace hN := hide hN; replace hT := hide hT
  clear s2 s4 he
  go_enter Try.func6, Try.ntmps6
  go_wp2_with (first
    | (go_at_call 9; refine (live_any _).mono ?_; rintro e w1 ⟨rfl, hb1⟩)
    | (go_at_call 10; refine (unhide hE _ (by (repeat (first | with_reducible exact Below.refl _ _ | with_reducible assumption | with_reducible refine Below.drew ?_ | with_reducible refine bl_alloc ?_ _ | with_reducible refine bl_call ?_ (by assumption) | (focus (with_reducible refine Below.setCell ?_ ?_ _; rotate_left; focus (first | omega | (simp <;> omega)))) | fail)))).mono ?_; rintro e w2 ⟨A2, c2, rfl, o2, hb2⟩
       obtain ⟨g, _, rfl, _, hK⟩ := own_pos o2 (by omega)
       have q0 := (own_cell o2 0 (by omega)).trans (byc_at T 0 (by have := unhide hN; omega))
       rw [← getD_get (l := T) (k := 0) (by have := unhide hN; omega), s3] at q0
       have hlt := hK.lt
       have hB2 : Below w.heap.size w w2 := by (repeat (first | with_reducible exact Below.refl _ _ | with_reducible assumption | with_reducible refine Below.drew ?_ | with_reducible refine bl_alloc ?_ _ | with_reducible refine bl_call ?_ (by assumption) | (focus (with_reducible refine Below.setCell ?_ ?_ _; rotate_left; focus (first | omega | (simp <;> omega)))) | fail))
       have sl := slice_h23 (some ⟨g, 0, none⟩) N c2 (N - 1) (by have := (own_len o2).1; omega)
       simp only [sliced0] at sl
       have hO := Rd.take (Os.own o2) (N - 1) (by omega)
       clear hb1 hb2 hK
       replace o2 := hide o2; replace hB2 := hide hB2; replace hO := hide hO)
    | fail)
  clear hE q0 i1 i2 i3 i4 j1 j2 j3
  go_region_held3 (fun _ => True) (trivial)
    (first
      | (go_at_call 21; refine (unhide hP w2.drew (unhide hB2).drew).mono ?_; rintro e w3 ⟨A3, c3, rfl, o3, hb3⟩
         have hO3 := Rd.grow (w := w2.drew) (unhide hO) hb3
         have hB3 : Below w.heap.size w w3 := bl_call (unhide hB2).drew hb3
         have hI3 := Is.own o3
         clear hb3
         replace hO3 := hide hO3; replace hB3 := hide hB3; replace hI3 := hide hI3)
      | (go_at_call 12; refine (unhide hD _ _ _ _ w3 (unhide hO3) (unhide hI3)).mono ?_; rintro e w4 ⟨A4, c4, rfl, o4, hb4⟩
         have hB4 : Below w.heap.size w w4 := bl_call (unhide hB3) hb4))
  all_goals go_wp2_with fail
  all_goals go_ret
  all_goals exact ⟨rfl, by assumption⟩
theorem short_law (n : Int) (v : Value) (l : List Bit) (lo : Nat) (w : World) (h1 : Bts lo w.heap.size w v l) :
    Calls Try.prog 6 #[.int .i64 n, v] w fun e w' => e = .returned (.bool true) ∧ Below w.heap.size w w' := by
  by_cases hg : 300 < l.length ∨ 60 < n
  · exact short_gate n v l lo w h1 hg
  · by_cases he : encE n l = 0
    · exact short_main n v l lo w h1 (by omega) (by omega) he
    · exact short_err n v l lo w h1 (by omega) (by omega) he
end Go.Proofs.Ythmhhgodjpgjnaa
