import Derived.Test.YthmhhgodjpgjnaaW41
namespace Go.Proofs.Ythmhhgodjpgjnaa
open Go.RowKit

theorem add_zero' (a : Addr) : a.add 0 = a := by
  unfold Addr.add
  rw [if_pos rfl]
theorem sliced_hd (A : Option Addr) (j c k : Nat) : sliced A 0 j c k = .slice A j c := by
  unfold sliced
  cases A <;> simp [add_zero']
theorem slice_h22b (A : Option Addr) (n c j : Nat) (hj : j ≤ c) (W : World) :
    (Instr.slice 22 (.slice A n c) none (some (.int .i64 (j : Int))) none).run Try.prog W = .ok (.slice A j c) W := by
  rw [run_slice_h (P := Try.prog) W 22 A n c (by kernel_rfl) .i64 j (by omega) (by omega), show (sizeOf (Try.prog.elem 22)).run Try.prog W = .ok 2 W from by kernel_rfl]
  simp [Result.andThen, sliced_hd]
/-- The cut is from 0 to the length. -/
theorem cut_ok (z : Int) (L : Nat) : ∃ R : Int, z.tmod ((L : Int) + 1) = R ∧ -(L : Int) - 1 < R ∧ R < (L : Int) + 1 ∧ ∃ K : Nat, K ≤ L ∧ (R + L + 1).tmod ((L : Int) + 1) = (K : Int) := by
  have h1 := Int.tmod_lt_of_pos z (b := (L : Int) + 1) (by omega)
  have h2 := Int.lt_tmod_of_pos z (b := (L : Int) + 1) (by omega)
  refine ⟨_, rfl, by omega, h1, ?_⟩
  generalize z.tmod ((L : Int) + 1) = R at *
  rw [Int.tmod_eq_emod_of_nonneg (by omega)]
  have h3 := Int.emod_nonneg (R + L + 1) (b := (L : Int) + 1) (by omega)
  have h4 := Int.emod_lt_of_pos (R + L + 1) (b := (L : Int) + 1) (by omega)
  exact ⟨((R + L + 1) % ((L : Int) + 1)).toNat, by omega, by omega⟩

set_option maxHeartbeats 1000000 in
theorem prefix_gate (n z : Int) (v : Value) (l : List Bit) (lo : Nat) (w : World) (h1 : Bts lo w.heap.size w v l) (hg : 200 < l.length ∨ 60 < n) :
    Calls Try.prog 7 #[.int .i64 n, v, .int .i64 z] w fun e w' => e = .returned (.bool true) ∧ Below w.heap.size w w' := by
  obtain ⟨A, c, rfl, x1, x2, _⟩ := h1.open
  clear h1
  by_cases a1 : 200 < l.length
  · have b1 : (200 : Int) < (l.length : Int) := by omega
    clear hg a1
    go_enter Try.func7, Try.ntmps7
    go_wp2_with (first
      | (go_at_call 9; refine (live_any _).mono ?_; rintro e w1 ⟨rfl, hb1⟩)
      | fail)
    go_ret
    exact ⟨rfl, by (repeat (first | with_reducible exact Below.refl _ _ | with_reducible assumption | with_reducible refine Below.drew ?_ | with_reducible refine bl_alloc ?_ _ | with_reducible refine bl_call ?_ (by assumption) | (focus (with_reducible refine Below.setCell ?_ ?_ _; rotate_left; focus (first | omega | (simp <;> omega)))) | fail))⟩
  · have b1 : ¬ (200 : Int) < (l.length : Int) := by omega
    have b2 : 60 < n := by omega
    clear hg a1
    go_enter Try.func7, Try.ntmps7
    go_wp2_with (first
      | (go_at_call 9; refine (live_any _).mono ?_; rintro e w1 ⟨rfl, hb1⟩)
      | fail)
    go_ret
    exact ⟨rfl, by (repeat (first | with_reducible exact Below.refl _ _ | with_reducible assumption | with_reducible refine Below.drew ?_ | with_reducible refine bl_alloc ?_ _ | with_reducible refine bl_call ?_ (by assumption) | (focus (with_reducible refine Below.setCell ?_ ?_ _; rotate_left; focus (first | omega | (simp <;> omega)))) | fail))⟩

set_option maxHeartbeats 1000000 in
theorem prefix_err (n z : Int) (v : Value) (l : List Bit) (lo : Nat) (w : World) (h1 : Bts lo w.heap.size w v l) (hl : l.length ≤ 200) (hn : n ≤ 60) (he : encE n l ≠ 0) :
    Calls Try.prog 7 #[.int .i64 n, v, .int .i64 z] w fun e w' => e = .returned (.bool true) ∧ Below w.heap.size w w' := by
  have hE := fun W (hb : Below w.heap.size w W) => Encode_any n lo v l W (h1.grow hb) (by omega)
  obtain ⟨A, c, rfl, x1, x2, _⟩ := h1.open
  clear h1
  have b1 : ¬ (200 : Int) < (l.length : Int) := by omega
  have b2 : ¬ 60 < n := by omega
  obtain ⟨R, k1, k2, k3, K, hK, k4⟩ := cut_ok z l.length
  have m1 : IntKind.i64.wrap ((l.length : Int) + 1) = (l.length : Int) + 1 := IntWalk.i64_in _ (by omega)
  have m2 : IntKind.i64.wrap (R + (l.length : Int)) = R + (l.length : Int) := IntWalk.i64_in _ (by omega)
  have m3 : IntKind.i64.wrap (R + (l.length : Int) + 1) = R + (l.length : Int) + 1 := IntWalk.i64_in _ (by omega)
  have m4 : ¬ (l.length : Int) + 1 = 0 := by omega
  generalize encE n l = E at *
  have hE0 : (E != 0) = true := by simpa using he
  replace hE := hide hE
  clear he
  go_enter Try.func7, Try.ntmps7
  go_wp2_with (first
    | (go_at_call 9; refine (live_any _).mono ?_; rintro e w1 ⟨rfl, hb1⟩)
    | (go_at_call 10; refine (unhide hE _ (by (repeat (first | with_reducible exact Below.refl _ _ | with_reducible assumption | with_reducible refine Below.drew ?_ | with_reducible refine bl_alloc ?_ _ | with_reducible refine bl_call ?_ (by assumption) | (focus (with_reducible refine Below.setCell ?_ ?_ _; rotate_left; focus (first | omega | (simp <;> omega)))) | fail)))).mono ?_; rintro e w2 ⟨A2, c2, rfl, o2, hb2⟩)
    | fail)
  go_ret
  exact ⟨rfl, by (repeat (first | with_reducible exact Below.refl _ _ | with_reducible assumption | with_reducible refine Below.drew ?_ | with_reducible refine bl_alloc ?_ _ | with_reducible refine bl_call ?_ (by assumption) | (focus (with_reducible refine Below.setCell ?_ ?_ _; rotate_left; focus (first | omega | (simp <;> omega)))) | fail))⟩

set_option maxHeartbeats 2000000 in
theorem prefix_main (n z : Int) (v : Value) (l : List Bit) (lo : Nat) (w : World) (h1 : Bts lo w.heap.size w v l) (hl : l.length ≤ 200) (hn : n ≤ 60) (he : encE n l = 0) :
    Calls Try.prog 7 #[.int .i64 n, v, .int .i64 z] w fun e w' => e = .returned (.bool true) ∧ Below w.heap.size w w' := by
  obtain ⟨R, k1, k2, k3, K, hK, k4⟩ := cut_ok z l.length
  have hE := fun W (hb : Below w.heap.size w W) => Encode_any n lo v l W (h1.grow hb) (by omega)
  rw [he] at hE
  obtain ⟨A, c, rfl, x1, x2, x3⟩ := h1.open
  have hx := fun W (hb : Below w.heap.size w W) => Rd.take (h1.grow hb) K hK
  have hxl : (l.take K).length = K := by simp; omega
  have hF := fun W (hb : Below w.heap.size w W) => Encode_any n lo _ (l.take K) W (hx W hb) (by omega)
  have hP := fun W (hb : Below w.heap.size w W) => places_any lo _ (l.take K) W (hx W hb) (by omega)
  have hap : l.take K ++ l.drop K = l := List.take_append_drop K l
  have he' : encE n (l.take K ++ l.drop K) = 0 := by rw [hap]; exact he
  have hep := encE_prefix he'
  have hmono := len_mono he'
  have hback := back_all he' [] (fun x hx => by simp at hx)
  rw [hap, List.append_nil] at hback
  rw [hap] at hmono
  rw [hep] at hF
  have s5 := encT_okB he
  have s6 := (short_len he).2
  have hD := fun lo lo' v v' W h h' => Decode_any n lo lo' v v' (encT n l) ((l.take K).map Bit.at_) W h h' s5 (by omega) (by simp; omega)
  rw [hback] at hD
  simp only [List.length_map, hxl] at hD hP
  have hel : ∀ k (h : k < (l.take K).length) (h' : k < l.length), (l.take K)[k] = l[k] := fun k h h' => by rw [List.getElem_take]
  have b1 : ¬ (200 : Int) < (l.length : Int) := by omega
  have b2 : ¬ 60 < n := by omega
  have m1 : IntKind.i64.wrap ((l.length : Int) + 1) = (l.length : Int) + 1 := IntWalk.i64_in _ (by omega)
  have m2 : IntKind.i64.wrap (R + (l.length : Int)) = R + (l.length : Int) := IntWalk.i64_in _ (by omega)
  have m3 : IntKind.i64.wrap (R + (l.length : Int) + 1) = R + (l.length : Int) + 1 := IntWalk.i64_in _ (by omega)
  have m4 : ¬ (l.length : Int) + 1 = 0 := by omega
  have sl := slice_h22b A l.length c K (by omega)
  generalize hT : encT n l = T at *
  generalize hT2 : encT n (l.take K) = T2 at *
  obtain ⟨N, hN⟩ : ∃ N, N = T.length := ⟨_, rfl⟩
  obtain ⟨Q, hQ⟩ : ∃ Q, Q = T2.length := ⟨_, rfl⟩
  rw [← hN] at hE hmono
  rw [← hQ] at hF hD hmono
  have u1 : decide (N < Q) = false := by simp; omega
  have u2 : ¬ N < Q := by omega
  replace hE := hide hE; replace hF := hide hF; replace hP := hide hP; replace hD := hide hD; replace hN := hide hN; replace hQ := hide hQ; replace hT := hide hT; replace hT2 := hide hT2; replace x3 := hide x3; replace hxl := hide hxl; replace hel := hide hel
  clear h1 hx hback he' hep hap s5 s6 hmono he k2 k3
  go_enter Try.func7, Try.ntmps7
  have tok1 : True := trivial
  go_wp2_with (first
    | (go_at_call 9; refine (live_any _).mono ?_; rintro e w1 ⟨rfl, hb1⟩)
    | (go_at_call 10; have _t := tok1; refine (unhide hE _ (by (repeat (first | with_reducible exact Below.refl _ _ | with_reducible assumption | with_reducible refine Below.drew ?_ | with_reducible refine bl_alloc ?_ _ | with_reducible refine bl_call ?_ (by assumption) | (focus (with_reducible refine Below.setCell ?_ ?_ _; rotate_left; focus (first | omega | (simp <;> omega)))) | fail)))).mono ?_; clear tok1 _t; rintro e w2 ⟨A2, c2, rfl, o2, hb2⟩
       have hB2 : Below w.heap.size w w2 := by (repeat (first | with_reducible exact Below.refl _ _ | with_reducible assumption | with_reducible refine Below.drew ?_ | with_reducible refine bl_alloc ?_ _ | with_reducible refine bl_call ?_ (by assumption) | (focus (with_reducible refine Below.setCell ?_ ?_ _; rotate_left; focus (first | omega | (simp <;> omega)))) | fail))
       have hO := Os.own o2
       clear hb1 hb2
       replace o2 := hide o2; replace hB2 := hide hB2; replace hO := hide hO)
    | (go_at_call 10; refine (unhide hF _ (unhide hB2)).mono ?_; rintro e w3 ⟨A3, c3, rfl, o3, hb3⟩
       have hB3 : Below w.heap.size w w3 := bl_call (unhide hB2) hb3
       have hO3 := Rd.grow (unhide hO) hb3
       clear hb3
       replace o3 := hide o3; replace hB3 := hide hB3; replace hO3 := hide hO3)
    | (go_at_call 21; refine (unhide hP _ (unhide hB3)).mono ?_; rintro e w5 ⟨A5, c5, rfl, o5, hb5⟩
       have hO5 := Rd.grow (unhide hO3) hb5
       have hB5 : Below w.heap.size w w5 := bl_call (unhide hB3) hb5
       have hI5 := Is.own o5
       clear hb5
       replace hO5 := hide hO5; replace hB5 := hide hB5; replace hI5 := hide hI5)
    | (go_at_call 12; refine (unhide hD _ _ _ _ w5 (unhide hO5) (unhide hI5)).mono ?_; rintro e w6 ⟨A6, c6, rfl, o6, hb6⟩
       have hB6 : Below w.heap.size w w6 := bl_call (unhide hB5) hb6
       clear hb6
       replace o6 := hide o6; replace hB6 := hide hB6)
    | fail)
  have hG := Rd.of_own (l := (l.take K).map Bit.b) bvc_len (by omega) (unhide o6)
  obtain ⟨A7, c7, e7, _, _, z3⟩ := Bos.open hG
  rw [List.length_map, unhide hxl] at e7
  injection e7 with e71 e72 e73
  subst e71 e73
  clear hE hP hD hF hB2 hO o2 o3 hB3 hO3 hO5 hI5 hB5 o6 hG m1 m2 m3 m4 k1 k4
  replace z3 := hide z3
  go_loopw [96] (fun i wr => ∃ (k : Nat), k ≤ K ∧ i = .int .i64 k ∧ Hid (Below w6.heap.size w6 wr)) (fun i _ => K - (intOf i).toNat)
  case atStart => exact ⟨0, Nat.zero_le _, rfl, hide (Below.refl _ _)⟩
  case round =>
    obtain ⟨k, hk, rfl, hB⟩ := hrel
    by_cases hlt : k < K
    · obtain ⟨b, off, rfl, g1, g2, q0, q1⟩ := unhide x3 k (by omega)
      obtain ⟨b', off', rfl, g3, g4, p0⟩ := unhide z3 k (by rw [List.length_map, unhide hxl]; exact hlt)
      rw [List.getElem_map, unhide hel k _ (by omega)] at p0
      have hbb : Below w.heap.size w wr := bl_call (unhide hB6) (unhide hB)
      have c0 := (hbb.cell (p := ⟨b, off + k * 2, none⟩) g2).trans q0
      have c1 := (hbb.cell (p := ⟨b, off + k * 2 + 1, none⟩) g2).trans q1
      have d0 := ((unhide hB).cell (p := ⟨b', off' + k, none⟩) g4).trans p0
      have z1 : b < wr.heap.size := World.block_lt_of_cell? wr _ c0
      have z2 : b' < wr.heap.size := World.block_lt_of_cell? wr _ d0
      have i3 : IntKind.i64.wrap ((k : Int) + 1) = (k : Int) + 1 := IntWalk.i64_in _ (by omega)
      have hk0 : (0 : Int) ≤ (k : Int) := by omega
      have hk1 : (k : Int) < (K : Int) := by omega
      generalize l[k].b = sb at *
      generalize l[k].at_ = sa at *
      have hbx : Blk (wr.alloc (.cells #[.int .i64 sa, .bool sb] 51)) wr.heap.size 51 #[.int .i64 sa, .bool sb] := Blk.new rfl
      have u1 : (wr.alloc (.cells #[.int .i64 sa, .bool sb] 51)).cell? ⟨wr.heap.size, 1, none⟩ = some (.bool sb) := hbx.cell 1
      have u2 : (wr.alloc (.cells #[.int .i64 sa, .bool sb] 51)).cell? ⟨b', off' + k, none⟩ = some (.bool sb) := (World.cell?_of_block (Below.heap_alloc wr _ b' z2)).trans d0
      have hBA := (unhide hB).alloc (unhide hB).size (.cells #[.int .i64 sa, .bool sb] 51)
      have z4 : b' < (wr.alloc (.cells #[.int .i64 sa, .bool sb] 51)).heap.size := by simp; omega
      have z5 : wr.heap.size < (wr.alloc (.cells #[.int .i64 sa, .bool sb] 51)).heap.size := by simp
      replace hBA := hide hBA
      clear q0 q1 p0 hbb hbx
      go_wp2_with fail
      generalize wr.alloc (.cells #[.int .i64 sa, .bool sb] 51) = wx at *
      generalize wr.heap.size = gx at *
      clear c0 c1 d0
      go_quiet (fail)
      have hq : (sb != sb) = false := by simp
      have hBq := below_drewN (unhide hBA) nq
      replace hBq := hide hBq
      go_wp2_with fail
      clear i3
      go_roundw
      case rel => exact ⟨k + 1, by omega, by go_num, hBq⟩
      case measure => simp [intOf]; omega
    · obtain rfl : k = K := by omega
      have hbb : Below w.heap.size w wr := bl_call (unhide hB6) (unhide hB)
      go_wp2_with fail
      go_ret
      exact ⟨rfl, hbb⟩


theorem prefix_law (n z : Int) (v : Value) (l : List Bit) (lo : Nat) (w : World) (h1 : Bts lo w.heap.size w v l) :
    Calls Try.prog 7 #[.int .i64 n, v, .int .i64 z] w fun e w' => e = .returned (.bool true) ∧ Below w.heap.size w w' := by
  by_cases hg : 200 < l.length ∨ 60 < n
  · exact prefix_gate n z v l lo w h1 hg
  · by_cases he : encE n l = 0
    · exact prefix_main n z v l lo w h1 (by omega) (by omega) he
    · exact prefix_err n z v l lo w h1 (by omega) (by omega) he
end Go.Proofs.Ythmhhgodjpgjnaa
