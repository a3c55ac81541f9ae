import Derived.Test.YtfihgjdppkiolaaP22
import Derived.Laws.StructEq
namespace Go.Proofs.Ytfihgjdppkiolaa
set_option maxRecDepth 100000
open Go.RowKit

set_option maxHeartbeats 2000000 in
theorem refPack_good (lo : Nat) (v : Value) (b : List UInt8) (w : World) (h : M.Bs lo w.heap.size w v b) (hl : b.length ≤ 1000) :
    Calls Try.prog 13 #[v] w fun e w' => ∃ A c, e = .returned (.tuple #[.slice A (packT b).length c, .int .i64 0]) ∧ w'.ownsRow w.heap.size 5 1 (.slice A (packT b).length c) (packT b).length ((packT b).flatMap byc) ∧ Below w.heap.size w w' := by
  obtain ⟨i0, hi0, iz0, iz1, iz2⟩ := info5'
  have hT := M.rTokens_any lo v b w h (by omega)
  have hbl := toksB_bitsLen b
  have hB := fun (v : Value) (W : World) (lo : Nat) (k : M.Tks lo W.heap.size W v (toksB b)) => refBits_good lo v (toksB b) W k (toksB_okB (by omega))
  have hE := fun (v : Value) (W : World) (lo : Nat) (k : Bts lo W.heap.size W v (bitsF (toksB b))) => refEncode_any 528 lo v (bitsF (toksB b)) W k (by omega)
  rw [toksB_bits (by omega)] at hE
  have hpl := packT_len (b := b) (by omega)
  have hen := (short_len (toksB_bits (b := b) (by omega))).2
  have hP : packT b = le4 b.length ++ encT 528 (bitsF (toksB b)) := rfl
  obtain ⟨A, c, rfl, h1, h2, _⟩ := h.open
  clear h
  generalize packT b = T at *
  generalize encT 528 (bitsF (toksB b)) = E at *
  generalize bitsF (toksB b) = bits at *
  generalize toksB b = ts at *
  generalize b.length = n at *
  have u1 : 4 + E.length ≤ maxLen := by simp only [maxLen]; omega
  have u2 : (4 + E.length) * 1 ≤ 140737488355328 := by omega
  have f1 : (E.flatMap byc).length = E.length * 1 := by rw [flat_len byc_len]
  have f2 := flat_one byc_one E
  have fa : (le4 (n : Int)).flatMap byc ++ E.flatMap byc = T.flatMap byc := by rw [hP, List.flatMap_append]
  have hTl : 4 + E.length = T.length := hpl.1.symm
  have d1 : (n : Int) / 16777216 % 256 = 0 := by omega
  have d2 : (n : Int) / 65536 = (n : Int) / 65536 % 256 := by omega
  have hfour : le4 (n : Int) = [(n : Int) % 256, (n : Int) / 256 % 256, (n : Int) / 65536, 0] := by unfold le4; rw [d1, ← d2]
  have hfo : ∀ (W : World) (g : Nat) (k : Blk W g 5 #[.int .u8 ((n : Int) % 256), .int .u8 ((n : Int) / 256 % 256), .int .u8 ((n : Int) / 65536), .int .u8 0]), W.ownsRow g 5 1 (.slice (some ⟨g, 0, none⟩) 4 4) 4 ((le4 (n : Int)).flatMap byc) := fun W g k => by
    rw [hfour]
    exact ⟨rfl, .inr ⟨g, 4, _, rfl, Nat.le_refl _, k, Nat.le_refl _, by simp [maxLen], rfl, rfl⟩⟩
  obtain ⟨EL, hEL⟩ : ∃ EL, EL = E.length := ⟨_, rfl⟩
  rw [← hEL] at hE u1 u2 f1 hTl
  have hn0 : (n : Int) ≤ 1000 := by omega
  replace hT := hide hT; replace hB := hide hB; replace hE := hide hE; replace u1 := hide u1; replace u2 := hide u2; replace f1 := hide f1; replace f2 := hide f2; replace fa := hide fa; replace hTl := hide hTl; replace hfo := hide hfo
  clear hP hpl hen hbl hl d1 d2 hfour hEL
  go_enter Try.func13, Try.ntmps13
  go_wp2_with (first
    | (go_at_call 28; refine (unhide hT).mono ?_; rintro e w1 ⟨A1, c1, rfl, o1, hb1⟩; replace hb1 := hide hb1; have t1 := hide (M.Tks.own o1); clear o1)
    | (go_at_call 11; refine (unhide hB _ _ _ (unhide t1)).mono ?_; rintro e w2 ⟨A2, c2, rfl, o2, hb2⟩; replace hb2 := hide (bl_call (unhide hb1) hb2); have t2 := hide (Rd.of_own btc_len (by omega) o2); clear o2)
    | (go_at_call 29; refine (unhide hE _ _ _ (unhide t2)).mono ?_; rintro e w3 ⟨A3, c3, rfl, o3, hb3⟩; replace hb3 := hide (bl_call (unhide hb2) hb3); have t3 := hide (Rd.of_own byc_len (by omega) o3); clear o3)
    | (at_builtin
       refine wpList_app _ rfl (.tmp 41) (.tmp 42) 23 rfl w3.heap.size 5 i0 _ 1 1 Try.underlying23 hi0 iz0 iz1 iz2 rfl (Nat.succ_pos _) _ 4 ((le4 (n : Int)).flatMap byc) rfl (unhide hfo _ _ (Blk.new rfl)) A3 EL c3 (E.flatMap byc) rfl (unhide f1) (Rd.src byc_len ((unhide t3).grow ((Below.refl _ _).alloc (Nat.le_refl _) _))).2 (unhide f2) (unhide u1) (unhide u2) (by simp) ?_
       intro v5 w5 o5 hg5
       obtain ⟨A5, c5, rfl⟩ := ownsRow_form o5
       rw [unhide fa] at o5)
    | fail)
  go_ret2
  rw [← unhide hTl]
  have hz := (unhide hb3).size
  exact ⟨_, _, rfl, ownsRow_mono o5 (by omega), bl_grown (bl_alloc (unhide hb3) _) hg5 (by intro k hk; simp [Act.eval, Value.ownBlock] at hk; omega)⟩

set_option maxHeartbeats 1000000 in
theorem refPack_long (lo : Nat) (v : Value) (b : List UInt8) (w : World) (h : M.Bs lo w.heap.size w v b) (hl : 65536 < b.length) :
    Calls Try.prog 13 #[v] w fun e w' => e = .returned (.tuple #[.slice none 0 0, .int .i64 3]) ∧ Below w.heap.size w w' := by
  have hT := M.rTokens_long v b lo w h hl
  replace hT := hide hT
  clear h
  go_enter Try.func13, Try.ntmps13
  go_wp2_with (first
    | (go_at_call 28; refine (unhide hT).mono ?_; rintro e w1 ⟨rfl, rfl⟩)
    | fail)
  go_ret2
  exact ⟨rfl, Below.refl _ _⟩

/-! ### are two lists of bits the same? -/
theorem bit_guard : Try.prog.eqGuardType Try.prog.depth 42 = false := by kernel_rfl
theorem run_eq_bit (a : Int) (p : Bool) (W : World) : (Op.equalIn 10000 42 (.agg #[.int .i64 a, .bool p]) (.agg #[.int .i64 a, .bool p])).run Try.prog W = .ok true W := by
  rw [run_equalIn_agg W 9999 42 _ _ (by kernel_rfl) (by kernel_rfl)]
  have e3 := fun (a b : Int) => run_equalIn_int W 9998 3 .i64 .i64 a b Try.underlying3
  have e4 := fun (a b : Bool) => run_equalIn_bool W 9998 4 a b Try.underlying4
  unfold Program.fieldsOf
  simp [Try.underlying42, Op.eqFields, part, e3, e4]
theorem run_neq_bit (a : Int) (p : Bool) (W : World) : (binOp .neq 42 (.agg #[.int .i64 a, .bool p]) (.agg #[.int .i64 a, .bool p])).run Try.prog W = .ok (.bool false) W := by
  rw [run_neq_struct, run_eq_bit]; rfl
attribute [-go_sem] run_eql_struct run_neq_struct
attribute [local go_sem] run_neq_bit bit_guard

set_option maxHeartbeats 1000000 in
theorem refSame_any (lo lo' : Nat) (v1 v2 : Value) (a : List Bit) (w : World) (h1 : Bts lo w.heap.size w v1 a) (h2 : Bts lo' w.heap.size w v2 a) :
    Calls Try.prog 16 #[v1, v2] w fun e w' => e = .returned (.bool true) ∧ Below w.heap.size w w' := by
  obtain ⟨A, c, rfl, x1, x2, x3⟩ := Bts.open h1
  obtain ⟨B, d, rfl, y1, y2, y3⟩ := Bts.open h2
  clear h1 h2
  replace x3 := hide x3; replace y3 := hide y3
  go_enter Try.func16, Try.ntmps16
  go_wp2
  go_loopw [13] (fun i wr => ∃ (k : Nat), k ≤ a.length ∧ i = .int .i64 k ∧ Hid (Below w.heap.size w wr)) (fun i _ => a.length - (intOf i).toNat)
  case atStart => exact ⟨0, Nat.zero_le _, rfl, hide (by (repeat (first | with_reducible exact Below.refl _ _ | with_reducible assumption | with_reducible refine Below.drew ?_ | with_reducible refine bl_alloc ?_ _ | with_reducible refine bl_call ?_ (by assumption) | (focus (with_reducible refine Below.setCell ?_ ?_ _; rotate_left; focus (first | omega | (simp <;> omega)))) | fail)))⟩
  case round =>
    obtain ⟨k, hk, rfl, hb⟩ := hrel
    by_cases hlt : k < a.length
    · obtain ⟨g, off, rfl, g1, g2, q0, q1⟩ := unhide x3 k hlt
      obtain ⟨g', off', rfl, g3, g4, p0, p1⟩ := unhide y3 k hlt
      have c0 := ((unhide hb).cell (p := ⟨g, off + k * 2, none⟩) g2).trans q0
      have c1 := ((unhide hb).cell (p := ⟨g, off + k * 2 + 1, none⟩) g2).trans q1
      have d0 := ((unhide hb).cell (p := ⟨g', off' + k * 2, none⟩) g4).trans p0
      have d1 := ((unhide hb).cell (p := ⟨g', off' + k * 2 + 1, none⟩) g4).trans p1
      have z1 : g < wr.heap.size := World.block_lt_of_cell? wr _ c0
      have z2 : g' < wr.heap.size := World.block_lt_of_cell? wr _ d0
      generalize a[k] = s at *
      obtain ⟨s0, s1⟩ := s
      simp only [] at c0 c1 d0 d1
      clear q0 q1 p0 p1
      go_wp2_with fail
      go_quiet (fail)
      go_wp2_with fail
      go_roundw
      case rel => exact ⟨k + 1, by omega, by go_num, hide (M.below_drewN (unhide hb) _)⟩
      case measure => simp [intOf]; omega
    · go_wp2_with fail
      go_ret
      exact ⟨rfl, unhide hb⟩
end Go.Proofs.Ytfihgjdppkiolaa
