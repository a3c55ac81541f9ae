import Derived.Test.YthkccpemgmpadaaGreatDoorYEf
import Derived.Test.YthkccpemgmpadaaGreatDoorYF
import Derived.Test.YthkccpemgmpadaaGreatDoorU37
import Derived.LoopN
/- only Z -/
namespace Go.Proofs.YthkccpemgmpadaaGreatDoor
set_option maxRecDepth 100000
open Go.RowKit
theorem fieldsP : (Tryz.prog.fieldsOf 44).toList = [{ name := "From", type := 3, offset := 0, embedded := false, tag := "", pkgPath := "", byteOffset := 0 }, { name := "Len", type := 3, offset := 1, embedded := false, tag := "", pkgPath := "", byteOffset := 8 }, { name := "Sum", type := 22, offset := 2, embedded := false, tag := "", pkgPath := "", byteOffset := 16 }] := by kernel_rfl
theorem underP : Tryz.prog.underlying 44 = some (.struct (Tryz.prog.fieldsOf 44)) := by kernel_rfl
theorem heldP : Tryz.prog.stoodInHeld 44 = false := by kernel_rfl
theorem partP_0 (w : World) (a b c : Value) : (part 3 #[a, b, c] 0).run Tryz.prog w = .ok a w := by kernel_rfl
theorem partP_1 (w : World) (a b c : Value) : (part 3 #[a, b, c] 1).run Tryz.prog w = .ok b w := by kernel_rfl
theorem partP_2 (w : World) (a b c : Value) : (part 22 #[a, b, c] 2).run Tryz.prog w = .ok c w := by kernel_rfl
theorem neq_pc (w : World) (a d : Int) (S : Reg) : (binOp .neq 44 (.agg #[.int .i64 a, .int .i64 d, u32v S]) (.agg #[.int .i64 a, .int .i64 d, u32v S])).run Tryz.prog w = .ok (.bool false) w := by
  have h : (Op.equalIn 10000 44 (.agg #[.int .i64 a, .int .i64 d, u32v S]) (.agg #[.int .i64 a, .int .i64 d, u32v S])).run Tryz.prog w = .ok true w := by
    rw [show (10000 : Nat) = 9999 + 1 from rfl, run_equalIn_struct w _ 44 _ _ underP heldP, fieldsP]
    have e1 : (Op.equalIn 9999 3 (.int .i64 a) (.int .i64 a)).run Tryz.prog w = .ok true w := by
      have := run_equalIn_int (P := Tryz.prog) w 9998 3 .i64 .i64 a a Tryz.underlying3
      simpa using this
    have e2 : (Op.equalIn 9999 3 (.int .i64 d) (.int .i64 d)).run Tryz.prog w = .ok true w := by
      have := run_equalIn_int (P := Tryz.prog) w 9998 3 .i64 .i64 d d Tryz.underlying3
      simpa using this
    have e3 : (Op.equalIn 9999 22 (u32v S) (u32v S)).run Tryz.prog w = .ok true w := by
      have := run_equalIn_int (P := Tryz.prog) w 9998 22 .u32 .u32 (n32 S) (n32 S) Tryz.underlying22
      simpa using this
    simp [Op.eqFields, partP_0, partP_1, partP_2, e1, e2, e3, Result.andThen]
  rw [run_neq_struct, h]
  rfl
theorem guardP : Tryz.prog.eqGuardType Tryz.prog.depth 44 = false := by kernel_rfl
section
attribute [local go_sem] guardP
set_option maxHeartbeats 1000000 in
theorem samePcs_any (v1 v2 : Value) (l : List Pc) (w : World) (h1 : Pcs 0 w.heap.size w v1 l) (h2 : Pcs 0 w.heap.size w v2 l) (hn : l.length ≤ 1000) :
    Calls Tryz.prog 12 #[v1, v2] w fun e w' => e = .returned (.bool true) ∧ Below w.heap.size w w' := by
  rcases h1.parts with ⟨rfl, A, c, rfl⟩ | ⟨b, off, c, rfl, hb, hc⟩
  · obtain ⟨A', c', rfl, h3⟩ := h2
    clear h1 h3 hn
    go_enter Tryz.func12, Tryz.ntmps12
    go_wp2_with fail
    refine wp_loop_rounds 1 ?_
    rw [rounds_succ]
    go_wp2_with fail
    go_ret
    exact ⟨rfl, Below.refl _ _⟩
  · rcases h2.parts with ⟨rfl, A', c', rfl⟩ | ⟨b', off', c', rfl, hb', hc'⟩
    · clear h1 h2 hn hc hb
      go_enter Tryz.func12, Tryz.ntmps12
      go_wp2_with fail
      refine wp_loop_rounds 1 ?_
      rw [rounds_succ]
      go_wp2_with fail
      go_ret
      exact ⟨rfl, Below.refl _ _⟩
    · obtain ⟨n, hn'⟩ : ∃ n, n = l.length := ⟨_, rfl⟩
      rw [← hn']
      have hn2 : n ≤ 1000 := by rw [hn']; exact hn
      replace hc := hide hc; replace hc' := hide hc'; replace hb := hide hb; replace hb' := hide hb'; replace hn' := hide hn'
      clear h1 h2 hn
      go_enter Tryz.func12, Tryz.ntmps12
      go_wp2_with fail
      go_loopw [5, 13] (fun s5 s13 wr => ∃ k : Nat, k ≤ n ∧ s13 = .int .i64 k ∧ Hid (Below w.heap.size w wr)) (fun _ i _ => n - (intOf i).toNat)
      case atStart => exact ⟨0, by omega, rfl, hide (Below.refl _ _)⟩
      case round =>
        obtain ⟨k, hk, rfl, hB⟩ := hrel
        by_cases hlt : k < n
        · have hlt' : k < l.length := by rw [← unhide hn']; exact hlt
          obtain ⟨p0, p1, p2⟩ := unhide hc k hlt'
          obtain ⟨q0, q1, q2⟩ := unhide hc' k hlt'
          have bb := unhide hB
          have a0 : wr.cell? ⟨b, off + k * 3, none⟩ = some (.int .i64 l[k].at_) := (bb.cell (p := ⟨b, off + k * 3, none⟩) (unhide hb)).trans p0
          have a1 : wr.cell? ⟨b, off + k * 3 + 1, none⟩ = some (.int .i64 l[k].len) := (bb.cell (p := ⟨b, off + k * 3 + 1, none⟩) (unhide hb)).trans p1
          have a2 : wr.cell? ⟨b, off + k * 3 + 2, none⟩ = some (u32v l[k].sum) := (bb.cell (p := ⟨b, off + k * 3 + 2, none⟩) (unhide hb)).trans p2
          have b0 : wr.cell? ⟨b', off' + k * 3, none⟩ = some (.int .i64 l[k].at_) := (bb.cell (p := ⟨b', off' + k * 3, none⟩) (unhide hb')).trans q0
          have b1 : wr.cell? ⟨b', off' + k * 3 + 1, none⟩ = some (.int .i64 l[k].len) := (bb.cell (p := ⟨b', off' + k * 3 + 1, none⟩) (unhide hb')).trans q1
          have b2 : wr.cell? ⟨b', off' + k * 3 + 2, none⟩ = some (u32v l[k].sum) := (bb.cell (p := ⟨b', off' + k * 3 + 2, none⟩) (unhide hb')).trans q2
          have l1 : b < wr.heap.size := Nat.lt_of_lt_of_le (unhide hb) bb.size
          have l2 : b' < wr.heap.size := Nat.lt_of_lt_of_le (unhide hb') bb.size
          clear p0 p1 p2 q0 q1 q2 bb
          have hN := fun W => neq_pc W l[k].at_ l[k].len l[k].sum
          generalize l[k].at_ = x at *; generalize l[k].len = d at *; generalize l[k].sum = S at *
          go_upto_region 6 with (fail)
          go_quiet (fail)
          go_wp2_with fail
          go_roundw
          case rel => exact ⟨k + 1, by omega, by go_num, hide (below_drewN (unhide hB) nq)⟩
          case measure => simp [intOf]; omega
        · obtain rfl : k = n := by omega
          go_wp2_with fail
          go_ret
          exact ⟨rfl, unhide hB⟩
end
def BuildOut (Z : List UInt8) (Q : List Pc) (s : St) (n : Nx) (er : Int) (w : World) (e : Ending) (w' : World) : Prop :=
  ∃ A c A2 c2, e = .returned (.tuple #[.slice A Z.length c, .slice A2 Q.length c2, rgV s n, .int .i64 er]) ∧ OwnB w' w.heap.size (.slice A Z.length c) Z ∧ w'.ownsRow w.heap.size 44 3 (.slice A2 Q.length c2) Q.length (Q.flatMap pcL) ∧ Below w.heap.size w w'
def SealOut (Z : List UInt8) (s : St) (n : Nx) (er : Int) (w : World) (e : Ending) (w' : World) : Prop :=
  ∃ A c, e = .returned (.tuple #[.slice A Z.length c, rgV s n, .int .i64 er]) ∧ OwnB w' w.heap.size (.slice A Z.length c) Z ∧ Below w.heap.size w w'
theorem build_both (s : St) (n : Nx) (l : List (List UInt8)) (hn : l.length ≤ 1000) (hL : l.flatten.length ≤ 1000) : ∃ Z Q s' n' er, Q.length ≤ 1000 ∧
    (∀ v W, Tab W → Bss W.heap.size W v l → Calls Tryz.prog 7 #[rgV s n, v] W (BuildOut Z Q s' n' er W)) ∧
    (∀ v W, Bss W.heap.size W v l → Calls Tryz.prog 8 #[rgV s n, v] W (BuildOut Z Q s' n' er W)) := by
  by_cases hne : n = 18446744073709551615#64
  · refine ⟨[], [], zS, 0#64, 6, by simp, fun v W ht h => ?_, fun v W h => ?_⟩
    · exact (Build_full s n v l W h hn hL hne).mono fun e w' ⟨he, hb⟩ => ⟨none, 0, none, 0, he, World.ownsRow_nil _ _ _ _, World.ownsRow_nil _ _ _ _, hb⟩
    · exact (rBuild_full s n v l W h hn hL hne).mono fun e w' ⟨he, hb⟩ => ⟨none, 0, none, 0, he, World.ownsRow_nil _ _ _ _, World.ownsRow_nil _ _ _ _, hb⟩
  · refine ⟨sealS s n l.flatten, pcsF 0 l, s, n + 1#64, 0, by rw [pcs_len]; exact hn, fun v W ht h => ?_, fun v W h => ?_⟩
    · exact (Build_good s n v l W ht h hn hL hne).mono fun e w' ⟨A, c, A2, c2, he, ho, hq, hb⟩ => ⟨A, c, A2, c2, by rw [pcs_len]; exact he, ho, by rw [pcs_len]; exact hq, hb⟩
    · exact (rBuild_good s n v l W h hn hL hne).mono fun e w' ⟨A, c, A2, c2, he, ho, hq, hb⟩ => ⟨A, c, A2, c2, by rw [pcs_len]; exact he, ho, by rw [pcs_len]; exact hq, hb⟩
theorem seal_both (s : St) (n : Nx) (b : List UInt8) (hl : b.length ≤ 1000) : ∃ Z s' n' er,
    (∀ v W, Tab W → Bs 0 W.heap.size W v b → Calls Tryz.prog 13 #[rgV s n, v] W (SealOut Z s' n' er W)) ∧
    (∀ v W, Bs 0 W.heap.size W v b → Calls Tryz.prog 14 #[rgV s n, v] W (SealOut Z s' n' er W)) := by
  by_cases hne : n = 18446744073709551615#64
  · refine ⟨[], zS, 0#64, 6, fun v W ht h => ?_, fun v W h => ?_⟩
    · exact (sSeal_full s n v b W h hl hne).mono fun e w' ⟨he, hb⟩ => ⟨none, 0, he, World.ownsRow_nil _ _ _ _, hb⟩
    · exact (rSeal_full s n v b W h hl hne).mono fun e w' ⟨he, hb⟩ => ⟨none, 0, he, World.ownsRow_nil _ _ _ _, hb⟩
  · refine ⟨sealS s n b, s, n + 1#64, 0, fun v W ht h => ?_, fun v W h => ?_⟩
    · exact sSeal_good s n v b W ht h hl hne
    · exact rSeal_good s n v b W h hl hne
theorem open_both (s : St) (b : List UInt8) (hl : b.length ≤ 200 ∨ 131072 < b.length) : ∃ T eo,
    (∀ v W, Tab W → Bs 0 W.heap.size W v b → Calls Tryz.prog 9 #[stV s, v] W (Ans (T, eo) W)) ∧
    (∀ v W, Bs 0 W.heap.size W v b → Calls Tryz.prog 10 #[stV s, v] W (Ans (T, eo) W)) := by
  refine ⟨(openS s b).1, (openS s b).2, fun v W ht h => ?_, fun v W h => ?_⟩
  · rcases hl with hl | hl
    · exact Open_any' s v b W ht h (by omega)
    · exact Open_long' 0 s v b W h hl
  · rcases hl with hl | hl
    · exact rOpen_any s v b W h (by omega)
    · exact rOpen_long 0 s v b W h hl
theorem conv_v {lo hi : Nat} {w : World} {v : Value} {l : List UInt8} (h : Bs lo hi w v l) : (convert 29 9 v).run Tryz.prog w = .ok (.string (C.strU l)) w := C.Bs.convert (bs_C h)
end Go.Proofs.YthkccpemgmpadaaGreatDoor
