import Derived.Test.YtlgahaidnpgnaaaDoorN1
namespace Go.Proofs.YtlgahaidnpgnaaaDoor
open Go.RowKit

/-! ### numbers of 64 bits as the model has them -/
def n64 (x : Nx) : Int := (x.toNat : Int)
abbrev u64v (x : Nx) : Value := .int .u64 (n64 x)
theorem n64_lit (n : Nat) (h : n < 18446744073709551616) : (n : Int) = n64 (BitVec.ofNat 64 n) := by
  unfold n64
  rw [BitVec.toNat_ofNat, Nat.mod_eq_of_lt (by omega)]
theorem n64_inj {x y : Nx} (h : n64 x = n64 y) : x = y := by
  unfold n64 at h
  exact BitVec.eq_of_toNat_eq (by omega)
section
variable (x y : Nx) (c : UInt8)
theorem ofInt_nx : BitVec.ofInt IntKind.u64.bits (n64 x) = x := by
  show BitVec.ofInt 64 (x.toNat : Int) = x
  rw [BitVec.ofInt_natCast, BitVec.ofNat_toNat, BitVec.setWidth_eq]
theorem wrap_nx : IntKind.u64.wrap ((x.toNat : Nat) : Int) = n64 x := by
  unfold n64
  have := x.isLt
  rw [IntKind.wrap_u64]
  omega
theorem q_or : bits .or .u64 (n64 x) (n64 y) = n64 (x ||| y) := by
  show IntKind.u64.wrap _ = _
  rw [ofInt_nx, ofInt_nx]
  exact wrap_nx (x ||| y)
theorem q_add : (n64 x + n64 y) % (18446744073709551616 : Int) = n64 (x + y) := by
  unfold n64
  rw [BitVec.toNat_add]
  omega
theorem q_add1 : (n64 x + (1 : Int)) % (18446744073709551616 : Int) = n64 (x + 1#64) := q_add x 1#64
theorem q_mul : (n64 x * n64 y) % (18446744073709551616 : Int) = n64 (x * y) := by
  unfold n64
  rw [BitVec.toNat_mul, ← Int.natCast_mul]
  generalize x.toNat * y.toNat = z
  omega
theorem q_mul256 : ((256 : Int) * n64 y) % (18446744073709551616 : Int) = n64 (256#64 * y) := q_mul 256#64 y
theorem q_shr8 : n64 x / (256 : Int) = n64 (x >>> 8) := by
  unfold n64
  rw [BitVec.toNat_ushiftRight, Nat.shiftRight_eq_div_pow]
  omega
theorem q_conv : n8 c % (18446744073709551616 : Int) = n64 (oc8 c) := by
  have := c.toNat_lt
  unfold n8 n64
  simp [oc8]
  omega
theorem q_low : n64 x % (256 : Int) = n8 (⟨x.setWidth 8⟩ : UInt8) := by
  unfold n8 n64
  show _ = ((x.setWidth 8).toNat : Int)
  rw [BitVec.toNat_setWidth]
  omega
theorem q_tm : (n64 x).tmod (256 : Int) = n8 (⟨x.setWidth 8⟩ : UInt8) := by
  rw [Int.tmod_eq_emod_of_nonneg (by unfold n64; omega)]; exact q_low x
theorem q_td : (n64 x).tdiv (256 : Int) = n64 (x >>> 8) := by
  rw [Int.tdiv_eq_ediv_of_nonneg (by unfold n64; omega)]; exact q_shr8 x
end

section
attribute [local go_sem] q_shr8 q_low
set_option maxHeartbeats 1000000 in
theorem octets_any (n : Nx) (w : World) : Calls Tryd.prog 28 #[u64v n] w fun e w' => ∃ v, e = .returned v ∧ OwnB w' w.heap.size v (eight n) ∧ Below w.heap.size w w' := by
  obtain ⟨i0, hi0, hz0, hz1, hz2⟩ := info_parts info5
  obtain ⟨cs, hcs, hmk⟩ := show ∃ cs : Array Value, cs.size = 8 * 1 ∧ (Instr.makeSlice 28 (.int .i64 0) (.int .i64 8)).run Tryd.prog w = .ok (.slice (some ⟨w.heap.size, 0, none⟩) 0 8) (w.alloc (.cells cs 5)) from mk8 8 (by omega) w
  have hown : OwnB (w.alloc (.cells cs 5)) w.heap.size (.slice (some ⟨w.heap.size, 0, none⟩) 0 8) (eightK n 0) := own_fresh w _ _ 5 1 8 cs rfl (Nat.le_refl _) (by simp [maxLen]) hcs
  have hb : Below w.heap.size w (w.alloc (.cells cs 5)) := bl_alloc (Below.refl _ _) _
  have ho := fun x => u8s_one [x]
  have hz := shrK_zero n
  replace hown := hide hown; replace hb := hide hb; replace hcs := hide hcs; replace ho := hide ho; replace hz := hide hz
  go_enter Tryd.func28, Tryd.ntmps28
  go_upto_region 2 with (fail)
  generalize hW1 : World.alloc w _ = W1 at *
  clear hW1 hmk
  go_wp2
  go_loopw [0, 3, 5] (fun s v i wr => ∃ k : Nat, k ≤ 8 ∧ s = u64v (shrK n k) ∧ i = .int .i64 k ∧ (∃ A c, v = .slice A k c) ∧ Hid (OwnB wr w.heap.size v (eightK n k)) ∧ Hid (Below w.heap.size w wr)) (fun _ _ i _ => 8 - (intOf i).toNat)
  case atStart => exact ⟨0, by omega, by rw [unhide hz], rfl, ⟨_, _, rfl⟩, hown, hb⟩
  case round =>
    obtain ⟨k, hk, rfl, rfl, ⟨A, c, rfl⟩, o, b⟩ := hrel
    by_cases hlt : k < 8
    · have k1 : (k : Int) < 8 := by omega
      have hl := eightK_len n k
      have o' : wr.ownsRow w.heap.size 5 1 (.slice A k c) k ((eightK n k).map u8v) := by have := unhide o; unfold OwnB at this; rw [hl] at this; exact this
      have hs := shrK_succ n k
      have hn : eightK n k ++ [(⟨(shrK n k).setWidth 8⟩ : UInt8)] = eightK n (k + 1) := rfl
      have hl1 := eightK_len n (k + 1)
      have b3 : k + 1 ≤ maxLen := by simp only [maxLen]; omega
      have b4 : (k + 1) * 1 ≤ 140737488355328 := by omega
      have hsz := (unhide b).size
      generalize shrK n k = q at *
      replace o' := hide o'; replace hs := hide hs; replace hn := hide hn; replace hl1 := hide hl1; replace b3 := hide b3; replace b4 := hide b4; replace hsz := hide hsz
      clear o hl
      go_wp2_with (first
        | (at_builtin
           simp only [q_low]
           refine wpList_app _ rfl (.tmp 7) (.tmp 10) 28 rfl w.heap.size 5 i0 _ 1 1 Tryd.underlying28 hi0 hz0 hz1 hz2 rfl (Nat.succ_pos _) _ k ((eightK n k).map u8v) rfl ((unhide o').alloc _) (some ⟨wr.heap.size, 0, none⟩) 1 1 (([(⟨q.setWidth 8⟩ : UInt8)] : List UInt8).map u8v) rfl rfl (one_src wr _) (unhide ho _) (unhide b3) (unhide b4) (le_alloc (unhide hsz)) ?_
           intro v4 w4 hown4 hg4
           have hb4 : Below w.heap.size w w4 := (unhide b).trans (bl_app (unhide hsz) (unhide o') hg4)
           obtain ⟨A4, c4, rfl⟩ := ownsRow_form hown4
           rw [← List.map_append, unhide hn] at hown4
           clear hg4
           replace hown4 := hide hown4; replace hb4 := hide hb4)
        | fail)
      go_roundw
      case rel => exact ⟨k + 1, by omega, by rw [unhide hs], by go_num, ⟨_, _, rfl⟩, by unfold OwnB; rw [unhide hl1]; exact hown4, hb4⟩
      case measure => simp [intOf]; omega
    · obtain rfl : k = 8 := by omega
      have he := eightK_all n
      replace he := hide he
      go_wp2
      go_ret
      exact ⟨_, rfl, by rw [← unhide he]; exact unhide o, unhide b⟩
end
end Go.Proofs.YtlgahaidnpgnaaaDoor
