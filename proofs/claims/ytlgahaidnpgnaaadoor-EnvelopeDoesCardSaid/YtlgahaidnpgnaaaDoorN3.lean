import Derived.Test.YtlgahaidnpgnaaaDoorN2
namespace Go.Proofs.YtlgahaidnpgnaaaDoor
open Go.RowKit

theorem q_wrap (x : Nx) : IntKind.u64.wrap (n64 x) = n64 x := wrap_nx x
theorem q_shl (x : Nx) (k : Nat) : IntKind.u64.wrap (n64 x * 2 ^ k) = n64 (x <<< k) := by
  rw [IntKind.wrap_u64]
  unfold n64
  rw [BitVec.toNat_shiftLeft, Nat.shiftLeft_eq]
  have : ((x.toNat : Int) * 2 ^ k) = ((x.toNat * 2 ^ k : Nat) : Int) := by rw [Int.natCast_mul, Int.natCast_pow]; rfl
  rw [this]
  omega
theorem q_put (p : Nx) (c : UInt8) (k : Nat) : bits .or .u64 (n64 p) (IntKind.u64.wrap (IntKind.u64.wrap (n8 c) * 2 ^ k)) = n64 (p ||| oc8 c <<< k) := by
  have h : IntKind.u64.wrap (n8 c) = n64 (oc8 c) := by rw [IntKind.wrap_u64]; exact q_conv c
  rw [h, q_shl, q_or]

section
attribute [local go_sem] q_tm q_td q_low q_conv q_or
set_option maxHeartbeats 400000 in
theorem number8_any (lo hi : Nat) (v : Value) (l : List UInt8) (w : World) (h : Bs lo hi w v l) (hl : l.length = 8) : Calls Tryd.prog 33 #[v] w fun e w' => e = .returned (u64v (of8 l)) ∧ w = w' := by
  obtain ⟨A, c, rfl, h1, h2, h3⟩ := h
  obtain ⟨b, off, rfl, hb, hb', hc⟩ := h3 (by omega)
  have hz : numK l 0 = 0#64 := rfl
  have he := numK_all l
  have hs : ∀ k, numK l (k + 1) = numK l k ||| oc8 (l.getD k 0) <<< (8 * k) := fun _ => rfl
  have hx : ∀ k, k < 8 → w.cell? ⟨b, off + k, none⟩ = some (u8v (l.getD k 0)) := fun k hk => by rw [hc k (by omega)]; simp [List.getD_eq_getElem?_getD, show k < l.length by omega]
  replace hx := hide hx; replace hs := hide hs; replace he := hide he; replace hz := hide hz
  clear hc h3
  rw [hl] at h1 ⊢
  clear hl
  go_enter Tryd.func33, Tryd.ntmps33
  go_wp2
  go_loopw [3, 4, 5, 8] (fun s _ _ i wr => ∃ k : Nat, k ≤ 8 ∧ s = u64v (numK l k) ∧ i = .int .i64 k ∧ w = wr) (fun _ _ _ i _ => 8 - (intOf i).toNat)
  case atStart => exact ⟨0, by omega, by rw [unhide hz]; rfl, rfl, rfl⟩
  case round =>
    obtain ⟨k, hk, rfl, rfl, rfl⟩ := hrel
    by_cases hlt : k < 8
    · have k1 : (k : Int) < 8 := by omega
      have hxk := unhide hx k hlt
      have hsk := unhide hs k
      generalize l.getD k 0 = q at *
      generalize numK l k = p at *
      replace hsk := hide hsk
      go_wp2_with (fail)
      go_roundw
      case rel => exact ⟨k + 1, by omega, by rw [unhide hsk, q_put], by go_num, trivial⟩
      case measure => simp [intOf]; omega
    · obtain rfl : k = 8 := by omega
      go_wp2
      go_ret
      exact ⟨by simp [unhide he], rfl⟩

set_option maxHeartbeats 1000000 in
theorem eightR_any (n : Nx) (w : World) : Calls Tryd.prog 30 #[u64v n] w fun e w' => ∃ v, e = .returned v ∧ OwnB w' w.heap.size v (eight n) ∧ Below w.heap.size w w' := by
  obtain ⟨i0, hi0, hz0, hz1, hz2⟩ := info_parts info5
  have hown : OwnB w w.heap.size (.slice none 0 0) (eightK n 0) := World.ownsRow_nil _ _ _ _
  have hb : Below w.heap.size w w := Below.refl _ _
  have ho := fun x => u8s_one [x]
  have hz := shrK_zero n
  replace hown := hide hown; replace hb := hide hb; replace ho := hide ho; replace hz := hide hz
  go_enter Tryd.func30, Tryd.ntmps30
  go_wp2
  go_loopw [0, 3, 4] (fun s v i wr => ∃ k : Nat, k ≤ 8 ∧ s = u64v (shrK n k) ∧ i = .int .i64 k ∧ (∃ A c, v = .slice A k c) ∧ Hid (OwnB wr w.heap.size v (eightK n k)) ∧ Hid (Below w.heap.size w wr)) (fun _ _ i _ => 8 - (intOf i).toNat)
  case atStart => exact ⟨0, by omega, by rw [unhide hz], rfl, ⟨_, _, rfl⟩, hown, hb⟩
  case round =>
    obtain ⟨k, hk, rfl, rfl, ⟨A, c, rfl⟩, o, b⟩ := hrel
    by_cases hlt : k < 8
    · have k1 : (k : Int) < 8 := by omega
      have hl := eightK_len n k
      have o' : wr.ownsRow w.heap.size 5 1 (.slice A k c) k ((eightK n k).map u8v) := by have := unhide o; unfold OwnB at this; rw [hl] at this; exact this
      have hs := shrK_succ n k
      have hn : eightK n k ++ [(⟨(shrK n k).setWidth 8⟩ : UInt8)] = eightK n (k + 1) := rfl
      have hl1 := eightK_len n (k + 1)
      have b3 : k + 1 ≤ maxLen := by simp only [maxLen]; omega
      have b4 : (k + 1) * 1 ≤ 140737488355328 := by omega
      have hsz := (unhide b).size
      generalize shrK n k = q at *
      replace o' := hide o'; replace hs := hide hs; replace hn := hide hn; replace hl1 := hide hl1; replace b3 := hide b3; replace b4 := hide b4; replace hsz := hide hsz
      clear o hl
      go_wp2_with (first
        | (at_builtin
           simp only [r_small]
           refine wpList_app _ rfl (.tmp 6) (.tmp 10) 28 rfl w.heap.size 5 i0 _ 1 1 Tryd.underlying28 hi0 hz0 hz1 hz2 rfl (Nat.succ_pos _) _ k ((eightK n k).map u8v) rfl ((unhide o').alloc _) (some ⟨wr.heap.size, 0, none⟩) 1 1 (([(⟨q.setWidth 8⟩ : UInt8)] : List UInt8).map u8v) rfl rfl (one_src wr _) (unhide ho _) (unhide b3) (unhide b4) (le_alloc (unhide hsz)) ?_
           intro v4 w4 hown4 hg4
           have hb4 : Below w.heap.size w w4 := (unhide b).trans (bl_app (unhide hsz) (unhide o') hg4)
           obtain ⟨A4, c4, rfl⟩ := ownsRow_form hown4
           rw [← List.map_append, unhide hn] at hown4
           clear hg4
           replace hown4 := hide hown4; replace hb4 := hide hb4)
        | fail)
      go_roundw
      case rel => exact ⟨k + 1, by omega, by rw [unhide hs, q_wrap], by go_num, ⟨_, _, rfl⟩, by unfold OwnB; rw [unhide hl1]; exact hown4, hb4⟩
      case measure => simp [intOf]; omega
    · obtain rfl : k = 8 := by omega
      have he := eightK_all n
      replace he := hide he
      go_wp2
      go_ret
      exact ⟨_, rfl, by rw [← unhide he]; exact unhide o, unhide b⟩
end
end Go.Proofs.YtlgahaidnpgnaaaDoor
