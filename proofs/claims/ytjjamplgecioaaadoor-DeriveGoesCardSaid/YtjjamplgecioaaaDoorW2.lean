import Derived.Test.YtjjamplgecioaaaDoorW1
namespace Go.Proofs.YtjjamplgecioaaaDoor
open Go.RowKit

theorem four_lit (a b c d : UInt8) (r : List UInt8) : four (a :: b :: c :: d :: r) = oc a ||| oc b <<< 8 ||| oc c <<< 16 ||| oc d <<< 24 := rfl
theorem four_sum (a b c d : UInt8) : oc a + 256#32 * oc b + 65536#32 * oc c + 16777216#32 * oc d = oc a ||| oc b <<< 8 ||| oc c <<< 16 ||| oc d <<< 24 := by
  have e : ∀ (x : UInt8), (oc x).toNat = x.toNat := fun x => by
    have := x.toNat_lt
    simp [oc]
  have ha := a.toNat_lt; have hb := b.toNat_lt; have hc := c.toNat_lt; have hd := d.toNat_lt
  apply BitVec.eq_of_toNat_eq
  have o1 : (oc a ||| oc b <<< 8).toNat = a.toNat + 256 * b.toNat := by
    rw [BitVec.toNat_or, BitVec.toNat_shiftLeft, e, e, Nat.shiftLeft_eq, Nat.mod_eq_of_lt (by omega), Nat.or_comm, Nat.mul_comm, ← Nat.two_pow_add_eq_or_of_lt (by omega)]
    omega
  have o2 : (oc a ||| oc b <<< 8 ||| oc c <<< 16).toNat = a.toNat + 256 * b.toNat + 65536 * c.toNat := by
    rw [BitVec.toNat_or, o1, BitVec.toNat_shiftLeft, e, Nat.shiftLeft_eq, Nat.mod_eq_of_lt (by omega), Nat.or_comm, Nat.mul_comm c.toNat, ← Nat.two_pow_add_eq_or_of_lt (by omega)]
    omega
  have o3 : (oc a ||| oc b <<< 8 ||| oc c <<< 16 ||| oc d <<< 24).toNat = a.toNat + 256 * b.toNat + 65536 * c.toNat + 16777216 * d.toNat := by
    rw [BitVec.toNat_or, o2, BitVec.toNat_shiftLeft, e, Nat.shiftLeft_eq, Nat.mod_eq_of_lt (by omega), Nat.or_comm, Nat.mul_comm d.toNat, ← Nat.two_pow_add_eq_or_of_lt (by omega)]
    omega
  rw [o3]
  simp only [BitVec.toNat_add, BitVec.toNat_mul, BitVec.toNat_ofNat, e]
  omega

/-- The first four octets of a slice that reads so. -/
theorem Bs.four {lo hi : Nat} {w : World} {v : Value} {l : List UInt8} (h : Bs lo hi w v l) (h4 : 4 ≤ l.length) : ∃ b off c a0 a1 a2 a3 r, l = a0 :: a1 :: a2 :: a3 :: r ∧ v = .slice (some ⟨b, off, none⟩) l.length c ∧
    w.cell? ⟨b, off, none⟩ = some (u8v a0) ∧ w.cell? ⟨b, off + 1, none⟩ = some (u8v a1) ∧ w.cell? ⟨b, off + 2, none⟩ = some (u8v a2) ∧ w.cell? ⟨b, off + 3, none⟩ = some (u8v a3) := by
  obtain ⟨A, c, rfl, h1, h2, h3⟩ := h
  obtain ⟨b, off, rfl, _, _, hc⟩ := h3 (by omega)
  match l, h4 with
  | a0 :: a1 :: a2 :: a3 :: r, _ =>
    exact ⟨b, off, c, a0, a1, a2, a3, r, rfl, rfl, hc 0 (by simp), hc 1 (by simp), hc 2 (by simp), hc 3 (by simp)⟩

section
attribute [local go_sem] r_or r_add r_mul1 r_mul2 r_mul3 r_shl8 r_shl16 r_shl24 r_conv
set_option maxHeartbeats 400000 in
theorem number_any (lo hi : Nat) (v : Value) (l : List UInt8) (w : World) (h : Bs lo hi w v l) (h4 : 4 ≤ l.length) : Calls Tryd.prog 26 #[v] w fun e w' => e = .returned (u32v (four l)) ∧ ∃ m, w' = w.drewN m := by
  obtain ⟨b, off, c, a0, a1, a2, a3, r, e, rfl, c0, c1, c2, c3⟩ := h.four h4
  have hf : four l = oc a0 ||| oc a1 <<< 8 ||| oc a2 <<< 16 ||| oc a3 <<< 24 := by rw [e]; rfl
  have hn : (4 : Int) ≤ (l.length : Int) := by omega
  rw [hf]
  generalize l.length = n at *
  clear e hf h h4
  have n0 : (0 : Int) < (n : Int) := by omega
  have n1 : (1 : Int) < (n : Int) := by omega
  have n2 : (2 : Int) < (n : Int) := by omega
  have n3 : (3 : Int) < (n : Int) := by omega
  have d0 : 0 < n := by omega
  have d1 : 1 < n := by omega
  have d2 : 2 < n := by omega
  have d3 : 3 < n := by omega
  go_enter Tryd.func26, Tryd.ntmps26
  go_wp2_with (fail)
  go_quiet (fail)
  go_wp2
  go_ret
  exact ⟨rfl, _, rfl⟩
set_option maxHeartbeats 400000 in
theorem fourR_any (lo hi : Nat) (v : Value) (l : List UInt8) (w : World) (h : Bs lo hi w v l) (h4 : 4 ≤ l.length) : Calls Tryd.prog 23 #[v] w fun e w' => e = .returned (u32v (four l)) ∧ ∃ m, w' = w.drewN m := by
  obtain ⟨b, off, c, a0, a1, a2, a3, r, e, rfl, c0, c1, c2, c3⟩ := h.four h4
  have hf : four l = oc a0 + 256#32 * oc a1 + 65536#32 * oc a2 + 16777216#32 * oc a3 := by rw [e, four_sum]; rfl
  have hn : (4 : Int) ≤ (l.length : Int) := by omega
  rw [hf]
  generalize l.length = n at *
  clear e hf h h4
  have n0 : (0 : Int) < (n : Int) := by omega
  have n1 : (1 : Int) < (n : Int) := by omega
  have n2 : (2 : Int) < (n : Int) := by omega
  have n3 : (3 : Int) < (n : Int) := by omega
  have d0 : 0 < n := by omega
  have d1 : 1 < n := by omega
  have d2 : 2 < n := by omega
  have d3 : 3 < n := by omega
  go_enter Tryd.func23, Tryd.ntmps23
  go_wp2_with (fail)
  go_quiet (fail)
  go_wp2
  go_ret
  exact ⟨rfl, _, rfl⟩
end
end Go.Proofs.YtjjamplgecioaaaDoor
