import Derived.Test.YtplnnlepjooeoaaDoorW1
namespace Go.Proofs.YtplnnlepjooeoaaDoor
open Go.RowKit

/-- What comes of exclusive or is exclusive or of what comes. -/
def Lin (f : Reg → Reg) : Prop := ∀ a b, f (a ^^^ b) = f a ^^^ f b
theorem Lin.zero {f : Reg → Reg} (h : Lin f) : f 0#32 = 0#32 := by
  have := h 0#32 0#32
  rw [BitVec.xor_self] at this
  rw [this, BitVec.xor_self]
/-- The cells of a way: what comes of each bit; of those from 'k' on by 'g', of those ahead by 'f'. -/
def mixC (f g : Reg → Reg) (k : Nat) : Array Value := ((List.range 32).map fun i => u32v (if i < k then f (1#32 <<< i) else g (1#32 <<< i))).toArray
theorem mixC_size (f g : Reg → Reg) (k : Nat) : (mixC f g k).size = 32 := by simp [mixC]
theorem mixC_get (f g : Reg → Reg) (k i : Nat) (h : i < 32) : (mixC f g k)[i]? = some (u32v (if i < k then f (1#32 <<< i) else g (1#32 <<< i))) := by
  unfold mixC
  rw [List.getElem?_toArray, List.getElem?_map, List.getElem?_range h]
  rfl
theorem mixC_one (f g : Reg → Reg) (k : Nat) : (mixC f g k).all (·.oneCell') = true := by
  rw [Array.all_eq_true_iff_forall_mem]
  intro v hv
  unfold mixC at hv
  rw [List.mem_toArray, List.mem_map] at hv
  obtain ⟨_, _, rfl⟩ := hv
  rfl
theorem mixC_set (f g : Reg → Reg) (k : Nat) : (mixC f g k).setIfInBounds k (u32v (f (1#32 <<< k))) = mixC f g (k + 1) := by
  apply Array.ext
  · rw [Array.size_setIfInBounds, mixC_size, mixC_size]
  · intro i h1 h2
    rw [mixC_size] at h2
    have e1 := mixC_get f g k i h2
    have e2 := mixC_get f g (k + 1) i h2
    rw [Array.getElem?_eq_getElem (by rw [mixC_size]; exact h2), Option.some.injEq] at e1 e2
    rw [e2, Array.getElem_setIfInBounds (by rw [mixC_size]; exact h2)]
    by_cases hi : k = i
    · subst hi
      rw [if_pos rfl, if_pos (by omega)]
    · rw [if_neg hi, e1]
      by_cases hk : i < k
      · rw [if_pos hk, if_pos (by omega)]
      · rw [if_neg hk, if_neg (by omega)]
/-- The cells of a way. -/
def wayC (f : Reg → Reg) : Array Value := mixC f f 32
theorem mixC_all (f g : Reg → Reg) : mixC f g 32 = wayC f := by
  apply Array.ext
  · rw [mixC_size, wayC, mixC_size]
  · intro i h1 h2
    rw [mixC_size] at h1
    have e1 := mixC_get f g 32 i h1
    have e2 := mixC_get f f 32 i h1
    rw [if_pos h1, Array.getElem?_eq_getElem (by rw [mixC_size]; exact h1), Option.some.injEq] at e1 e2
    rw [e1]
    exact e2.symm
theorem mixC_none (f g : Reg → Reg) : mixC f g 0 = wayC g := by
  apply Array.ext
  · rw [mixC_size, wayC, mixC_size]
  · intro i h1 h2
    rw [mixC_size] at h1
    have e1 := mixC_get f g 0 i h1
    have e2 := mixC_get g g 32 i h1
    rw [if_neg (by omega), Array.getElem?_eq_getElem (by rw [mixC_size]; exact h1), Option.some.injEq] at e1
    rw [if_pos h1, Array.getElem?_eq_getElem (by rw [mixC_size]; exact h1), Option.some.injEq] at e2
    rw [e1]
    exact e2.symm
theorem wayC_get (f : Reg → Reg) (i : Nat) (h : i < 32) : (wayC f)[i]? = some (u32v (f (1#32 <<< i))) := by
  rw [wayC, mixC_get f f 32 i h, if_pos h]
theorem wayC_size (f : Reg → Reg) : (wayC f).size = 32 := mixC_size f f 32

theorem neq_zero (t : TypeId) (x : Reg) : binOp .neq t (u32v x) (.int .u32 0) = pure (.bool (!decide (x = 0#32))) := by
  have h := u32v_eql t x 0#32
  unfold u32v at *
  rw [binOp_eql] at h
  show binOp .neq t (.int .u32 (x.toNat : Int)) (.int .u32 0) = _
  rw [binOp_neq]
  have h2 : ((x.toNat : Int) != 0) = !decide (x = 0#32) := by
    rw [bne, Bool.not_inj_iff, Bool.eq_iff_iff]
    simp only [beq_iff_eq, decide_eq_true_eq]
    constructor
    · intro e; exact BitVec.eq_of_toNat_eq (by simpa using e)
    · intro e; rw [e]; rfl
  rw [h2]
theorem u32v_sub1 (t : TypeId) (x : Reg) : binOp .sub t (u32v x) (.int .u32 1) = pure (u32v (x - 1#32)) := by
  unfold u32v
  rw [binOp_sub]
  show pure (Value.int .u32 (IntKind.u32.wrap ((x.toNat : Int) - 1))) = _
  have : IntKind.u32.wrap ((x.toNat : Int) - 1) = ((x - 1#32).toNat : Int) := by
    rw [IntKind.wrap_u32', BitVec.toNat_sub]
    have := x.isLt
    have e : (1#32 : Reg).toNat = 1 := rfl
    rw [e]
    omega
  rw [this]
theorem intOf_u32v (x : Reg) : intOf (u32v x) = (x.toNat : Int) := rfl

section
attribute [local go_sem] u32v_neg u32v_and u32v_xor eqGuard_u32 neq_zero u32v_sub1
set_option maxHeartbeats 1000000 in
theorem of_any (f : Reg → Reg) (hf : Lin f) (r : Reg) (w : World) (ht : Tab w) (hw : 0 < w.heap.size) :
    Calls Tryd.prog 9 #[.agg (wayC f), u32v r] w fun e w' => e = .returned (u32v (f r)) ∧ Below w.heap.size w w' := by
  have hB : Blk (w.alloc (.cells (wayC f) 32)) w.heap.size 32 (wayC f) := Blk.new rfl
  have ht' : Tab (w.alloc (.cells (wayC f) 32)) := ht.below (Below.alloc (Below.refl _ _) (Nat.le_refl _) _) hw
  have hb : Below w.heap.size w (w.alloc (.cells (wayC f) 32)) := by (repeat (first | with_reducible exact Below.refl _ _ | with_reducible assumption | with_reducible refine Below.drew ?_ | with_reducible refine bl_alloc ?_ _ | with_reducible refine bl_call ?_ (by assumption) | (focus (with_reducible refine Below.setCell ?_ ?_ _; rotate_left; focus (first | omega | (simp <;> omega)))) | fail))
  replace hB := hide hB; replace ht' := hide ht'; replace hb := hide hb
  go_enter Tryd.func9, Tryd.ntmps9
  go_wp2
  generalize hW : w.alloc (.cells (wayC f) 32) = W at *
  replace hW := hide hW
  go_loop [1, 5] (fun a b => ∃ q t : Reg, a = u32v q ∧ b = u32v t ∧ Hid (t ^^^ f q = f r)) (fun a _ => (intOf a).toNat)
  case atStart => exact ⟨r, 0#32, rfl, rfl, hide (BitVec.zero_xor)⟩
  case round =>
    obtain ⟨q, t, rfl, rfl, hq⟩ := hrel
    by_cases h0 : q = 0#32
    · have hd : decide (q = 0#32) = true := by simpa using h0
      have hr : t = f r := by rw [← unhide hq, h0, hf.zero, BitVec.xor_zero]
      replace hr := hide hr
      clear h0
      go_wp2
      go_ret
      exact ⟨by rw [unhide hr]; rfl, unhide hb⟩
    · have hd : decide (q = 0#32) = false := by simpa using h0
      obtain ⟨l1, _, l3, l4⟩ := low_bit q h0
      have htz := tz_any q W h0 (unhide ht')
      have hc := (unhide hB).cell (Lib.ctz 32 q.toNat)
      rw [wayC_get f _ l1] at hc
      have hnext : (t ^^^ f (1#32 <<< Lib.ctz 32 q.toNat)) ^^^ f (q &&& (q - 1#32)) = f r := by
        rw [← unhide hq]
        conv => rhs; rw [← l3]
        rw [hf, BitVec.xor_assoc, BitVec.xor_comm (f (1#32 <<< _))]
      generalize Lib.ctz 32 q.toNat = k at *
      have k1 : (k : Int) < 32 := by omega
      have k0 : (0 : Int) ≤ (k : Int) := by omega
      generalize f (1#32 <<< k) = fk at *
      replace hnext := hide hnext; replace htz := hide htz; replace l4 := hide l4
      clear h0 l3
      go_wp2_with (go_at_call 12; refine (unhide htz).mono ?_; rintro e w1 ⟨rfl, rfl⟩)
      exact ⟨⟨_, _, rfl, rfl, hnext⟩, by rw [intOf_u32v, intOf_u32v]; have := unhide l4; omega⟩
end
end Go.Proofs.YtplnnlepjooeoaaDoor
