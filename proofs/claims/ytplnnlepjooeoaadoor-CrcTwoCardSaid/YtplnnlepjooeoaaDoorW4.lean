import Derived.Test.YtplnnlepjooeoaaDoorW3
namespace Go.Proofs.YtplnnlepjooeoaaDoor
open Go.RowKit

theorem shl_one (t : TypeId) (k : Nat) (h : k < 32) : binOp .shl t (.int .u32 1) (.int .i64 (k : Int)) = pure (u32v (1#32 <<< k)) := by
  rw [binOp_shl]
  unfold Op.shift
  rw [if_neg (by omega)]
  have hm : min ((k : Int).toNat) IntKind.u32.bits = k := by
    rw [Int.toNat_natCast]
    exact Nat.min_eq_left (by show k ≤ 32; omega)
  rw [hm]
  have hp : 2 ^ k < 2 ^ 32 := Nat.pow_lt_pow_right (by omega) h
  have : IntKind.u32.wrap ((1 : Int) * 2 ^ k) = ((1#32 <<< k).toNat : Int) := by
    rw [IntKind.wrap_u32', BitVec.toNat_shiftLeft, Nat.shiftLeft_eq]
    have e : (1#32 : Reg).toNat = 1 := rfl
    rw [e, Nat.one_mul, Nat.mod_eq_of_lt hp, Int.one_mul]
    have e2 : ((2 : Int) ^ k) = ((2 ^ k : Nat) : Int) := by simp
    rw [e2]
    generalize 2 ^ k = z at *
    omega
  exact congrArg (fun z => (pure (Value.int .u32 z) : Sem Value)) this

theorem lin8 : Lin (halfN 8) := halfN_xor 8
theorem halved_num (r : Reg) (w : World) : Calls Tryd.prog 11 #[u32v r] w fun e w' => e = .returned (.int .u32 (n32 (halfN 8 r))) ∧ w = w' := halved_any r w

/-- Nothing comes of anything. -/
def none32 : Reg → Reg := fun _ => 0#32
theorem zeros_eq : wayC none32 = #[.int .u32 0, .int .u32 0, .int .u32 0, .int .u32 0, .int .u32 0, .int .u32 0, .int .u32 0, .int .u32 0, .int .u32 0, .int .u32 0, .int .u32 0, .int .u32 0, .int .u32 0, .int .u32 0, .int .u32 0, .int .u32 0, .int .u32 0, .int .u32 0, .int .u32 0, .int .u32 0, .int .u32 0, .int .u32 0, .int .u32 0, .int .u32 0, .int .u32 0, .int .u32 0, .int .u32 0, .int .u32 0, .int .u32 0, .int .u32 0, .int .u32 0, .int .u32 0] := by rfl

section
set_option maxHeartbeats 1000000 in
theorem zero_any (w : World) :
    Calls Tryd.prog 8 #[] w fun e w' => e = .returned (.agg (wayC (halfN 8))) ∧ Below w.heap.size w w' := by
  go_enter Tryd.func8, Tryd.ntmps8
  go_upto_region 2 with (fail)
  rw [← zeros_eq]
  generalize hW : World.alloc (World.alloc w _) _ = W
  have G0 : Blk W w.heap.size 32 (wayC none32) := by rw [← hW]; exact Blk.alloc (Blk.new rfl) _
  have G1 : Blk W (w.heap.size + 1) 32 (mixC (halfN 8) none32 0) := by rw [mixC_none, ← hW]; exact Blk.new (by simp)
  have hb : Below w.heap.size w W := by rw [← hW]; exact bl_alloc (bl_alloc (Below.refl _ _) _) _
  clear hW
  have hsz : (wayC none32).size = 32 := wayC_size _
  generalize wayC none32 = Z at *
  replace G0 := hide G0; replace G1 := hide G1; replace hb := hide hb; replace hsz := hide hsz
  go_wp2_with fail
  go_loopw [3] (fun i wr => ∃ k : Nat, k ≤ 32 ∧ i = .int .i64 k ∧ Hid (Blk wr w.heap.size 32 Z) ∧ Hid (Blk wr (w.heap.size + 1) 32 (mixC (halfN 8) none32 k)) ∧ Hid (Below w.heap.size w wr)) (fun i _ => 32 - (intOf i).toNat)
  case atStart => exact ⟨0, by omega, rfl, G0, G1, hb⟩
  case round =>
    obtain ⟨k, hk, rfl, B0, B1, b⟩ := hrel
    by_cases hlt : k < 32
    · have hsh := fun t => shl_one t k hlt
      have hm0 := mixC_get (halfN 8) none32 k k hlt
      have hm1 := mixC_set (halfN 8) none32 k
      have hcell := ((unhide B1).cell k).trans hm0
      have hfr := (unhide B1).frozen k
      have hc := fun W => halved_num (1#32 <<< k) W
      have l1 := (unhide B1).lt
      rw [if_neg (Nat.lt_irrefl k)] at hcell
      have D1 := (unhide B1).set k (u32v (halfN 8 (1#32 <<< k)))
      rw [hm1] at D1
      have D0 := (unhide B0).far (p := ⟨w.heap.size + 1, k, none⟩) (by simp) (u32v (halfN 8 (1#32 <<< k)))
      have db := (unhide b).setCell (p := ⟨w.heap.size + 1, k, none⟩) (by simp) (u32v (halfN 8 (1#32 <<< k)))
      replace D0 := hide D0; replace D1 := hide D1; replace db := hide db; replace hc := hide hc
      clear hm0 hm1
      generalize none32 (1#32 <<< k) = old at *
      generalize halfN 8 (1#32 <<< k) = y at *
      generalize 1#32 <<< k = q at *
      have k1 : (k : Int) < 32 := by omega
      have k0 : (0 : Int) ≤ (k : Int) := by omega
      go_wp2_with (first | (go_at_call 11; refine (unhide hc _).mono ?_; rintro e w1 ⟨rfl, rfl⟩) | fail)
      go_roundw
      case rel => exact ⟨k + 1, by omega, by go_num, D0, D1, db⟩
      case measure => simp [intOf]; omega
    · obtain rfl : k = 32 := by omega
      have hw32 : Blk wr (w.heap.size + 1) 32 (wayC (halfN 8)) := by rw [← mixC_all _ none32]; exact unhide B1
      have sz3 : (Tryd.prog.info? 32).map (·.size) = some (wayC (halfN 8)).size := by rw [wayC_size]; exact size32
      have sz4 : Z.size = (wayC (halfN 8)).size := by rw [wayC_size]; exact unhide hsz
      have one : (wayC (halfN 8)).all (·.oneCell') = true := mixC_one _ _ _
      generalize hV : wayC (halfN 8) = V at *
      replace hV := hide hV
      replace hw32 := hide hw32; replace sz3 := hide sz3; replace sz4 := hide sz4; replace one := hide one
      go_wp2_with (first
        | (refine wpList_load_row rfl 32 (.tmp 1) rfl (w.heap.size + 1) rfl 32 V (0, 0) _ (unhide hw32) Tryd.underlying32 rfl (unhide sz3) ?_)
        | (refine wpList_store_row rfl 32 (.tmp 0) (.tmp 12) rfl (w.heap.size) V rfl rfl 32 Z (unhide B0) (unhide sz3) (unhide sz4) (unhide one) ?_)
        | fail)
      have R := (unhide B0).row V
      exact bodyPost_ret (v := .agg V) (results_cell_row Tryd.results8 _ _ _ _ _ (0, 0) _ rfl R Tryd.underlying32 rfl (unhide sz3)) rfl ⟨by rw [unhide hV], bl_row (unhide b) V (by omega)⟩
end
end Go.Proofs.YtplnnlepjooeoaaDoor
