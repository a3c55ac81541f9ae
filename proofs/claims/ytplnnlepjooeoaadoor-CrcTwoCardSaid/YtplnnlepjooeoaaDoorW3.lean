import Derived.Test.YtplnnlepjooeoaaDoorW2
import Derived.Laws.Tables
namespace Go.Proofs.YtplnnlepjooeoaaDoor
open Go.RowKit

/-- A register's number. -/
def n32 (x : Reg) : Int := (x.toNat : Int)
theorem of_num (f : Reg → Reg) (hf : Lin f) (r : Reg) (w : World) (ht : Tab w) (hw : 0 < w.heap.size) :
    Calls Tryd.prog 9 #[.agg (wayC f), u32v r] w fun e w' => e = .returned (.int .u32 (n32 (f r))) ∧ Below w.heap.size w w' := of_any f hf r w ht hw
theorem Blk.row {w : World} {g : Nat} {t : TypeId} {cs : Array Value} (h : Blk w g t cs) (C : Array Value) : Blk (w.setRow g C) g t C := setRow_heap w g _ C t _ h
theorem Blk.row_other {w : World} {g g' : Nat} {t : TypeId} {cs : Array Value} (h : Blk w g t cs) (C : Array Value) (hne : g ≠ g') : Blk (w.setRow g' C) g t cs := (setRow_other w g' g C hne).trans h
theorem bl_row {B g : Nat} {a w : World} (h : Below B a w) (C : Array Value) (hg : B ≤ g) : Below B a (w.setRow g C) :=
  h.trans ⟨rfl, rfl, rfl, by simp [World.setRow], fun k hk => setRow_other w g k C (by omega)⟩
/-- A way of zeros. -/
def zeroC : Array Value := Array.replicate 32 (.int .u32 0)
theorem zero32 (W : World) : (zeroValue 32).run Tryd.prog W = .ok (.agg zeroC) W := by kernel_rfl
theorem size32 : (Tryd.prog.info? 32).map (·.size) = some 32 := by kernel_rfl
theorem run_index32 (f : Reg → Reg) (k : Nat) (h : k < 32) (W : World) : (Instr.index 32 (.agg (wayC f)) (.int .i64 (k : Int))).run Tryd.prog W = .ok (u32v (f (1#32 <<< k))) W := by
  have hs : (sizeOf 22).run Tryd.prog W = .ok 1 W := by kernel_rfl
  have hg := wayC_get f k h
  have h1 : (0 : Int) ≤ (k : Int) ∧ (k : Int) < ((32 : Nat) : Int) := by omega
  simp [Instr.index, asIntOf, run_underlying Tryd.underlying32, hs, h1, part, hg]
  intro hk
  omega

section
attribute [local go_sem] zero32
set_option maxHeartbeats 1000000 in
theorem then_any (f g : Reg → Reg) (hg : Lin g) (w : World) (ht : Tab w) (hw : 0 < w.heap.size) :
    Calls Tryd.prog 10 #[.agg (wayC f), .agg (wayC g)] w fun e w' => e = .returned (.agg (wayC (fun r => g (f r)))) ∧ Below w.heap.size w w' := by
  go_enter Tryd.func10, Tryd.ntmps10
  go_upto_region 1 with (fail)
  generalize hW : World.alloc (World.alloc (World.alloc w _) _) _ = W
  have G0 : Blk W w.heap.size 32 (mixC (fun r => g (f r)) f 0) := by rw [mixC_none, ← hW]; exact Blk.alloc (Blk.alloc (Blk.new rfl) _) _
  have G1 : Blk W (w.heap.size + 1) 32 (wayC g) := by rw [← hW]; exact Blk.alloc (Blk.new (by simp)) _
  have G2 : ∃ Z : Array Value, Z.size = 32 ∧ Blk W (w.heap.size + 1 + 1) 32 Z := by rw [← hW]; exact ⟨_, rfl, Blk.new (by simp)⟩
  have hb : Below w.heap.size w W := by rw [← hW]; exact bl_alloc (bl_alloc (bl_alloc (Below.refl _ _) _) _) _
  have hsz : w.heap.size + 3 ≤ W.heap.size := by rw [← hW]; simp
  clear hW
  obtain ⟨Z, hZ, G2⟩ := G2
  have hf0 : Blk W w.heap.size 32 (wayC f) := by rw [← mixC_none (fun r => g (f r)) f]; exact G0
  have sz1 : (Tryd.prog.info? 32).map (·.size) = some (wayC f).size := by rw [wayC_size]; exact size32
  have sz2 : (Tryd.prog.info? 32).map (·.size) = some (wayC g).size := by rw [wayC_size]; exact size32
  have hof := fun x W' (hb' : Below w.heap.size w W') => of_num g hg x W' (ht.below hb' hw) (Nat.lt_of_lt_of_le hw hb'.size)
  have hix := run_index32 f
  replace hof := hide hof; replace G0 := hide G0; replace G1 := hide G1; replace G2 := hide G2; replace hb := hide hb; replace hf0 := hide hf0; replace hix := hide hix; replace hZ := hide hZ
  replace sz1 := hide sz1; replace sz2 := hide sz2
  go_wp2_with (first
    | (refine wpList_load_row rfl 32 (.tmp 2) rfl w.heap.size rfl 32 (wayC f) (0, 0) _ (unhide hf0) Tryd.underlying32 rfl (unhide sz1) ?_)
    | fail)
  clear hf0
  go_loopw [8] (fun i wr => ∃ k : Nat, k ≤ 32 ∧ i = .int .i64 k ∧ Hid (Blk wr w.heap.size 32 (mixC (fun r => g (f r)) f k)) ∧ Hid (Blk wr (w.heap.size + 1) 32 (wayC g)) ∧ Hid (Blk wr (w.heap.size + 1 + 1) 32 Z) ∧ Hid (Below w.heap.size w wr)) (fun i _ => 32 - (intOf i).toNat)
  case atStart => exact ⟨0, by omega, rfl, G0, G1, G2, hb⟩
  case round =>
    obtain ⟨k, hk, rfl, B0, B1, B2, b⟩ := hrel
    by_cases hlt : k < 32
    · have hx := unhide hix k hlt
      have hm0 := mixC_get (fun r => g (f r)) f k k hlt
      have hm1 := mixC_set (fun r => g (f r)) f k
      rw [if_neg (Nat.lt_irrefl k)] at hm0
      have hcall := unhide hof (f (1#32 <<< k)) wr (unhide b)
      have l0 := (unhide B0).lt
      have l1 := (unhide B1).lt
      have l2 := (unhide B2).lt
      generalize f (1#32 <<< k) = x at *
      have k1 : (k : Int) < 32 := by omega
      have k0 : (0 : Int) ≤ (k : Int) := by omega
      replace hcall := hide hcall; replace hm0 := hide hm0; replace hm1 := hide hm1
      go_wp2_with (first
        | (refine wpList_load_row rfl 32 (.tmp 3) rfl (w.heap.size + 1) rfl 32 (wayC g) (0, 0) _ (unhide B1) Tryd.underlying32 rfl (unhide sz2) ?_)
        | (go_at_call 9; refine (unhide hcall).mono ?_; rintro e w1 ⟨rfl, hb1⟩; have C0 := Blk.below (unhide B0) hb1 l0; have C1 := Blk.below (unhide B1) hb1 l1; have C2 := Blk.below (unhide B2) hb1 l2; have bb := bl_call (unhide b) hb1; have hcell := (C0.cell k).trans (unhide hm0); have hfr := C0.frozen k; replace C0 := hide C0; replace C1 := hide C1; replace C2 := hide C2)
        | fail)
      have D0 := (unhide C0).set k (u32v (g x))
      rw [unhide hm1] at D0
      have D1 := (unhide C1).far (p := ⟨w.heap.size, k, none⟩) (by simp) (u32v (g x))
      have D2 := (unhide C2).far (p := ⟨w.heap.size, k, none⟩) (by simp; omega) (u32v (g x))
      have db := bb.setCell (p := ⟨w.heap.size, k, none⟩) (Nat.le_refl _) (u32v (g x))
      go_roundw
      case rel => exact ⟨k + 1, by omega, by go_num, D0, D1, D2, db⟩
      case measure => simp [intOf]; omega
    · obtain rfl : k = 32 := by omega
      have hw32 : Blk wr w.heap.size 32 (wayC (fun r => g (f r))) := by rw [← mixC_all _ f]; exact unhide B0
      have sz3 : (Tryd.prog.info? 32).map (·.size) = some (wayC (fun r => g (f r))).size := by rw [wayC_size]; exact size32
      have sz4 : Z.size = (wayC (fun r => g (f r))).size := by rw [wayC_size]; exact unhide hZ
      have one : (wayC (fun r => g (f r))).all (·.oneCell') = true := mixC_one _ _ _
      generalize hV : wayC (fun r => g (f r)) = V at *
      replace hV := hide hV
      replace hw32 := hide hw32; replace sz3 := hide sz3; replace sz4 := hide sz4; replace one := hide one
      go_wp2_with (first
        | (refine wpList_load_row rfl 32 (.tmp 2) rfl w.heap.size rfl 32 V (0, 0) _ (unhide hw32) Tryd.underlying32 rfl (unhide sz3) ?_)
        | (refine wpList_store_row rfl 32 (.tmp 4) (.tmp 18) rfl (w.heap.size + 1 + 1) V rfl rfl 32 Z (unhide B2) (unhide sz3) (unhide sz4) (unhide one) ?_)
        | fail)
      have R := (unhide B2).row V
      exact bodyPost_ret (v := .agg V) (results_cell_row Tryd.results10 _ _ _ _ _ (0, 0) _ rfl R Tryd.underlying32 rfl (unhide sz3)) rfl ⟨by rw [unhide hV], bl_row (unhide b) V (by omega)⟩
end
end Go.Proofs.YtplnnlepjooeoaaDoor
