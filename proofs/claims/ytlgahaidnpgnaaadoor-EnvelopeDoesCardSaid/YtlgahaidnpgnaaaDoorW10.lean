import Derived.Test.YtlgahaidnpgnaaaDoorW9
namespace Go.Proofs.YtlgahaidnpgnaaaDoor
open Go.RowKit

theorem ret_st2 {fn : Func} {p u : Tmp} {R : Ending → World → Prop} {a : Act} {w : World} (h : fn.results = #[.cell p 24, .tmp u]) (g : Nat) (s : St) (v : Value)
    (hp : a.tmps.getD p undef = .pointer (some ⟨g, 0, none⟩)) (hu : a.tmps.getD u undef = v) (hg : Blk w g 24 (stC s)) (hd : a.defers = []) (hR : R (.returned (.tuple #[stV s, v])) w) : bodyPost Tryd.prog fn R .ret a w := by
  refine bodyPost_ret (v := .tuple #[stV s, v]) ?_ hd hR
  rw [results_cell_tmp h, hp, hu]
  have hl := run_loadVar_row (P := Tryd.prog) w g 24 24 (stC s) (0, 0) _ hg Tryd.underlying24 rfl size24
  simp [asAddr, Result.andThen, hl]
def zS : St := ⟨0#32, 0#32, 0#32, 0#32⟩
theorem zC_st : zC = stC zS := rfl

/-! ### Of -/
/-- The first 'k' numbers of sixteen octets; zeros behind. -/
def mixS (l : List UInt8) (k : Nat) : St := ⟨if 0 < k then four l else 0#32, if 1 < k then four (l.drop 4) else 0#32, if 2 < k then four (l.drop 8) else 0#32, if 3 < k then four (l.drop 12) else 0#32⟩
theorem mixS_all (l : List UInt8) : mixS l 4 = ofF l := by
  unfold mixS ofF
  simp only [four_take4]
  rfl
theorem mixS_get (l : List UInt8) (k : Nat) (h : k < 4) : (stC (mixS l k))[k]? = some (u32v 0#32) := by
  match k, h with
  | 0, _ => rfl
  | 1, _ => rfl
  | 2, _ => rfl
  | 3, _ => rfl
theorem mixS_set (l : List UInt8) (k : Nat) (h : k < 4) : (stC (mixS l k)).setIfInBounds k (u32v (four (l.drop (4 * k)))) = stC (mixS l (k + 1)) := by
  match k, h with
  | 0, _ => rfl
  | 1, _ => rfl
  | 2, _ => rfl
  | 3, _ => rfl

set_option maxHeartbeats 400000 in
theorem Of_bad (lo : Nat) (v : Value) (l : List UInt8) (w : World) (h : Bs lo w.heap.size w v l) (hl : l.length ≠ 16) :
    Calls Tryd.prog 32 #[v] w fun e w' => e = .returned (.tuple #[stV zS, .int .i64 2]) ∧ Below w.heap.size w w' := by
  obtain ⟨A, c, rfl, _⟩ := h
  have h1 : ¬ (l.length : Int) = 16 := by omega
  have hB : Blk (w.alloc (.cells zC 24)) w.heap.size 24 zC := Blk.new rfl
  have hb : Below w.heap.size w (w.alloc (.cells zC 24)) := bl_alloc (Below.refl _ _) _
  replace hB := hide hB; replace hb := hide hb
  clear hl
  go_enter Tryd.func32, Tryd.ntmps32
  go_wp2_with (first
    | (refine wpList_store_row rfl 24 (.tmp 2) (.tmp 9) rfl w.heap.size zC rfl rfl 24 zC (unhide hB) size24 rfl (stC_one zS) ?_)
    | fail)
  exact ret_st2 rfl w.heap.size zS _ rfl rfl ((unhide hB).row _) rfl ⟨rfl, bl_row (unhide hb) _ (Nat.le_refl _)⟩

set_option maxHeartbeats 1000000 in
theorem Of_good (lo : Nat) (v : Value) (l : List UInt8) (w : World) (h : Bs lo w.heap.size w v l) (hl : l.length = 16) :
    Calls Tryd.prog 32 #[v] w fun e w' => e = .returned (.tuple #[stV (ofF l), .int .i64 0]) ∧ Below w.heap.size w w' := by
  obtain ⟨A, c, rfl⟩ : ∃ A c, v = .slice A 16 c := by obtain ⟨A, c, e, _⟩ := id h; exact ⟨A, c, by rw [e, hl]⟩
  have hB : Blk ((w.alloc (.cells zC 24)).alloc (.cells zC 24)) w.heap.size 24 zC := Blk.alloc (Blk.new rfl) _
  have hM : Blk ((w.alloc (.cells zC 24)).alloc (.cells zC 24)) (w.heap.size + 1) 24 (stC (mixS l 0)) := Blk.new (by simp)
  have hb : Below w.heap.size w ((w.alloc (.cells zC 24)).alloc (.cells zC 24)) := bl_alloc (bl_alloc (Below.refl _ _) _) _
  have hnum := fun (W : World) (hb : Below w.heap.size w W) (k : Nat) (hk : k < 4) =>
    show ∃ A' c', (∀ W, (Instr.slice 28 (.slice A 16 c) (some (.int .i64 (4 * (k : Int)))) none none).run Tryd.prog W = .ok (.slice A' (16 - 4 * k) c') W) ∧ Calls Tryd.prog 44 #[.slice A' (16 - 4 * k) c'] W (fun e w' => e = .returned (u32v (four (l.drop (4 * k)))) ∧ ∃ m, w' = W.drewN m) by
      obtain ⟨A', c', e, hb'⟩ := h.cut_l (4 * k) (4 * (k : Int)) (by omega) (by omega)
      rw [hl] at e hb'
      exact ⟨A', c', e, number_any _ _ _ _ W (hb'.below hb (Nat.le_refl _)) (by rw [List.length_drop]; omega)⟩
  replace hB := hide hB; replace hM := hide hM; replace hb := hide hb; replace hnum := hide hnum
  clear h hl
  go_enter Tryd.func32, Tryd.ntmps32
  go_upto_region 4 with (fail)
  generalize hW : World.alloc (World.alloc w _) _ = W at *
  clear hW
  go_wp2
  go_loopw [10] (fun i wr => ∃ k : Nat, k ≤ 4 ∧ i = .int .i64 k ∧ Hid (Blk wr (w.heap.size + 1) 24 (stC (mixS l k))) ∧ Hid (Blk wr w.heap.size 24 zC) ∧ Hid (Below w.heap.size w wr)) (fun i _ => 4 - (intOf i).toNat)
  case atStart => exact ⟨0, by omega, rfl, hM, hB, hb⟩
  case round =>
    obtain ⟨k, hk, rfl, M, B, b⟩ := hrel
    by_cases hlt : k < 4
    · obtain ⟨A', c', hsl, hcall⟩ := unhide hnum wr (unhide b) k hlt
      have hg := mixS_get l k hlt
      have hst := mixS_set l k hlt
      have cx : wr.cell? ⟨w.heap.size + 1, k, none⟩ = some (u32v 0#32) := by rw [(unhide M).cell]; exact hg
      have fx : wr.frozen? ⟨w.heap.size + 1, k, none⟩ = false := (unhide M).frozen k
      have k1 : (k : Int) < 4 := by omega
      have k0 : (0 : Int) ≤ (k : Int) := by omega
      have i1 : IntKind.i64.wrap (4 * (k : Int)) = 4 * (k : Int) := IntWalk.i64_in _ (by omega)
      generalize four (l.drop (4 * k)) = q at *
      replace hcall := hide hcall; replace hst := hide hst
      clear hg
      go_wp2_with (first
        | (go_at_call 44; refine (unhide hcall).mono ?_; rintro e w1 ⟨rfl, m1, rfl⟩)
        | fail)
      have M1 : Blk ((wr.drewN m1).setCell ⟨w.heap.size + 1, k, none⟩ (u32v q)) (w.heap.size + 1) 24 (stC (mixS l (k + 1))) := by rw [← unhide hst]; exact ((unhide M).drewN m1).set k (u32v q)
      have B1 : Blk ((wr.drewN m1).setCell ⟨w.heap.size + 1, k, none⟩ (u32v q)) w.heap.size 24 zC := ((unhide B).drewN m1).far (by simp) _
      have b1 : Below w.heap.size w ((wr.drewN m1).setCell ⟨w.heap.size + 1, k, none⟩ (u32v q)) := (below_drewN (unhide b) m1).setCell (by simp) _
      go_roundw
      case rel => exact ⟨k + 1, by omega, by go_num, M1, B1, b1⟩
      case measure => simp [intOf]; omega
    · obtain rfl : k = 4 := by omega
      have hs := mixS_all l
      rw [hs] at M
      clear hs
      obtain ⟨S, hS⟩ : ∃ S, S = ofF l := ⟨_, rfl⟩
      rw [← hS] at M
      replace hS := hide hS
      go_wp2_with (first
        | (refine wpList_load_row rfl 24 (.tmp 4) rfl (w.heap.size + 1) rfl 24 (stC S) (0, 0) _ (unhide M) Tryd.underlying24 rfl size24 ?_)
        | (refine wpList_store_row rfl 24 (.tmp 2) (.tmp 21) rfl w.heap.size (stC S) rfl rfl 24 zC (unhide B) size24 rfl (stC_one _) ?_)
        | fail)
      exact ret_st2 rfl w.heap.size S (.int .i64 0) rfl rfl ((unhide B).row _) rfl ⟨by rw [unhide hS], bl_row (unhide b) _ (Nat.le_refl _)⟩
end Go.Proofs.YtlgahaidnpgnaaaDoor
