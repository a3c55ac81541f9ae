import Derived.Test.YthmhhgodjpgjnaaW37
import Derived.Laws.ResultCell
namespace Go.Proofs.Ythmhhgodjpgjnaa
open Go.RowKit

set_option maxHeartbeats 1000000 in
theorem refNew_own (n : Nat) (hn : n ≤ 1024) (w : World) :
    Calls Try.prog 28 #[.int .i64 n] w fun e w' => ∃ A c, e = .returned (.tuple #[.slice A n c, .int .i64 0]) ∧ w'.ownsRow w.heap.size 3 1 (.slice A n c) n ((List.replicate n (1024 : Int)).flatMap ivc) ∧ Below w.heap.size w w' := by
  obtain ⟨i0, hi0, hz0, hz1, hz2⟩ := info3'
  have k0 : ¬ (n : Int) < 0 := by omega
  have k1 : ¬ (1024 : Int) < (n : Int) := by omega
  go_enter Try.func28, Try.ntmps28
  go_wp2_with fail
  clear k0 k1
  go_loopw [4, 12] (fun s i wr => ∃ (k : Nat) (A : Option Addr) (c : Nat), k ≤ n ∧ i = .int .i64 k ∧ s = .slice A k c ∧ Hid (wr.ownsRow w.heap.size 3 1 (.slice A k c) k ((List.replicate k (1024 : Int)).flatMap ivc)) ∧ Hid (Below w.heap.size w wr)) (fun _ i _ => n - (intOf i).toNat)
  case atStart => exact ⟨0, none, 0, Nat.zero_le _, rfl, rfl, hide (World.ownsRow_nil _ _ _ _), hide (by (repeat (first | with_reducible exact Below.refl _ _ | with_reducible assumption | with_reducible refine Below.drew ?_ | with_reducible refine bl_alloc ?_ _ | with_reducible refine bl_call ?_ (by assumption) | (focus (with_reducible refine Below.setCell ?_ ?_ _; rotate_left; focus (first | omega | (simp <;> omega)))) | fail)))⟩
  case round =>
    obtain ⟨k, A, c, hk, rfl, rfl, ho, hb⟩ := hrel
    by_cases hlt : k < n
    · have hsz := (unhide hb).size
      have ho1 := (unhide ho).alloc (.cells #[.int .i64 1024] 3)
      have hsrc : SrcOk (wr.alloc (.cells #[.int .i64 1024] 3)) (some ⟨wr.heap.size, 0, none⟩) 1 [.int .i64 1024] := SrcOk.blk (cur := [.int .i64 1024]) (Blk.new rfl) fun j u hu => by simpa using hu
      have hs1 : w.heap.size ≤ (wr.alloc (.cells #[.int .i64 1024] 3)).heap.size := by simp; omega
      have hb1 : k + 1 ≤ maxLen := by simp only [maxLen]; omega
      have hb2 : (k + 1) * 8 ≤ 140737488355328 := by omega
      have hbA := (unhide hb).alloc hsz (.cells #[.int .i64 1024] 3)
      have hf : (List.replicate (k + 1) (1024 : Int)).flatMap ivc = (List.replicate k (1024 : Int)).flatMap ivc ++ [.int .i64 1024] := by
        rw [List.replicate_succ', List.flatMap_append]; rfl
      have h1c : ∀ u ∈ [Value.int .i64 1024], u.oneCell' = true := by intro u hu; simp at hu; subst hu; rfl
      generalize (List.replicate k (1024 : Int)).flatMap ivc = xs at *
      replace ho1 := hide ho1; replace hsrc := hide hsrc; replace hs1 := hide hs1; replace hb1 := hide hb1; replace hb2 := hide hb2; replace hbA := hide hbA; replace hf := hide hf; replace h1c := hide h1c; replace hsz := hide hsz
      go_wp2_with (first
        | (at_builtin
           refine wpList_app _ rfl (.tmp 14) (.tmp 15) 24 rfl w.heap.size 3 i0 _ 1 8 Try.underlying24 hi0 hz0 hz1 hz2 rfl (Nat.succ_pos _) _ k xs rfl (unhide ho1) (some ⟨wr.heap.size, 0, none⟩) 1 1 [.int .i64 1024] rfl rfl (unhide hsrc) (unhide h1c) (unhide hb1) (unhide hb2) (unhide hs1) ?_
           intro v4 w4 ho5 hg4
           obtain ⟨A5, c5, rfl⟩ := ownsRow_form ho5
           have hb5 : Below w.heap.size w w4 := bl_grown (unhide hbA) hg4 (own_base (unhide ho1))
           replace hb5 := hide hb5
           clear hg4
           replace ho5 := hide ho5)
        | fail)
      go_roundw
      case rel => exact ⟨k + 1, A5, c5, by omega, by go_num, rfl, hide (by rw [unhide hf]; exact unhide ho5), hb5⟩
      case measure => simp [intOf]; omega
    · obtain rfl : k = n := by omega
      go_wp2_with fail
      go_ret2
      exact ⟨A, c, rfl, unhide ho, unhide hb⟩

/-- A 'Reading', by value, as what is read. -/
def RgV (lo hi : Nat) (w : World) (v : Value) (r : Rdr) : Prop := ∃ A c, v = .agg #[.slice A r.c.length c, .int .u32 r.span, .int .u32 r.code, .int .i64 r.used] ∧ Is lo hi w (.slice A r.c.length c) r.c
/-- .. its chances a row of the call's own. -/
def RgO (base : Nat) (w : World) (v : Value) (r : Rdr) : Prop := ∃ A c, v = .agg #[.slice A r.c.length c, .int .u32 r.span, .int .u32 r.code, .int .i64 r.used] ∧ w.ownsRow base 3 1 (.slice A r.c.length c) r.c.length (r.c.flatMap ivc)
theorem RgO.v {base : Nat} {w : World} {v : Value} {r : Rdr} (h : RgO base w v r) : RgV base w.heap.size w v r := by
  obtain ⟨A, c, e, h1⟩ := h
  exact ⟨A, c, e, Rd.of_own ivc_len (by omega) h1⟩
theorem RgV.grow {lo : Nat} {w w' : World} {v : Value} {r : Rdr} (h : RgV lo w.heap.size w v r) (hb : Below w.heap.size w w') : RgV lo w'.heap.size w' v r := by
  obtain ⟨A, c, e, h1⟩ := h
  exact ⟨A, c, e, h1.grow hb⟩
theorem ret_rg {fn : Func} {p u : Tmp} {R : Ending → World → Prop} {a : Act} {w : World} (h : fn.results = #[.cell p 40, .tmp u]) (g : Nat) (x y z t : Value) (v : Value)
    (hp : a.tmps.getD p undef = .pointer (some ⟨g, 0, none⟩)) (hu : a.tmps.getD u undef = v) (hg : Blk w g 40 #[x, y, z, t]) (hd : a.defers = []) (hR : R (.returned (.tuple #[.agg #[x, y, z, t], v])) w) : bodyPost Try.prog fn R .ret a w := by
  refine bodyPost_ret (v := .tuple #[.agg #[x, y, z, t], v]) ?_ hd hR
  rw [results_cell_tmp h, hp, hu]
  have hl := run_loadVar_row (P := Try.prog) w g 40 40 #[x, y, z, t] (0, 0) _ hg Try.underlying40 rfl ((by kernel_rfl : (Try.prog.info? 40).map (·.size) = some 4))
  simp [asAddr, Result.andThen, hl]
theorem Blk.set4 {w : World} {g : Nat} {t : TypeId} {a b c d x y z u : Value} (h : Blk w g t #[a, b, c, d]) : Blk ((((w.setCell ⟨g, 0, none⟩ x).setCell ⟨g, 1, none⟩ y).setCell ⟨g, 2, none⟩ z).setCell ⟨g, 3, none⟩ u) g t #[x, y, z, u] := by
  simpa using (((h.set 0 x).set 1 y).set 2 z).set 3 u

set_option maxHeartbeats 1000000 in
theorem refStart_arg (n : Int) (hn : newN n = false) (v : Value) (w : World) :
    Calls Try.prog 17 #[.int .i64 n, v] w fun e w' => e = .returned (.tuple #[.agg #[.slice none 0 0, .int .u32 0, .int .u32 0, .int .i64 0], .int .i64 1]) ∧ Below w.heap.size w w' := by
  have hN := fun W => refNew_bad n hn W
  replace hN := hide hN
  clear hn
  go_enter Try.func17, Try.ntmps17
  go_wp2_with (first
    | (go_at_call 28; refine (unhide hN _).mono ?_; rintro e w1 ⟨rfl, hb1⟩
       have hk := hide (Blk.below (g := w.heap.size) (t := 40) (cs := #[.slice none 0 0, .int .u32 0, .int .u32 0, .int .i64 0]) (Blk.new rfl) hb1 (by simp))
       have f0 := (unhide hk).frozen 0; have f1 := (unhide hk).frozen 1; have f2 := (unhide hk).frozen 2; have f3 := (unhide hk).frozen 3
       have r0 := (unhide hk).cell 0; have r1 := (unhide hk).cell 1; have r2 := (unhide hk).cell 2; have r3 := (unhide hk).cell 3
       simp at r0 r1 r2 r3)
    | fail)
  refine ret_rg rfl w.heap.size (.slice none 0 0) (.int .u32 0) (.int .u32 0) (.int .i64 0) (.int .i64 1) rfl rfl (unhide hk).set4 rfl ⟨rfl, ?_⟩
  (repeat (first | with_reducible exact Below.refl _ _ | with_reducible assumption | with_reducible refine Below.drew ?_ | with_reducible refine bl_alloc ?_ _ | with_reducible refine bl_call ?_ (by assumption) | (focus (with_reducible refine Below.setCell ?_ ?_ _; rotate_left; focus (first | omega | (simp <;> omega)))) | fail))
end Go.Proofs.Ythmhhgodjpgjnaa
