import Derived.Test.YthkccpemgmpadaaGreatDoorU9
import Derived.Laws.ResultCell
namespace Go.Proofs.YthkccpemgmpadaaGreatDoor.P
set_option maxRecDepth 100000
open Go.RowKit
set_option maxHeartbeats 1000000 in
theorem refNew_own (n : Nat) (hn : n ≤ 1024) (w : World) :
    Calls Tryz.prog 79 #[.int .i64 n] w fun e w' => ∃ A c, e = .returned (.tuple #[.slice A n c, .int .i64 0]) ∧ w'.ownsRow w.heap.size 3 1 (.slice A n c) n ((List.replicate n (1024 : Int)).flatMap ivc) ∧ Below w.heap.size w w' := by
  obtain ⟨i0, hi0, hz0, hz1, hz2⟩ := info3'
  have k0 : ¬ (n : Int) < 0 := by omega
  have k1 : ¬ (1024 : Int) < (n : Int) := by omega
  go_enter Tryz.func79, Tryz.ntmps79
  go_wp2_with fail
  clear k0 k1
  go_loopw [4, 12] (fun s i wr => ∃ (k : Nat) (A : Option Addr) (c : Nat), k ≤ n ∧ i = .int .i64 k ∧ s = .slice A k c ∧ Hid (wr.ownsRow w.heap.size 3 1 (.slice A k c) k ((List.replicate k (1024 : Int)).flatMap ivc)) ∧ Hid (Below w.heap.size w wr)) (fun _ i _ => n - (intOf i).toNat)
  case atStart => exact ⟨0, none, 0, Nat.zero_le _, rfl, rfl, hide (World.ownsRow_nil _ _ _ _), hide (by (repeat (first | with_reducible exact Below.refl _ _ | with_reducible assumption | with_reducible refine Below.drew ?_ | with_reducible refine bl_alloc ?_ _ | with_reducible refine bl_call ?_ (by assumption) | (focus (with_reducible refine Below.setCell ?_ ?_ _; rotate_left; focus (first | omega | (simp <;> omega)))) | fail)))⟩
  case round =>
    obtain ⟨k, A, c, hk, rfl, rfl, ho, hb⟩ := hrel
    by_cases hlt : k < n
    · have hsz := (unhide hb).size
      have ho1 := (unhide ho).alloc (.cells #[.int .i64 1024] 3)
      have hsrc : SrcOk (wr.alloc (.cells #[.int .i64 1024] 3)) (some ⟨wr.heap.size, 0, none⟩) 1 [.int .i64 1024] := SrcOk.blk (cur := [.int .i64 1024]) (Blk.new rfl) fun j u hu => by simpa using hu
      have hs1 : w.heap.size ≤ (wr.alloc (.cells #[.int .i64 1024] 3)).heap.size := by simp; omega
      have hb1 : k + 1 ≤ maxLen := by simp only [maxLen]; omega
      have hb2 : (k + 1) * 8 ≤ 140737488355328 := by omega
      have hbA := (unhide hb).alloc hsz (.cells #[.int .i64 1024] 3)
      have hf : (List.replicate (k + 1) (1024 : Int)).flatMap ivc = (List.replicate k (1024 : Int)).flatMap ivc ++ [.int .i64 1024] := by
        rw [List.replicate_succ', List.flatMap_append]; rfl
      have h1c : ∀ u ∈ [Value.int .i64 1024], u.oneCell' = true := by intro u hu; simp at hu; subst hu; rfl
      generalize (List.replicate k (1024 : Int)).flatMap ivc = xs at *
      replace ho1 := hide ho1; replace hsrc := hide hsrc; replace hs1 := hide hs1; replace hb1 := hide hb1; replace hb2 := hide hb2; replace hbA := hide hbA; replace hf := hide hf; replace h1c := hide h1c; replace hsz := hide hsz
      go_wp2_with (first
        | (at_builtin
           refine wpList_app _ rfl (.tmp 14) (.tmp 15) 72 rfl w.heap.size 3 i0 _ 1 8 Tryz.underlying72 hi0 hz0 hz1 hz2 rfl (Nat.succ_pos _) _ k xs rfl (unhide ho1) (some ⟨wr.heap.size, 0, none⟩) 1 1 [.int .i64 1024] rfl rfl (unhide hsrc) (unhide h1c) (unhide hb1) (unhide hb2) (unhide hs1) ?_
           intro v4 w4 ho5 hg4
           obtain ⟨A5, c5, rfl⟩ := ownsRow_form ho5
           have hb5 : Below w.heap.size w w4 := bl_grown (unhide hbA) hg4 (own_base (unhide ho1))
           replace hb5 := hide hb5
           clear hg4
           replace ho5 := hide ho5)
        | fail)
      go_roundw
      case rel => exact ⟨k + 1, A5, c5, by omega, by go_num, rfl, hide (by rw [unhide hf]; exact unhide ho5), hb5⟩
      case measure => simp [intOf]; omega
    · obtain rfl : k = n := by omega
      go_wp2_with fail
      go_ret2
      exact ⟨A, c, rfl, unhide ho, unhide hb⟩
def RgV (lo hi : Nat) (w : World) (v : Value) (r : Rdr) : Prop := ∃ A c, v = .agg #[.slice A r.c.length c, .int .u32 r.span, .int .u32 r.code, .int .i64 r.used] ∧ Is lo hi w (.slice A r.c.length c) r.c
def RgO (base : Nat) (w : World) (v : Value) (r : Rdr) : Prop := ∃ A c, v = .agg #[.slice A r.c.length c, .int .u32 r.span, .int .u32 r.code, .int .i64 r.used] ∧ w.ownsRow base 3 1 (.slice A r.c.length c) r.c.length (r.c.flatMap ivc)
theorem RgO.v {base : Nat} {w : World} {v : Value} {r : Rdr} (h : RgO base w v r) : RgV base w.heap.size w v r := by
  obtain ⟨A, c, e, h1⟩ := h
  exact ⟨A, c, e, Rd.of_own ivc_len (by omega) h1⟩
theorem RgV.grow {lo : Nat} {w w' : World} {v : Value} {r : Rdr} (h : RgV lo w.heap.size w v r) (hb : Below w.heap.size w w') : RgV lo w'.heap.size w' v r := by
  obtain ⟨A, c, e, h1⟩ := h
  exact ⟨A, c, e, h1.grow hb⟩
theorem ret_rg {fn : Func} {p u : Tmp} {R : Ending → World → Prop} {a : Act} {w : World} (h : fn.results = #[.cell p 74, .tmp u]) (g : Nat) (x y z t : Value) (v : Value)
    (hp : a.tmps.getD p undef = .pointer (some ⟨g, 0, none⟩)) (hu : a.tmps.getD u undef = v) (hg : Blk w g 74 #[x, y, z, t]) (hd : a.defers = []) (hR : R (.returned (.tuple #[.agg #[x, y, z, t], v])) w) : bodyPost Tryz.prog fn R .ret a w := by
  refine bodyPost_ret (v := .tuple #[.agg #[x, y, z, t], v]) ?_ hd hR
  rw [results_cell_tmp h, hp, hu]
  have hl := run_loadVar_row (P := Tryz.prog) w g 74 74 #[x, y, z, t] (0, 0) _ hg Tryz.underlying74 rfl ((by kernel_rfl : (Tryz.prog.info? 74).map (·.size) = some 4))
  simp [asAddr, Result.andThen, hl]
theorem Blk.set4 {w : World} {g : Nat} {t : TypeId} {a b c d x y z u : Value} (h : Blk w g t #[a, b, c, d]) : Blk ((((w.setCell ⟨g, 0, none⟩ x).setCell ⟨g, 1, none⟩ y).setCell ⟨g, 2, none⟩ z).setCell ⟨g, 3, none⟩ u) g t #[x, y, z, u] := by
  simpa using (((h.set 0 x).set 1 y).set 2 z).set 3 u
set_option maxHeartbeats 1000000 in
theorem refStart_arg (n : Int) (hn : newN n = false) (v : Value) (w : World) :
    Calls Tryz.prog 51 #[.int .i64 n, v] w fun e w' => e = .returned (.tuple #[.agg #[.slice none 0 0, .int .u32 0, .int .u32 0, .int .i64 0], .int .i64 1]) ∧ Below w.heap.size w w' := by
  have hN := fun W => refNew_bad n hn W
  replace hN := hide hN
  clear hn
  go_enter Tryz.func51, Tryz.ntmps51
  go_wp2_with (first
    | (go_at_call 79; refine (unhide hN _).mono ?_; rintro e w1 ⟨rfl, hb1⟩
       have hk := hide (Blk.below (g := w.heap.size) (t := 74) (cs := #[.slice none 0 0, .int .u32 0, .int .u32 0, .int .i64 0]) (Blk.new rfl) hb1 (by simp))
       have f0 := (unhide hk).frozen 0; have f1 := (unhide hk).frozen 1; have f2 := (unhide hk).frozen 2; have f3 := (unhide hk).frozen 3
       have r0 := (unhide hk).cell 0; have r1 := (unhide hk).cell 1; have r2 := (unhide hk).cell 2; have r3 := (unhide hk).cell 3
       simp at r0 r1 r2 r3)
    | fail)
  refine ret_rg rfl w.heap.size (.slice none 0 0) (.int .u32 0) (.int .u32 0) (.int .i64 0) (.int .i64 1) rfl rfl (unhide hk).set4 rfl ⟨rfl, ?_⟩
  (repeat (first | with_reducible exact Below.refl _ _ | with_reducible assumption | with_reducible refine Below.drew ?_ | with_reducible refine bl_alloc ?_ _ | with_reducible refine bl_call ?_ (by assumption) | (focus (with_reducible refine Below.setCell ?_ ?_ _; rotate_left; focus (first | omega | (simp <;> omega)))) | fail))
theorem slice_lh23 (A : Option Addr) (n c i j : Nat) (hij : i ≤ j) (hj : j ≤ c) (W : World) :
    (Instr.slice 29 (.slice A n c) (some (.int .i64 (i : Int))) (some (.int .i64 (j : Int))) none).run Tryz.prog W = .ok (sliced A i j c 1) W := by
  rw [run_slice_lh (P := Tryz.prog) W 29 A n c (by kernel_rfl) .i64 .i64 i j (by omega) (by omega) (by omega), show (sizeOf (Tryz.prog.elem 29)).run Tryz.prog W = .ok 1 W from by kernel_rfl]
  simp [Result.andThen]
set_option maxHeartbeats 1000000 in
theorem refStart_few (n : Nat) (hn : n ≤ 1024) (lo : Nat) (v : Value) (t : List Int) (w : World) (hv : Os lo w.heap.size w v t) (h : t.length < 5) :
    Calls Tryz.prog 51 #[.int .i64 n, v] w fun e w' => e = .returned (.tuple #[.agg #[.slice none 0 0, .int .u32 0, .int .u32 0, .int .i64 0], .int .i64 2]) ∧ Below w.heap.size w w' := by
  have hN := fun W => refNew_own n hn W
  obtain ⟨A, c, rfl, x1, x2, x3⟩ := Os.open hv
  clear hv x3
  have h' : (t.length : Int) < 5 := by omega
  replace hN := hide hN
  go_enter Tryz.func51, Tryz.ntmps51
  go_wp2_with (first
    | (go_at_call 79; refine (unhide hN _).mono ?_; rintro e w1 ⟨A1, c1, rfl, ho, hb1⟩; replace ho := hide ho
       have hk := hide (Blk.below (g := w.heap.size) (t := 74) (cs := #[.slice none 0 0, .int .u32 0, .int .u32 0, .int .i64 0]) (Blk.new rfl) hb1 (by simp))
       have f0 := (unhide hk).frozen 0; have f1 := (unhide hk).frozen 1; have f2 := (unhide hk).frozen 2; have f3 := (unhide hk).frozen 3
       have r0 := (unhide hk).cell 0; have r1 := (unhide hk).cell 1; have r2 := (unhide hk).cell 2; have r3 := (unhide hk).cell 3
       simp at r0 r1 r2 r3)
    | fail)
  refine ret_rg rfl w.heap.size (.slice none 0 0) (.int .u32 0) (.int .u32 0) (.int .i64 0) (.int .i64 2) rfl rfl (unhide hk).set4 rfl ⟨rfl, ?_⟩
  (repeat (first | with_reducible exact Below.refl _ _ | with_reducible assumption | with_reducible refine Below.drew ?_ | with_reducible refine bl_alloc ?_ _ | with_reducible refine bl_call ?_ (by assumption) | (focus (with_reducible refine Below.setCell ?_ ?_ _; rotate_left; focus (first | omega | (simp <;> omega)))) | fail))
set_option maxHeartbeats 1000000 in
theorem refStart_zero (n : Nat) (hn : n ≤ 1024) (lo : Nat) (v : Value) (t : List Int) (w : World) (hv : Os lo w.heap.size w v t) (h5 : 5 ≤ t.length) (h : t.getD 0 0 ≠ 0) :
    Calls Tryz.prog 51 #[.int .i64 n, v] w fun e w' => e = .returned (.tuple #[.agg #[.slice none 0 0, .int .u32 0, .int .u32 0, .int .i64 0], .int .i64 2]) ∧ Below w.heap.size w w' := by
  have hN := fun W => refNew_own n hn W
  obtain ⟨A, c, rfl, x1, x2, x3⟩ := Os.open hv
  obtain ⟨b, off, rfl, y1, y2, q0⟩ := x3 0 (by omega)
  rw [getD_get (l := t) (k := 0) (by omega)] at h
  rw [Nat.add_zero] at q0
  generalize t[0] = o at *
  clear hv x3
  have h' : (o != 0) = true := by simpa using h
  have hL : 5 ≤ (t.length : Int) := by omega
  replace hN := hide hN
  clear h
  go_enter Tryz.func51, Tryz.ntmps51
  go_wp2_with (first
    | (go_at_call 79; refine (unhide hN _).mono ?_; rintro e w1 ⟨A1, c1, rfl, ho, hb1⟩; replace ho := hide ho
       have hk := hide (Blk.below (g := w.heap.size) (t := 74) (cs := #[.slice none 0 0, .int .u32 0, .int .u32 0, .int .i64 0]) (Blk.new rfl) hb1 (by simp))
       have f0 := (unhide hk).frozen 0; have f1 := (unhide hk).frozen 1; have f2 := (unhide hk).frozen 2; have f3 := (unhide hk).frozen 3
       have r0 := (unhide hk).cell 0; have r1 := (unhide hk).cell 1; have r2 := (unhide hk).cell 2; have r3 := (unhide hk).cell 3
       simp at r0 r1 r2 r3
       have hlt1 : w.heap.size < w1.heap.size := (unhide hk).lt
       have q0' := (hb1.cell (p := ⟨b, off, none⟩) (by simp; omega)).trans ((World.cell?_of_block (a := ⟨b, off, none⟩) (Below.heap_alloc w (.cells #[.slice none 0 0, .int .u32 0, .int .u32 0, .int .i64 0] 74) b y2)).trans q0)
       have y9 : b < w1.heap.size := by omega)
    | fail)
  refine ret_rg rfl w.heap.size (.slice none 0 0) (.int .u32 0) (.int .u32 0) (.int .i64 0) (.int .i64 2) rfl rfl (unhide hk).set4 rfl ⟨rfl, ?_⟩
  (repeat (first | with_reducible exact Below.refl _ _ | with_reducible assumption | with_reducible refine Below.drew ?_ | with_reducible refine bl_alloc ?_ _ | with_reducible refine bl_call ?_ (by assumption) | (focus (with_reducible refine Below.setCell ?_ ?_ _; rotate_left; focus (first | omega | (simp <;> omega)))) | fail))
set_option maxHeartbeats 2000000 in
theorem refStart_full (n : Nat) (hn : n ≤ 1024) (lo : Nat) (v : Value) (t : List Int) (w : World) (hv : Os lo w.heap.size w v t) (ht : okB t) (h5 : 5 ≤ t.length) (h3 : t.getD 0 0 = 0) (h4 : num ((t.drop 1).take 4) = 4294967295) :
    Calls Tryz.prog 51 #[.int .i64 n, v] w fun e w' => e = .returned (.tuple #[.agg #[.slice none 0 0, .int .u32 0, .int .u32 0, .int .i64 0], .int .i64 2]) ∧ Below w.heap.size w w' := by
  have hN := fun W => refNew_own n hn W
  have g1 := ht t[1] (List.getElem_mem _); have g2 := ht t[2] (List.getElem_mem _); have g3 := ht t[3] (List.getElem_mem _); have g4 := ht t[4] (List.getElem_mem _)
  rw [take4 h5] at h4
  have n4 : num [t[1], t[2], t[3], t[4]] = ((t[1] * 256 + t[2]) * 256 + t[3]) * 256 + t[4] := by simp [num, numR]; omega
  rw [n4] at h4
  obtain ⟨A, c, rfl, x1, x2, x3⟩ := Os.open hv
  obtain ⟨b, off, rfl, y1, y2, q0⟩ := x3 0 (by omega)
  have qq : ∀ i (hi : i < t.length), w.cell? ⟨b, off + i, none⟩ = some (.int .u8 t[i]) := fun i hi => by
    obtain ⟨b', off', e, _, _, hc⟩ := x3 i hi
    injection e with e; injection e with e1 e2; subst e1 e2
    exact hc
  have q1 := qq 1 (by omega); have q2 := qq 2 (by omega); have q3 := qq 3 (by omega); have q4 := qq 4 (by omega)
  have e0 : t[0] = 0 := by rw [← getD_get (l := t) (k := 0) (by omega)]; exact h3
  rw [e0, Nat.add_zero] at q0
  have sl := slice_lh23 (some ⟨b, off, none⟩) t.length c 1 5 (by omega) (by omega)
  unfold sliced at sl
  rw [if_neg (by omega)] at sl
  have hL : 5 ≤ (t.length : Int) := by omega
  generalize t[1] = o1 at *; generalize t[2] = o2 at *; generalize t[3] = o3 at *; generalize t[4] = o4 at *
  clear x3 qq h3 hv ht e0 n4
  have m0 : IntKind.u32.wrap (0 + o1) = o1 := by rw [IntWalk.u32_in _ (by omega)]; omega
  have m0' : IntKind.u32.wrap o1 = o1 := IntWalk.u32_in _ (by omega)
  have m1 : IntKind.u32.wrap (o1 * 256) = o1 * 256 := IntWalk.u32_in _ (by omega)
  have m2 : IntKind.u32.wrap ((o1 * 256 + o2) * 256) = (o1 * 256 + o2) * 256 := IntWalk.u32_in _ (by omega)
  have m3 : IntKind.u32.wrap (((o1 * 256 + o2) * 256 + o3) * 256) = ((o1 * 256 + o2) * 256 + o3) * 256 := IntWalk.u32_in _ (by omega)
  have p2 : IntKind.u32.wrap (o1 * 256 + o2) = o1 * 256 + o2 := IntWalk.u32_in _ (by omega)
  have p3 : IntKind.u32.wrap ((o1 * 256 + o2) * 256 + o3) = (o1 * 256 + o2) * 256 + o3 := IntWalk.u32_in _ (by omega)
  have p4 : IntKind.u32.wrap (((o1 * 256 + o2) * 256 + o3) * 256 + o4) = ((o1 * 256 + o2) * 256 + o3) * 256 + o4 := IntWalk.u32_in _ (by omega)
  have v2 : IntKind.u32.wrap o2 = o2 := IntWalk.u32_in _ (by omega)
  have v3 : IntKind.u32.wrap o3 = o3 := IntWalk.u32_in _ (by omega)
  have v4 : IntKind.u32.wrap o4 = o4 := IntWalk.u32_in _ (by omega)
  replace hN := hide hN; replace h4 := hide h4
  clear g1 g2 g3 g4
  go_enter Tryz.func51, Tryz.ntmps51
  go_wp2_with (first
    | (go_at_call 79; refine (unhide hN _).mono ?_; rintro e w1 ⟨A1, c1, rfl, ho, hb1⟩; replace ho := hide ho
       have hk := hide (Blk.below (g := w.heap.size) (t := 74) (cs := #[.slice none 0 0, .int .u32 0, .int .u32 0, .int .i64 0]) (Blk.new rfl) hb1 (by simp))
       have f0 := (unhide hk).frozen 0; have f1 := (unhide hk).frozen 1; have f2 := (unhide hk).frozen 2; have f3 := (unhide hk).frozen 3
       have r0 := (unhide hk).cell 0; have r1 := (unhide hk).cell 1; have r2 := (unhide hk).cell 2; have r3 := (unhide hk).cell 3
       simp at r0 r1 r2 r3
       have hlt1 : w.heap.size < w1.heap.size := (unhide hk).lt
       have qs : ∀ i u, w.cell? ⟨b, i, none⟩ = some u → w1.cell? ⟨b, i, none⟩ = some u := fun i u q => (hb1.cell (p := ⟨b, i, none⟩) (by simp; omega)).trans ((World.cell?_of_block (a := ⟨b, i, none⟩) (Below.heap_alloc w (.cells #[.slice none 0 0, .int .u32 0, .int .u32 0, .int .i64 0] 74) b y2)).trans q)
       have q0' := qs _ _ q0; have q1' := qs _ _ q1; have q2' := qs _ _ q2; have q3' := qs _ _ q3; have q4' := qs _ _ q4
       clear qs
       have y9 : b < w1.heap.size := by omega)
    | fail)
  go_loopw [8, 33] (fun s i wr => ((i = .int .i64 0 ∧ s = .int .u32 0) ∨ (i = .int .i64 1 ∧ s = .int .u32 o1) ∨ (i = .int .i64 2 ∧ s = .int .u32 (o1 * 256 + o2)) ∨ (i = .int .i64 3 ∧ s = .int .u32 ((o1 * 256 + o2) * 256 + o3)) ∨ (i = .int .i64 4 ∧ s = .int .u32 (((o1 * 256 + o2) * 256 + o3) * 256 + o4))) ∧ w1 = wr) (fun _ i _ => 4 - (intOf i).toNat)
  case atStart => exact ⟨.inl ⟨rfl, rfl⟩, rfl⟩
  case round =>
    obtain ⟨hcase, rfl⟩ := hrel
    rcases hcase with ⟨rfl, rfl⟩ | ⟨rfl, rfl⟩ | ⟨rfl, rfl⟩ | ⟨rfl, rfl⟩ | ⟨rfl, rfl⟩
    · go_wp2_with fail
      go_roundw
      case rel => exact ⟨.inr (.inl ⟨rfl, rfl⟩), by first | rfl | trivial⟩
      case measure => decide
    · go_wp2_with fail
      go_roundw
      case rel => exact ⟨.inr (.inr (.inl ⟨rfl, rfl⟩)), by first | rfl | trivial⟩
      case measure => decide
    · go_wp2_with fail
      go_roundw
      case rel => exact ⟨.inr (.inr (.inr (.inl ⟨rfl, rfl⟩))), by first | rfl | trivial⟩
      case measure => decide
    · go_wp2_with fail
      go_roundw
      case rel => exact ⟨.inr (.inr (.inr (.inr (⟨rfl, rfl⟩)))), by first | rfl | trivial⟩
      case measure => decide
    · clear q0' q1' q2' q3' q4' m0 m0' m1 m2 m3 p2 p3 p4 v2 v3 v4
      have h4' := unhide h4
      have heq : ((((o1 * 256 + o2) * 256 + o3) * 256 + o4) == 4294967295) = true := by rw [beq_iff_eq]; omega
      clear h4'
      go_wp2_with fail
      refine ret_rg rfl w.heap.size (.slice none 0 0) (.int .u32 0) (.int .u32 0) (.int .i64 0) (.int .i64 2) rfl rfl (unhide hk).set4 rfl ⟨rfl, ?_⟩
      (repeat (first | with_reducible exact Below.refl _ _ | with_reducible assumption | with_reducible refine Below.drew ?_ | with_reducible refine bl_alloc ?_ _ | with_reducible refine bl_call ?_ (by assumption) | (focus (with_reducible refine Below.setCell ?_ ?_ _; rotate_left; focus (first | omega | (simp <;> omega)))) | fail))
set_option maxHeartbeats 2000000 in
theorem refStart_good (n : Nat) (hn : n ≤ 1024) (lo : Nat) (v : Value) (t : List Int) (w : World) (hv : Os lo w.heap.size w v t) (ht : okB t) (h5 : 5 ≤ t.length) (h3 : t.getD 0 0 = 0) (h4 : num ((t.drop 1).take 4) ≠ 4294967295) :
    Calls Tryz.prog 51 #[.int .i64 n, v] w fun e w' => ∃ v', e = .returned (.tuple #[v', .int .i64 0]) ∧ RgO w.heap.size w' v' (startR n t) ∧ Below w.heap.size w w' := by
  have hN := fun W => refNew_own n hn W
  have g1 := ht t[1] (List.getElem_mem _); have g2 := ht t[2] (List.getElem_mem _); have g3 := ht t[3] (List.getElem_mem _); have g4 := ht t[4] (List.getElem_mem _)
  rw [take4 h5] at h4
  have n4 : num [t[1], t[2], t[3], t[4]] = ((t[1] * 256 + t[2]) * 256 + t[3]) * 256 + t[4] := by simp [num, numR]; omega
  rw [n4] at h4
  have hst : startR n t = ⟨List.replicate n 1024, 4294967295, ((t[1] * 256 + t[2]) * 256 + t[3]) * 256 + t[4], 5⟩ := by unfold startR; rw [take4 h5, n4]; simp
  rw [hst]
  clear hst
  obtain ⟨A, c, rfl, x1, x2, x3⟩ := Os.open hv
  obtain ⟨b, off, rfl, y1, y2, q0⟩ := x3 0 (by omega)
  have qq : ∀ i (hi : i < t.length), w.cell? ⟨b, off + i, none⟩ = some (.int .u8 t[i]) := fun i hi => by
    obtain ⟨b', off', e, _, _, hc⟩ := x3 i hi
    injection e with e; injection e with e1 e2; subst e1 e2
    exact hc
  have q1 := qq 1 (by omega); have q2 := qq 2 (by omega); have q3 := qq 3 (by omega); have q4 := qq 4 (by omega)
  have e0 : t[0] = 0 := by rw [← getD_get (l := t) (k := 0) (by omega)]; exact h3
  rw [e0, Nat.add_zero] at q0
  have sl := slice_lh23 (some ⟨b, off, none⟩) t.length c 1 5 (by omega) (by omega)
  unfold sliced at sl
  rw [if_neg (by omega)] at sl
  have hL : 5 ≤ (t.length : Int) := by omega
  generalize t[1] = o1 at *; generalize t[2] = o2 at *; generalize t[3] = o3 at *; generalize t[4] = o4 at *
  clear x3 qq h3 hv ht e0 n4
  have m0 : IntKind.u32.wrap (0 + o1) = o1 := by rw [IntWalk.u32_in _ (by omega)]; omega
  have m0' : IntKind.u32.wrap o1 = o1 := IntWalk.u32_in _ (by omega)
  have m1 : IntKind.u32.wrap (o1 * 256) = o1 * 256 := IntWalk.u32_in _ (by omega)
  have m2 : IntKind.u32.wrap ((o1 * 256 + o2) * 256) = (o1 * 256 + o2) * 256 := IntWalk.u32_in _ (by omega)
  have m3 : IntKind.u32.wrap (((o1 * 256 + o2) * 256 + o3) * 256) = ((o1 * 256 + o2) * 256 + o3) * 256 := IntWalk.u32_in _ (by omega)
  have p2 : IntKind.u32.wrap (o1 * 256 + o2) = o1 * 256 + o2 := IntWalk.u32_in _ (by omega)
  have p3 : IntKind.u32.wrap ((o1 * 256 + o2) * 256 + o3) = (o1 * 256 + o2) * 256 + o3 := IntWalk.u32_in _ (by omega)
  have p4 : IntKind.u32.wrap (((o1 * 256 + o2) * 256 + o3) * 256 + o4) = ((o1 * 256 + o2) * 256 + o3) * 256 + o4 := IntWalk.u32_in _ (by omega)
  have v2 : IntKind.u32.wrap o2 = o2 := IntWalk.u32_in _ (by omega)
  have v3 : IntKind.u32.wrap o3 = o3 := IntWalk.u32_in _ (by omega)
  have v4 : IntKind.u32.wrap o4 = o4 := IntWalk.u32_in _ (by omega)
  replace hN := hide hN; replace h4 := hide h4
  clear g1 g2 g3 g4
  go_enter Tryz.func51, Tryz.ntmps51
  go_wp2_with (first
    | (go_at_call 79; refine (unhide hN _).mono ?_; rintro e w1 ⟨A1, c1, rfl, ho, hb1⟩; replace ho := hide ho
       have hk := hide (Blk.below (g := w.heap.size) (t := 74) (cs := #[.slice none 0 0, .int .u32 0, .int .u32 0, .int .i64 0]) (Blk.new rfl) hb1 (by simp))
       have f0 := (unhide hk).frozen 0; have f1 := (unhide hk).frozen 1; have f2 := (unhide hk).frozen 2; have f3 := (unhide hk).frozen 3
       have r0 := (unhide hk).cell 0; have r1 := (unhide hk).cell 1; have r2 := (unhide hk).cell 2; have r3 := (unhide hk).cell 3
       simp at r0 r1 r2 r3
       have hlt1 : w.heap.size < w1.heap.size := (unhide hk).lt
       have qs : ∀ i u, w.cell? ⟨b, i, none⟩ = some u → w1.cell? ⟨b, i, none⟩ = some u := fun i u q => (hb1.cell (p := ⟨b, i, none⟩) (by simp; omega)).trans ((World.cell?_of_block (a := ⟨b, i, none⟩) (Below.heap_alloc w (.cells #[.slice none 0 0, .int .u32 0, .int .u32 0, .int .i64 0] 74) b y2)).trans q)
       have q0' := qs _ _ q0; have q1' := qs _ _ q1; have q2' := qs _ _ q2; have q3' := qs _ _ q3; have q4' := qs _ _ q4
       clear qs
       have y9 : b < w1.heap.size := by omega)
    | fail)
  go_loopw [8, 33] (fun s i wr => ((i = .int .i64 0 ∧ s = .int .u32 0) ∨ (i = .int .i64 1 ∧ s = .int .u32 o1) ∨ (i = .int .i64 2 ∧ s = .int .u32 (o1 * 256 + o2)) ∨ (i = .int .i64 3 ∧ s = .int .u32 ((o1 * 256 + o2) * 256 + o3)) ∨ (i = .int .i64 4 ∧ s = .int .u32 (((o1 * 256 + o2) * 256 + o3) * 256 + o4))) ∧ w1 = wr) (fun _ i _ => 4 - (intOf i).toNat)
  case atStart => exact ⟨.inl ⟨rfl, rfl⟩, rfl⟩
  case round =>
    obtain ⟨hcase, rfl⟩ := hrel
    rcases hcase with ⟨rfl, rfl⟩ | ⟨rfl, rfl⟩ | ⟨rfl, rfl⟩ | ⟨rfl, rfl⟩ | ⟨rfl, rfl⟩
    · go_wp2_with fail
      go_roundw
      case rel => exact ⟨.inr (.inl ⟨rfl, rfl⟩), by first | rfl | trivial⟩
      case measure => decide
    · go_wp2_with fail
      go_roundw
      case rel => exact ⟨.inr (.inr (.inl ⟨rfl, rfl⟩)), by first | rfl | trivial⟩
      case measure => decide
    · go_wp2_with fail
      go_roundw
      case rel => exact ⟨.inr (.inr (.inr (.inl ⟨rfl, rfl⟩))), by first | rfl | trivial⟩
      case measure => decide
    · go_wp2_with fail
      go_roundw
      case rel => exact ⟨.inr (.inr (.inr (.inr (⟨rfl, rfl⟩)))), by first | rfl | trivial⟩
      case measure => decide
    · clear q0' q1' q2' q3' q4' m0 m0' m1 m2 m3 p2 p3 p4 v2 v3 v4
      have h4' := unhide h4
      have heq : ((((o1 * 256 + o2) * 256 + o3) * 256 + o4) == 4294967295) = false := by rw [beq_eq_false_iff_ne]; omega
      clear h4'
      go_wp2_with fail
      generalize ((o1 * 256 + o2) * 256 + o3) * 256 + o4 = N at *
      have h3 := ownsRow_mono (unhide ho) (show w.heap.size ≤ _ by simp)
      have K := unhide hk
      have o9 := own_far (own_far (own_far (own_far h3 K (by decide) 0 (.slice A1 n c1)) (K.set 0 _) (by decide) 1 (.int .u32 4294967295)) ((K.set 0 _).set 1 _) (by decide) 2 (.int .u32 N)) (((K.set 0 _).set 1 _).set 2 _) (by decide) 3 (.int .i64 5)
      refine ret_rg rfl w.heap.size (.slice A1 n c1) (.int .u32 4294967295) (.int .u32 N) (.int .i64 5) (.int .i64 0) rfl rfl K.set4 rfl ?_
      refine ⟨_, rfl, ⟨A1, c1, by simp, ?_⟩, ?_⟩
      · rw [List.length_replicate]; exact o9
      · (repeat (first | with_reducible exact Below.refl _ _ | with_reducible assumption | with_reducible refine Below.drew ?_ | with_reducible refine bl_alloc ?_ _ | with_reducible refine bl_call ?_ (by assumption) | (focus (with_reducible refine Below.setCell ?_ ?_ _; rotate_left; focus (first | omega | (simp <;> omega)))) | fail))
theorem refStart_bad (n : Int) (lo : Nat) (v : Value) (t : List Int) (w : World) (hv : Os lo w.heap.size w v t) (ht : okB t) (h : startE n t ≠ 0) :
    Calls Tryz.prog 51 #[.int .i64 n, v] w fun e w' => e = .returned (.tuple #[.agg #[.slice none 0 0, .int .u32 0, .int .u32 0, .int .i64 0], .int .i64 (startE n t)]) ∧ Below w.heap.size w w' := by
  cases hn : newN n
  · have e : startE n t = 1 := by unfold startE; rw [if_pos hn]
    rw [e]
    exact refStart_arg n hn v w
  · have e : startE n t = 2 := by
      unfold startE at h ⊢
      rw [if_neg (by rw [hn]; decide)] at h ⊢
      split
      · rfl
      · rename_i h1
        rw [if_neg h1] at h
        exact absurd rfl h
    have h' : ¬ startE n t = 0 := h
    rw [startE_iff] at h'
    rw [e]
    obtain ⟨n0, n1⟩ := newN_iff.1 hn
    obtain ⟨m, rfl⟩ : ∃ m : Nat, n = (m : Int) := ⟨n.toNat, by omega⟩
    by_cases h5 : t.length < 5
    · exact refStart_few m (by omega) lo v t w hv h5
    · by_cases h0 : t.getD 0 0 = 0
      · exact refStart_full m (by omega) lo v t w hv ht (by omega) h0 (Decidable.byContradiction fun hc => h' ⟨hn, by omega, h0, hc⟩)
      · exact refStart_zero m (by omega) lo v t w hv (by omega) h0
theorem refStart_ok (n : Nat) (hn : n ≤ 1024) (lo : Nat) (v : Value) (t : List Int) (w : World) (hv : Os lo w.heap.size w v t) (ht : okB t) (h : startE n t = 0) :
    Calls Tryz.prog 51 #[.int .i64 n, v] w fun e w' => ∃ v', e = .returned (.tuple #[v', .int .i64 0]) ∧ RgO w.heap.size w' v' (startR n t) ∧ Below w.heap.size w w' := by
  obtain ⟨_, h5, h3, h4⟩ := startE_iff.1 h
  exact refStart_good n hn lo v t w hv ht h5 h3 h4
theorem results_tct {fn : Func} {t p u : Tmp} {ty : TypeId} (h : fn.results = #[.tmp t, .cell p ty, .tmp u]) (tmps : Array Value) (P : Program) (w : World) :
    (results fn tmps).run P w =
      ((asAddr (tmps.getD p undef)).run P w).andThen fun a w₁ => ((loadVar ty a).run P w₁).andThen fun v w₂ => .ok (.tuple #[tmps.getD t undef, v, tmps.getD u undef]) w₂ := by
  simp only [results, h]
  simp [Sem.run_bind, Result.andThen]
theorem ret_nx {fn : Func} {s p u : Tmp} {R : Ending → World → Prop} {a : Act} {w : World} (h : fn.results = #[.tmp s, .cell p 74, .tmp u]) (g : Nat) (x y z t : Value) (q v : Value)
    (hp : a.tmps.getD p undef = .pointer (some ⟨g, 0, none⟩)) (hs : a.tmps.getD s undef = q) (hu : a.tmps.getD u undef = v) (hg : Blk w g 74 #[x, y, z, t]) (hd : a.defers = []) (hR : R (.returned (.tuple #[q, .agg #[x, y, z, t], v])) w) : bodyPost Tryz.prog fn R .ret a w := by
  refine bodyPost_ret (v := .tuple #[q, .agg #[x, y, z, t], v]) ?_ hd hR
  rw [results_tct h, hp, hs, hu]
  have hl := run_loadVar_row (P := Tryz.prog) w g 74 74 #[x, y, z, t] (0, 0) _ hg Tryz.underlying74 rfl ((by kernel_rfl : (Tryz.prog.info? 74).map (·.size) = some 4))
  simp [asAddr, Result.andThen, hl]
set_option maxHeartbeats 2000000 in
theorem refNext_none (lo : Nat) (v v' : Value) (i : Int) (r : Rdr) (w : World) (hv : RgO lo w v r) (hi : ¬ (0 ≤ i ∧ i < r.c.length)) :
    Calls Tryz.prog 80 #[v, v', .int .i64 i] w fun e w' => ∃ v', e = .returned (.tuple #[.bool false, v', .int .i64 4]) ∧ RgO lo w' v' r ∧ Below w.heap.size w w' := by
  obtain ⟨A, c, rfl, hI⟩ := hv
  have hfin := fun W (hb : Below w.heap.size w W) => own_below hI hb (Nat.le_refl _)
  clear hI
  replace hfin := hide hfin
  by_cases h0 : i < 0
  · have d0 : decide (i < 0) = true := by simpa using h0
    clear hi h0
    go_enter Tryz.func80, Tryz.ntmps80
    go_wp2_with fail
    go_region
    all_goals go_wp2_with fail
    all_goals
      refine ret_nx rfl (w.heap.size + 1) (.slice A r.c.length c) (.int .u32 r.span) (.int .u32 r.code) (.int .i64 r.used) (.bool false) (.int .i64 4) rfl rfl rfl (by first | exact (Blk.new (by simp)).drew | exact Blk.new (by simp)) rfl ?_
      exact ⟨_, rfl, ⟨A, c, rfl, unhide hfin _ (by (repeat (first | with_reducible exact Below.refl _ _ | with_reducible assumption | with_reducible refine Below.drew ?_ | with_reducible refine bl_alloc ?_ _ | with_reducible refine bl_call ?_ (by assumption) | (focus (with_reducible refine Below.setCell ?_ ?_ _; rotate_left; focus (first | omega | (simp <;> omega)))) | fail)))⟩, by (repeat (first | with_reducible exact Below.refl _ _ | with_reducible assumption | with_reducible refine Below.drew ?_ | with_reducible refine bl_alloc ?_ _ | with_reducible refine bl_call ?_ (by assumption) | (focus (with_reducible refine Below.setCell ?_ ?_ _; rotate_left; focus (first | omega | (simp <;> omega)))) | fail))⟩
  · have d0 : decide (i < 0) = false := by simpa using h0
    have d1 : decide ((r.c.length : Int) ≤ i) = true := by simp; omega
    clear hi h0
    go_enter Tryz.func80, Tryz.ntmps80
    go_wp2_with fail
    go_region
    all_goals go_wp2_with fail
    all_goals
      refine ret_nx rfl (w.heap.size + 1) (.slice A r.c.length c) (.int .u32 r.span) (.int .u32 r.code) (.int .i64 r.used) (.bool false) (.int .i64 4) rfl rfl rfl (by first | exact (Blk.new (by simp)).drew | exact Blk.new (by simp)) rfl ?_
      exact ⟨_, rfl, ⟨A, c, rfl, unhide hfin _ (by (repeat (first | with_reducible exact Below.refl _ _ | with_reducible assumption | with_reducible refine Below.drew ?_ | with_reducible refine bl_alloc ?_ _ | with_reducible refine bl_call ?_ (by assumption) | (focus (with_reducible refine Below.setCell ?_ ?_ _; rotate_left; focus (first | omega | (simp <;> omega)))) | fail)))⟩, by (repeat (first | with_reducible exact Below.refl _ _ | with_reducible assumption | with_reducible refine Below.drew ?_ | with_reducible refine bl_alloc ?_ _ | with_reducible refine bl_call ?_ (by assumption) | (focus (with_reducible refine Below.setCell ?_ ?_ _; rotate_left; focus (first | omega | (simp <;> omega)))) | fail))⟩
theorem rgC {w w3 : World} {g0 g1 gA cA n : Nat} {e : TypeId} {c0 c1 X : Array Value} {xs : List Value} (o3 : w3.ownsRow w.heap.size e 1 (.slice (some ⟨gA, 0, none⟩) n cA) n xs) (k0 : Blk w3 g0 74 c0) (k1 : Blk w3 g1 74 c1) (B3 : Below w.heap.size w w3) :
    Blk (w3.alloc (.cells X 74)) w3.heap.size 74 X ∧ (w3.alloc (.cells X 74)).ownsRow w.heap.size e 1 (.slice (some ⟨gA, 0, none⟩) n cA) n xs ∧ Blk (w3.alloc (.cells X 74)) g0 74 c0 ∧ Blk (w3.alloc (.cells X 74)) g1 74 c1 ∧ Below w.heap.size w (w3.alloc (.cells X 74)) :=
  ⟨Blk.new rfl, o3.alloc _, k0.alloc _, k1.alloc _, B3.alloc B3.size _⟩
theorem rgD {w w3 : World} {g0 g1 g9 gA cA n : Nat} {c0 c1 : Array Value} {a b c d x y z u : Value} {xs : List Value} (o3 : w3.ownsRow w.heap.size 3 1 (.slice (some ⟨gA, 0, none⟩) n cA) n xs) (k0 : Blk w3 g0 74 c0) (k1 : Blk w3 g1 74 c1) (k9 : Blk w3 g9 74 #[a, b, c, d]) (B3 : Below w.heap.size w w3) (h0 : g0 ≠ g9) (h1 : g1 ≠ g9) (h9 : w.heap.size ≤ g9) :
    Blk ((((w3.setCell ⟨g9, 0, none⟩ x).setCell ⟨g9, 1, none⟩ y).setCell ⟨g9, 2, none⟩ z).setCell ⟨g9, 3, none⟩ u) g9 74 #[x, y, z, u] ∧ ((((w3.setCell ⟨g9, 0, none⟩ x).setCell ⟨g9, 1, none⟩ y).setCell ⟨g9, 2, none⟩ z).setCell ⟨g9, 3, none⟩ u).ownsRow w.heap.size 3 1 (.slice (some ⟨gA, 0, none⟩) n cA) n xs ∧
      Blk ((((w3.setCell ⟨g9, 0, none⟩ x).setCell ⟨g9, 1, none⟩ y).setCell ⟨g9, 2, none⟩ z).setCell ⟨g9, 3, none⟩ u) g0 74 c0 ∧ Blk ((((w3.setCell ⟨g9, 0, none⟩ x).setCell ⟨g9, 1, none⟩ y).setCell ⟨g9, 2, none⟩ z).setCell ⟨g9, 3, none⟩ u) g1 74 c1 ∧ Below w.heap.size w ((((w3.setCell ⟨g9, 0, none⟩ x).setCell ⟨g9, 1, none⟩ y).setCell ⟨g9, 2, none⟩ z).setCell ⟨g9, 3, none⟩ u) :=
  ⟨k9.set4, own_far (own_far (own_far (own_far o3 k9 (by decide) 0 x) (k9.set 0 x) (by decide) 1 y) ((k9.set 0 x).set 1 y) (by decide) 2 z) (((k9.set 0 x).set 1 y).set 2 z) (by decide) 3 u,
    (((k0.far (p := ⟨g9, 0, none⟩) h0 x).far (p := ⟨g9, 1, none⟩) h0 y).far (p := ⟨g9, 2, none⟩) h0 z).far (p := ⟨g9, 3, none⟩) h0 u,
    (((k1.far (p := ⟨g9, 0, none⟩) h1 x).far (p := ⟨g9, 1, none⟩) h1 y).far (p := ⟨g9, 2, none⟩) h1 z).far (p := ⟨g9, 3, none⟩) h1 u,
    (((B3.setCell (p := ⟨g9, 0, none⟩) h9 x).setCell (p := ⟨g9, 1, none⟩) h9 y).setCell (p := ⟨g9, 2, none⟩) h9 z).setCell (p := ⟨g9, 3, none⟩) h9 u⟩
end Go.Proofs.YthkccpemgmpadaaGreatDoor.P
