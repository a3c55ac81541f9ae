import Derived.Test.YteokimebfbnlkaaW3
namespace Go.Proofs.Yteokimebfbnlkaa
open Go.RowKit

theorem ret_ex {fn : Func} {p : Tmp} {R : Ending → World → Prop} {a : Act} {w : World} (h : fn.results = #[.cell p 26]) (g : Nat) (x y : Value)
    (hp : a.tmps.getD p undef = .pointer (some ⟨g, 0, none⟩)) (hg : Blk w g 26 #[x, y]) (hd : a.defers = []) (hR : R (.returned (.agg #[x, y])) w) : bodyPost Try.prog fn R .ret a w :=
  bodyPost_ret (results_cell_row h a.tmps w g 26 #[x, y] (0, 0) _ hp hg Try.underlying26 rfl (by kernel_rfl)) hd hR
theorem ret_xs {fn : Func} {p : Tmp} {R : Ending → World → Prop} {a : Act} {w : World} (h : fn.results = #[.cell p 24]) (g : Nat) (x y : Value)
    (hp : a.tmps.getD p undef = .pointer (some ⟨g, 0, none⟩)) (hg : Blk w g 24 #[x, y]) (hd : a.defers = []) (hR : R (.returned (.agg #[x, y])) w) : bodyPost Try.prog fn R .ret a w :=
  bodyPost_ret (results_cell_row h a.tmps w g 24 #[x, y] (0, 0) _ hp hg Try.underlying24 rfl (by kernel_rfl)) hd hR
theorem ret_ar {fn : Func} {p : Tmp} {R : Ending → World → Prop} {a : Act} {w : World} (h : fn.results = #[.cell p 65]) (g : Nat) (x y z u : Value)
    (hp : a.tmps.getD p undef = .pointer (some ⟨g, 0, none⟩)) (hg : Blk w g 65 #[x, y, z, u]) (hd : a.defers = []) (hR : R (.returned (.agg #[x, y, z, u])) w) : bodyPost Try.prog fn R .ret a w :=
  bodyPost_ret (results_cell_row h a.tmps w g 65 #[x, y, z, u] (0, 0) _ hp hg Try.underlying65 rfl (by kernel_rfl)) hd hR
theorem ret_xs2 {fn : Func} {p u : Tmp} {R : Ending → World → Prop} {a : Act} {w : World} (h : fn.results = #[.cell p 24, .tmp u]) (g : Nat) (x y v : Value)
    (hp : a.tmps.getD p undef = .pointer (some ⟨g, 0, none⟩)) (hu : a.tmps.getD u undef = v) (hg : Blk w g 24 #[x, y]) (hd : a.defers = []) (hR : R (.returned (.tuple #[.agg #[x, y], v])) w) : bodyPost Try.prog fn R .ret a w := by
  refine bodyPost_ret (v := .tuple #[.agg #[x, y], v]) ?_ hd hR
  rw [results_cell_tmp h, hp, hu]
  have hl := run_loadVar_row (P := Try.prog) w g 24 24 #[x, y] (0, 0) _ hg Try.underlying24 rfl (by kernel_rfl)
  simp [asAddr, Result.andThen, hl]
theorem ret_xs3 {fn : Func} {p q u : Tmp} {R : Ending → World → Prop} {a : Act} {w : World} (h : fn.results = #[.cell p 26, .cell q 24, .tmp u]) (g g' : Nat) (x y x' y' v : Value)
    (hp : a.tmps.getD p undef = .pointer (some ⟨g, 0, none⟩)) (hq : a.tmps.getD q undef = .pointer (some ⟨g', 0, none⟩)) (hu : a.tmps.getD u undef = v) (hg : Blk w g 26 #[x, y]) (hg' : Blk w g' 24 #[x', y']) (hd : a.defers = [])
    (hR : R (.returned (.tuple #[.agg #[x, y], .agg #[x', y'], v])) w) : bodyPost Try.prog fn R .ret a w := by
  refine bodyPost_ret (v := .tuple #[.agg #[x, y], .agg #[x', y'], v]) ?_ hd hR
  have hl := run_loadVar_row (P := Try.prog) w g 26 26 #[x, y] (0, 0) _ hg Try.underlying26 rfl (by kernel_rfl)
  have hl' := run_loadVar_row (P := Try.prog) w g' 24 24 #[x', y'] (0, 0) _ hg' Try.underlying24 rfl (by kernel_rfl)
  have hp' : a.tmps[p]?.getD undef = .pointer (some ⟨g, 0, none⟩) := by simpa using hp
  have hq' : a.tmps[q]?.getD undef = .pointer (some ⟨g', 0, none⟩) := by simpa using hq
  have hu' : a.tmps[u]?.getD undef = v := by simpa using hu
  simp [results, h, hp', hq', hu', asAddr, Result.andThen, hl, hl']
theorem Blk.set4 {w : World} {g : Nat} {t : TypeId} {a b c d x y z u : Value} (h : Blk w g t #[a, b, c, d]) : Blk ((((w.setCell ⟨g, 0, none⟩ x).setCell ⟨g, 1, none⟩ y).setCell ⟨g, 2, none⟩ z).setCell ⟨g, 3, none⟩ u) g t #[x, y, z, u] := by
  simpa using (((h.set 0 x).set 1 y).set 2 z).set 3 u

set_option maxHeartbeats 1000000 in
theorem joined_any (a b : Ex) (w : World) (h : In64 (a.len + b.len)) :
    Calls Try.prog 38 #[exV a, exV b] w fun e w' => e = .returned (exV (joinE a b)) ∧ Below w.heap.size w w' := by
  obtain ⟨aa, al⟩ := a
  obtain ⟨ba, bl⟩ := b
  obtain ⟨h1, h2⟩ := h
  simp only [] at h1 h2
  unfold exV
  go_enter Try.func38, Try.ntmps38
  go_wp2
  · refine ret_ex rfl (w.heap.size + 1 + 1) (.int .i64 ba) (.int .i64 (al + bl)) rfl (Blk.new (by simp)) rfl ⟨ret_v ?_, by (repeat (first | with_reducible exact Below.refl _ _ | with_reducible assumption | with_reducible refine Below.drew ?_ | with_reducible refine bl_alloc ?_ _ | with_reducible refine bl_call ?_ (by assumption) | (focus (with_reducible refine Below.setCell ?_ ?_ _; rotate_left; focus (first | omega | (simp <;> omega)))) | fail))⟩
    simp [joinE, show ba < aa by assumption]
  · refine ret_ex rfl (w.heap.size + 1 + 1) (.int .i64 aa) (.int .i64 (al + bl)) rfl (Blk.new (by simp)) rfl ⟨ret_v ?_, by (repeat (first | with_reducible exact Below.refl _ _ | with_reducible assumption | with_reducible refine Below.drew ?_ | with_reducible refine bl_alloc ?_ _ | with_reducible refine bl_call ?_ (by assumption) | (focus (with_reducible refine Below.setCell ?_ ?_ _; rotate_left; focus (first | omega | (simp <;> omega)))) | fail))⟩
    have hn : ¬ ba < aa := by omega
    simp [joinE, hn]

set_option maxHeartbeats 1000000 in
theorem left_any (f s : Ex) (w : World) (hs : In64 (s.at_ + s.len)) (hf : In64 (f.at_ + f.len)) (h1 : In64 (s.at_ - f.at_)) (h2 : In64 (f.at_ + f.len - (s.at_ + s.len))) :
    Calls Try.prog 44 #[exV f, exV s] w fun e w' => e = .returned (.agg #[.int .i64 f.at_, .int .i64 (s.at_ - f.at_), .int .i64 (s.at_ + s.len), .int .i64 (f.at_ + f.len - (s.at_ + s.len))]) ∧ Below w.heap.size w w' := by
  have e1 := fun W => end_any s W hs
  have e2 := fun W => end_any f W hf
  replace e1 := hide e1; replace e2 := hide e2; clear hs hf
  have x1 : IntKind.i64.wrap (s.at_ - f.at_) = s.at_ - f.at_ := IntWalk.i64_in _ h1
  have x2 : IntKind.i64.wrap (f.at_ + f.len - (s.at_ + s.len)) = f.at_ + f.len - (s.at_ + s.len) := IntWalk.i64_in _ h2
  clear h1 h2
  obtain ⟨fa, fl⟩ := f
  obtain ⟨sa, sl⟩ := s
  simp only [] at e1 e2 x1 x2 ⊢
  unfold exV at *
  go_enter Try.func44, Try.ntmps44
  go_upto_region 1 with fail
  go_region_held3 (fun W => W.cell? ⟨w.heap.size, 0, none⟩ = some (.int .i64 fa) ∧ W.cell? ⟨w.heap.size, 1, none⟩ = some (.int .i64 fl) ∧ W.cell? ⟨w.heap.size + 1, 0, none⟩ = some (.int .i64 sa) ∧ W.cell? ⟨w.heap.size + 1, 1, none⟩ = some (.int .i64 sl)) (first | exact ⟨by go_simp, by go_simp, by go_simp, by go_simp⟩)
      (first
        | (go_at_call 30; refine (unhide e2 _).mono ?_; rintro e w2 ⟨rfl, hb2⟩; obtain ⟨hc2, hf2⟩ := bcell hb2; have hz2 := hb2.size; (try simp at hz2); have q1 : w.heap.size < w2.heap.size := (by omega); have q2 : w.heap.size + 1 < w2.heap.size := (by omega); have q3 : w.heap.size + 1 + 1 < w2.heap.size := (by omega))
        | (go_at_call 30; have _t := tok1; refine (unhide e1 _).mono ?_; rintro e w3 ⟨rfl, hb3⟩; obtain ⟨hc3, hf3⟩ := bcell hb3; have hz3 := hb3.size; (try simp at hz3); have q1 : w.heap.size < w3.heap.size := (by omega); have q2 : w.heap.size + 1 < w3.heap.size := (by omega); have q3 : w.heap.size + 1 + 1 < w3.heap.size := (by omega); clear _t)
        | (go_at_call 30; refine (unhide e1 _).mono ?_; rintro e w1 ⟨rfl, hb1⟩; obtain ⟨hc1, hf1⟩ := bcell hb1; have hz1 := hb1.size; (try simp at hz1); have q1 : w.heap.size < w1.heap.size := (by omega); have q2 : w.heap.size + 1 < w1.heap.size := (by omega); have q3 : w.heap.size + 1 + 1 < w1.heap.size := (by omega); have tok1 : True := trivial))
  go_wp2_with fail
  refine ret_ar rfl (w.heap.size + 1 + 1) (.int .i64 fa) (.int .i64 (sa - fa)) (.int .i64 (sa + sl)) (.int .i64 (fa + fl - (sa + sl))) rfl ?_ rfl ⟨rfl, by (repeat (first | with_reducible exact Below.refl _ _ | with_reducible assumption | with_reducible refine Below.drew ?_ | with_reducible refine bl_alloc ?_ _ | with_reducible refine bl_call ?_ (by assumption) | (focus (with_reducible refine Below.setCell ?_ ?_ _; rotate_left; focus (first | omega | (simp <;> omega)))) | fail))⟩
  exact Blk.set4 (a := .int .i64 0) (b := .int .i64 0) (c := .int .i64 0) (d := .int .i64 0) (by (repeat (first | with_reducible assumption | (focus (with_reducible refine Blk.new ?_; focus (simp <;> fail))) | with_reducible refine Blk.set3 (a := .slice none 0 0) (b := .slice none 0 0) (c := .int .i64 0) ?_ | with_reducible refine Blk.alloc ?_ _ | with_reducible refine Blk.drew ?_ | (focus (with_reducible refine Blk.far ?_ ?_ _; rotate_left; focus (first | omega | (simp <;> omega)))) | (focus (with_reducible refine Blk.below ?_ hb1 ?_; rotate_left; focus (first | omega | (simp <;> omega)))) | (focus (with_reducible refine Blk.below ?_ hb2 ?_; rotate_left; focus (first | omega | (simp <;> omega)))) | (focus (with_reducible refine Blk.below ?_ hb3 ?_; rotate_left; focus (first | omega | (simp <;> omega)))) | (focus (with_reducible refine Blk.below ?_ hb4 ?_; rotate_left; focus (first | omega | (simp <;> omega)))) | (focus (with_reducible refine Blk.below ?_ hb5 ?_; rotate_left; focus (first | omega | (simp <;> omega)))) | (focus (with_reducible refine Blk.below ?_ hb6 ?_; rotate_left; focus (first | omega | (simp <;> omega)))) | (focus (with_reducible refine Blk.below ?_ hb7 ?_; rotate_left; focus (first | omega | (simp <;> omega)))) | (focus (with_reducible refine Blk.below ?_ hb8 ?_; rotate_left; focus (first | omega | (simp <;> omega)))) | (focus (with_reducible refine Blk.below ?_ hb9 ?_; rotate_left; focus (first | omega | (simp <;> omega)))) | (focus (with_reducible refine Blk.below ?_ hb10 ?_; rotate_left; focus (first | omega | (simp <;> omega)))) | (focus (with_reducible refine Blk.below ?_ hb11 ?_; rotate_left; focus (first | omega | (simp <;> omega)))) | (focus (with_reducible refine Blk.below ?_ hb12 ?_; rotate_left; focus (first | omega | (simp <;> omega)))) | (focus (with_reducible refine Blk.below ?_ hb13 ?_; rotate_left; focus (first | omega | (simp <;> omega)))) | (focus (with_reducible refine Blk.below ?_ hb14 ?_; rotate_left; focus (first | omega | (simp <;> omega)))) | (focus (with_reducible refine Blk.below ?_ hb15 ?_; rotate_left; focus (first | omega | (simp <;> omega)))) | fail)))
end Go.Proofs.Yteokimebfbnlkaa
