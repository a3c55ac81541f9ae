import Derived.Test.YtkgfmiicfegnlaaT8
namespace Go.Proofs.Ytkgfmiicfegnlaa
open Go.RowKit
attribute [local go_sem] bz_size bz_toList run_store_float
set_option maxRecDepth 100000

/-- What a cell holds already is stored. -/
theorem setCell_same {w : World} {b o : Nat} {v : Value} (h : w.cell? ⟨b, o, none⟩ = some v) : w.setCell ⟨b, o, none⟩ v = w := by
  have he : (w.setCell ⟨b, o, none⟩ v).heap = w.heap := by
    unfold World.setCell
    apply Array.ext_getElem?
    intro i
    rw [Array.getElem?_modify]
    split
    · rename_i hi
      subst hi
      unfold World.cell? at h
      simp only at h
      cases hb : w.heap[b]? with
      | none => rfl
      | some x =>
        rw [hb] at h
        cases x with
        | cells c e f =>
          simp only [Option.isSome_none, Bool.false_eq_true, if_false] at h
          simp only [Option.map_some, Option.isSome_none, Bool.false_eq_true, if_false]
          congr 2
          apply Array.ext_getElem?
          intro j
          rw [Array.getElem?_setIfInBounds]
          split
          · rename_i hj; subst hj; rw [h]; simp [(Array.getElem?_eq_some_iff.1 h).1]
          · rfl
        | _ => rfl
    · rfl
  have e : w.setCell ⟨b, o, none⟩ v = { w with heap := (w.setCell ⟨b, o, none⟩ v).heap } := rfl
  rw [e, he]

/-- A file as a result. -/
theorem ret_f1 {fn : Func} {p : Tmp} {R : Ending → World → Prop} {a : Act} {w : World} (h : fn.results = #[.cell p 26]) (g : Nat) (cs : Array Value) (hs : cs.size = 6)
    (hp : a.tmps.getD p undef = .pointer (some ⟨g, 0, none⟩)) (hg : Blk w g 26 cs) (hd : a.defers = []) (hR : R (.returned (.agg cs)) w) : bodyPost Try.prog fn R .ret a w :=
  bodyPost_ret (results_cell_row h a.tmps w g 26 cs (0, 0) _ hp hg Try.underlying26 rfl ((by kernel_rfl : (Try.prog.info? 26).map (·.size) = some 6).trans (by rw [hs]))) hd hR
theorem ret_f2 {fn : Func} {p u : Tmp} {R : Ending → World → Prop} {a : Act} {w : World} (h : fn.results = #[.cell p 26, .tmp u]) (g : Nat) (cs : Array Value) (hs : cs.size = 6) (v : Value)
    (hp : a.tmps.getD p undef = .pointer (some ⟨g, 0, none⟩)) (hu : a.tmps.getD u undef = v) (hg : Blk w g 26 cs) (hd : a.defers = []) (hR : R (.returned (.tuple #[.agg cs, v])) w) : bodyPost Try.prog fn R .ret a w := by
  refine bodyPost_ret (v := .tuple #[.agg cs, v]) ?_ hd hR
  rw [results_cell_tmp h, hp, hu]
  have hl := run_loadVar_row (P := Try.prog) w g 26 26 cs (0, 0) _ hg Try.underlying26 rfl ((by kernel_rfl : (Try.prog.info? 26).map (·.size) = some 6).trans (by rw [hs]))
  simp [asAddr, Result.andThen, hl]
theorem Blk.set6 {w : World} {g : Nat} {t : TypeId} {a0 a1 a2 a3 a4 a5 x0 x1 x2 x3 x4 x5 : Value} (h : Blk w g t #[a0, a1, a2, a3, a4, a5]) :
    Blk ((((((w.setCell ⟨g, 0, none⟩ x0).setCell ⟨g, 1, none⟩ x1).setCell ⟨g, 2, none⟩ x2).setCell ⟨g, 3, none⟩ x3).setCell ⟨g, 4, none⟩ x4).setCell ⟨g, 5, none⟩ x5) g t #[x0, x1, x2, x3, x4, x5] := by
  simpa using (((((h.set 0 x0).set 1 x1).set 2 x2).set 3 x3).set 4 x4).set 5 x5
theorem bl_set6 {B : Nat} {w W : World} {g : Nat} {x0 x1 x2 x3 x4 x5 : Value} (h : Below B w W) (hg : B ≤ g) :
    Below B w ((((((W.setCell ⟨g, 0, none⟩ x0).setCell ⟨g, 1, none⟩ x1).setCell ⟨g, 2, none⟩ x2).setCell ⟨g, 3, none⟩ x3).setCell ⟨g, 4, none⟩ x4).setCell ⟨g, 5, none⟩ x5) :=
  (((((h.setCell (p := ⟨g, 0, none⟩) hg _).setCell (p := ⟨g, 1, none⟩) hg _).setCell (p := ⟨g, 2, none⟩) hg _).setCell (p := ⟨g, 3, none⟩) hg _).setCell (p := ⟨g, 4, none⟩) hg _).setCell (p := ⟨g, 5, none⟩) hg _

theorem clone68_any (l : List UInt8) (hl : l.length ≤ 1000) (w : World) :
    Calls Try.prog 68 #[.string (bz l)] w fun e w' => e = .returned (.string (bz l)) ∧ Below w.heap.size w w' := by
  have HC := fun W => Try.stringslite_Clone (bz l) W (by rw [bz_size]; omega)
  replace HC := hide HC
  go_enter Try.func68, Try.ntmps68
  go_wp2_with (go_at_call 82; refine (unhide HC _).mono ?_; rintro e w' ⟨rfl, hb⟩)
  go_ret
  exact ⟨rfl, hb⟩
set_option maxHeartbeats 1000000 in
theorem own_any (f : Fl) (hl : f.nm.length ≤ 1000) (w : World) :
    Calls Try.prog 43 #[(.agg #[.string (bz f.nm), .float .f64 f.rk, .int .u32 f.sm, .int .i64 f.bk, .int .i64 f.fr, .int .i64 f.ln])] w fun e w' => e = .returned (.agg #[.string (bz f.nm), .float .f64 f.rk, .int .u32 f.sm, .int .i64 f.bk, .int .i64 f.fr, .int .i64 f.ln]) ∧ Below w.heap.size w w' := by
  have HC := fun W => clone68_any f.nm hl W
  replace HC := hide HC
  clear hl
  go_enter Try.func43, Try.ntmps43
  go_wp2_with (go_at_call 68; refine (unhide HC _).mono ?_; rintro e w1 ⟨rfl, B1⟩; (have q0 : Blk w1 w.heap.size 26 #[.string (bz f.nm), .float .f64 f.rk, .int .u32 f.sm, .int .i64 f.bk, .int .i64 f.fr, .int .i64 f.ln] := Blk.below ((Blk.new rfl).alloc _) B1 (by simp only [World.size_alloc]; omega)); (have q1 : Blk w1 (w.heap.size + 1) 26 #[.string (bz noF.nm), .float .f64 noF.rk, .int .u32 noF.sm, .int .i64 noF.bk, .int .i64 noF.fr, .int .i64 noF.ln] := Blk.below (Blk.new (by simp only [World.size_alloc])) B1 (by simp only [World.size_alloc]; omega)); (have f0 := fun i => q0.frozen i); (have f1 := fun i => q1.frozen i); obtain ⟨c0, c1, c2, c3, c4, c5⟩ := bk6 q0; obtain ⟨d0, d1, d2, d3, d4, d5⟩ := bk6 q1)
  have BW := (bl_alloc (bl_alloc (Below.refl w.heap.size w) (.cells #[.string (bz f.nm), .float .f64 f.rk, .int .u32 f.sm, .int .i64 f.bk, .int .i64 f.fr, .int .i64 f.ln] 26)) (.cells #[.string (bz noF.nm), .float .f64 noF.rk, .int .u32 noF.sm, .int .i64 noF.bk, .int .i64 noF.fr, .int .i64 noF.ln] 26)).trans (B1.mono (by simp only [World.size_alloc]; omega))
  rw [setCell_same c0]
  exact ret_f1 rfl (w.heap.size + 1) _ rfl rfl q1.set6 rfl ⟨rfl, bl_set6 BW (by omega)⟩
end Go.Proofs.Ytkgfmiicfegnlaa
