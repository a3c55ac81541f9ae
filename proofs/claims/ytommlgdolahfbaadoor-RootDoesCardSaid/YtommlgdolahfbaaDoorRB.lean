import Derived.Test.YtommlgdolahfbaaDoorRA
import Derived.IntWalk
namespace Go.Proofs.YtommlgdolahfbaaDoor
set_option maxRecDepth 100000
open Go.RowKit

theorem bk6 {w : World} {g : Nat} {r : Rt} (h : Blk w g 27 #[.int .u64 (r.gen : Nat), .int .i64 r.at_, .int .i64 r.len, .int .i64 r.long, .int .u32 (r.sum : Nat), .int .u64 (r.next : Nat)]) : w.cell? ⟨g, 0, none⟩ = some (.int .u64 (r.gen : Nat)) ∧ w.cell? ⟨g, 1, none⟩ = some (.int .i64 r.at_) ∧ w.cell? ⟨g, 2, none⟩ = some (.int .i64 r.len) ∧ w.cell? ⟨g, 3, none⟩ = some (.int .i64 r.long) ∧ w.cell? ⟨g, 4, none⟩ = some (.int .u32 (r.sum : Nat)) ∧ w.cell? ⟨g, 5, none⟩ = some (.int .u64 (r.next : Nat)) :=
  ⟨h.cell 0, h.cell 1, h.cell 2, h.cell 3, h.cell 4, h.cell 5⟩

theorem ret_r1 {fn : Func} {p : Tmp} {R : Ending → World → Prop} {a : Act} {w : World} (h : fn.results = #[.cell p 27]) (g : Nat) (cs : Array Value) (hs : cs.size = 6)
    (hp : a.tmps.getD p undef = .pointer (some ⟨g, 0, none⟩)) (hg : Blk w g 27 cs) (hd : a.defers = []) (hR : R (.returned (.agg cs)) w) : bodyPost Tryd.prog fn R .ret a w :=
  bodyPost_ret (results_cell_row h a.tmps w g 27 cs (0, 0) _ hp hg Tryd.underlying27 rfl ((by kernel_rfl : (Tryd.prog.info? 27).map (·.size) = some 6).trans (by rw [hs]))) hd hR
theorem ret_n1 {fn : Func} {p : Tmp} {R : Ending → World → Prop} {a : Act} {w : World} (h : fn.results = #[.cell p 59]) (g : Nat) (cs : Array Value) (hs : cs.size = 7)
    (hp : a.tmps.getD p undef = .pointer (some ⟨g, 0, none⟩)) (hg : Blk w g 59 cs) (hd : a.defers = []) (hR : R (.returned (.agg cs)) w) : bodyPost Tryd.prog fn R .ret a w :=
  bodyPost_ret (results_cell_row h a.tmps w g 59 cs (0, 0) _ hp hg Tryd.underlying59 rfl ((by kernel_rfl : (Tryd.prog.info? 59).map (·.size) = some 7).trans (by rw [hs]))) hd hR
theorem ret_r2 {fn : Func} {p u : Tmp} {R : Ending → World → Prop} {a : Act} {w : World} (h : fn.results = #[.cell p 27, .tmp u]) (g : Nat) (cs : Array Value) (hs : cs.size = 6) (v : Value)
    (hp : a.tmps.getD p undef = .pointer (some ⟨g, 0, none⟩)) (hu : a.tmps.getD u undef = v) (hg : Blk w g 27 cs) (hd : a.defers = []) (hR : R (.returned (.tuple #[.agg cs, v])) w) : bodyPost Tryd.prog fn R .ret a w := by
  refine bodyPost_ret (v := .tuple #[.agg cs, v]) ?_ hd hR
  rw [results_cell_tmp h, hp, hu]
  have hl := run_loadVar_row (P := Tryd.prog) w g 27 27 cs (0, 0) _ hg Tryd.underlying27 rfl ((by kernel_rfl : (Tryd.prog.info? 27).map (·.size) = some 6).trans (by rw [hs]))
  simp [asAddr, Result.andThen, hl]
theorem Blk.set6 {w : World} {g : Nat} {t : TypeId} {c0 c1 c2 c3 c4 c5 : Value} (h : Blk w g t #[c0, c1, c2, c3, c4, c5]) (x0 x1 x2 x3 x4 x5 : Value) :
    Blk ((((((w.setCell ⟨g, 0, none⟩ x0).setCell ⟨g, 1, none⟩ x1).setCell ⟨g, 2, none⟩ x2).setCell ⟨g, 3, none⟩ x3).setCell ⟨g, 4, none⟩ x4).setCell ⟨g, 5, none⟩ x5) g t #[x0, x1, x2, x3, x4, x5] := by
  simpa using (((((h.set 0 x0).set 1 x1).set 2 x2).set 3 x3).set 4 x4).set 5 x5
theorem Blk.set7 {w : World} {g : Nat} {t : TypeId} {c0 c1 c2 c3 c4 c5 c6 : Value} (h : Blk w g t #[c0, c1, c2, c3, c4, c5, c6]) (x0 x1 x2 x3 x4 x5 x6 : Value) :
    Blk (((((((w.setCell ⟨g, 0, none⟩ x0).setCell ⟨g, 1, none⟩ x1).setCell ⟨g, 2, none⟩ x2).setCell ⟨g, 3, none⟩ x3).setCell ⟨g, 4, none⟩ x4).setCell ⟨g, 5, none⟩ x5).setCell ⟨g, 6, none⟩ x6) g t #[x0, x1, x2, x3, x4, x5, x6] := by
  simpa using ((((((h.set 0 x0).set 1 x1).set 2 x2).set 3 x3).set 4 x4).set 5 x5).set 6 x6

theorem Check_any (r : Rt) (hT : OkT r) (w : World) :
    Calls Tryd.prog 21 #[(.agg #[.int .u64 (r.gen : Nat), .int .i64 r.at_, .int .i64 r.len, .int .i64 r.long, .int .u32 (r.sum : Nat), .int .u64 (r.next : Nat)])] w fun e w' => e = .returned (.int .i64 (badE (rOk r))) ∧ Below w.heap.size w w' := by
  obtain ⟨g, a, l, n, s, x⟩ := r
  have hl := hT.2.2.2
  have hk : ∀ b : Bool, (1 ≤ g ∧ g ≤ 1099511627776 ∧ x ≤ 1099511627776 ∧ 1 ≤ l ∧ 2 ≤ a ∧ a ≤ 8192 - l ∧ 0 ≤ n ∧ n ≤ 32 * l ↔ b = true) → rOk ⟨g, a, l, n, s, x⟩ = b := fun b hb => by
    rw [← rOk_iff (r := ⟨g, a, l, n, s, x⟩)] at hb
    cases hc : rOk ⟨g, a, l, n, s, x⟩ <;> cases b <;> simp_all
  simp only [] at hl
  clear hT
  replace hk := hide hk
  by_cases q0 : 1 ≤ g
  rotate_left
  · have hf : rOk ⟨g, a, l, n, s, x⟩ = false := unhide hk false (by simp; omega)
    have d00 : (g : Int) < 1 := by omega
    have d01 : g < 1 := by omega
    clear q0
    rw [hf]
    clear hk hf
    go_enter Tryd.func21, Tryd.ntmps21
    go_wp2
    go_ret
    exact ⟨rfl, by (repeat (first | with_reducible exact Below.refl _ _ | with_reducible assumption | with_reducible refine Below.drew ?_ | with_reducible refine bl_alloc ?_ _ | with_reducible refine bl_call ?_ (by assumption) | (focus (with_reducible refine Below.setCell ?_ ?_ _; rotate_left; focus (first | omega | (simp <;> omega)))) | fail))⟩
  have d00 : ¬ ((g : Int) < 1) := by omega
  have d01 : ¬ (g < 1) := by omega
  by_cases q1 : g ≤ 1099511627776
  rotate_left
  · have hf : rOk ⟨g, a, l, n, s, x⟩ = false := unhide hk false (by simp; omega)
    have d10 : (1099511627776 : Int) < (g : Int) := by omega
    have d11 : 1099511627776 < g := by omega
    clear q0
    clear q1
    rw [hf]
    clear hk hf
    go_enter Tryd.func21, Tryd.ntmps21
    go_wp2
    go_ret
    exact ⟨rfl, by (repeat (first | with_reducible exact Below.refl _ _ | with_reducible assumption | with_reducible refine Below.drew ?_ | with_reducible refine bl_alloc ?_ _ | with_reducible refine bl_call ?_ (by assumption) | (focus (with_reducible refine Below.setCell ?_ ?_ _; rotate_left; focus (first | omega | (simp <;> omega)))) | fail))⟩
  have d10 : ¬ ((1099511627776 : Int) < (g : Int)) := by omega
  have d11 : ¬ (1099511627776 < g) := by omega
  by_cases q2 : x ≤ 1099511627776
  rotate_left
  · have hf : rOk ⟨g, a, l, n, s, x⟩ = false := unhide hk false (by simp; omega)
    have d20 : (1099511627776 : Int) < (x : Int) := by omega
    have d21 : 1099511627776 < x := by omega
    clear q0
    clear q1
    clear q2
    rw [hf]
    clear hk hf
    go_enter Tryd.func21, Tryd.ntmps21
    go_wp2
    go_ret
    exact ⟨rfl, by (repeat (first | with_reducible exact Below.refl _ _ | with_reducible assumption | with_reducible refine Below.drew ?_ | with_reducible refine bl_alloc ?_ _ | with_reducible refine bl_call ?_ (by assumption) | (focus (with_reducible refine Below.setCell ?_ ?_ _; rotate_left; focus (first | omega | (simp <;> omega)))) | fail))⟩
  have d20 : ¬ ((1099511627776 : Int) < (x : Int)) := by omega
  have d21 : ¬ (1099511627776 < x) := by omega
  by_cases q3 : 1 ≤ l
  rotate_left
  · have hf : rOk ⟨g, a, l, n, s, x⟩ = false := unhide hk false (by simp; omega)
    have d30 : l < 1 := by omega
    clear q0
    clear q1
    clear q2
    clear q3
    rw [hf]
    clear hk hf
    go_enter Tryd.func21, Tryd.ntmps21
    go_wp2
    go_ret
    exact ⟨rfl, by (repeat (first | with_reducible exact Below.refl _ _ | with_reducible assumption | with_reducible refine Below.drew ?_ | with_reducible refine bl_alloc ?_ _ | with_reducible refine bl_call ?_ (by assumption) | (focus (with_reducible refine Below.setCell ?_ ?_ _; rotate_left; focus (first | omega | (simp <;> omega)))) | fail))⟩
  have d30 : ¬ (l < 1) := by omega
  by_cases q4 : 2 ≤ a
  rotate_left
  · have hf : rOk ⟨g, a, l, n, s, x⟩ = false := unhide hk false (by simp; omega)
    have d40 : a < 2 := by omega
    have w1 : IntKind.i64.wrap (8192 - l) = 8192 - l := IntWalk.i64_in _ (by omega)
    clear q0
    clear q1
    clear q2
    clear q3
    clear q4
    rw [hf]
    clear hk hf
    go_enter Tryd.func21, Tryd.ntmps21
    go_wp2
    go_ret
    exact ⟨rfl, by (repeat (first | with_reducible exact Below.refl _ _ | with_reducible assumption | with_reducible refine Below.drew ?_ | with_reducible refine bl_alloc ?_ _ | with_reducible refine bl_call ?_ (by assumption) | (focus (with_reducible refine Below.setCell ?_ ?_ _; rotate_left; focus (first | omega | (simp <;> omega)))) | fail))⟩
  have d40 : ¬ (a < 2) := by omega
  by_cases q5 : a ≤ 8192 - l
  rotate_left
  · have hf : rOk ⟨g, a, l, n, s, x⟩ = false := unhide hk false (by simp; omega)
    have d50 : 8192 - l < a := by omega
    have w1 : IntKind.i64.wrap (8192 - l) = 8192 - l := IntWalk.i64_in _ (by omega)
    clear q0
    clear q1
    clear q2
    clear q3
    clear q4
    clear q5
    rw [hf]
    clear hk hf
    go_enter Tryd.func21, Tryd.ntmps21
    go_wp2
    go_ret
    exact ⟨rfl, by (repeat (first | with_reducible exact Below.refl _ _ | with_reducible assumption | with_reducible refine Below.drew ?_ | with_reducible refine bl_alloc ?_ _ | with_reducible refine bl_call ?_ (by assumption) | (focus (with_reducible refine Below.setCell ?_ ?_ _; rotate_left; focus (first | omega | (simp <;> omega)))) | fail))⟩
  have d50 : ¬ (8192 - l < a) := by omega
  by_cases q6 : 0 ≤ n
  rotate_left
  · have hf : rOk ⟨g, a, l, n, s, x⟩ = false := unhide hk false (by simp; omega)
    have d60 : n < 0 := by omega
    have w1 : IntKind.i64.wrap (8192 - l) = 8192 - l := IntWalk.i64_in _ (by omega)
    have w2 : IntKind.i64.wrap (l * 32) = l * 32 := IntWalk.i64_in _ (by omega)
    clear q0
    clear q1
    clear q2
    clear q3
    clear q4
    clear q5
    clear q6
    rw [hf]
    clear hk hf
    go_enter Tryd.func21, Tryd.ntmps21
    go_wp2
    go_ret
    exact ⟨rfl, by (repeat (first | with_reducible exact Below.refl _ _ | with_reducible assumption | with_reducible refine Below.drew ?_ | with_reducible refine bl_alloc ?_ _ | with_reducible refine bl_call ?_ (by assumption) | (focus (with_reducible refine Below.setCell ?_ ?_ _; rotate_left; focus (first | omega | (simp <;> omega)))) | fail))⟩
  have d60 : ¬ (n < 0) := by omega
  by_cases q7 : n ≤ 32 * l
  rotate_left
  · have hf : rOk ⟨g, a, l, n, s, x⟩ = false := unhide hk false (by simp; omega)
    have d70 : l * 32 < n := by omega
    have w1 : IntKind.i64.wrap (8192 - l) = 8192 - l := IntWalk.i64_in _ (by omega)
    have w2 : IntKind.i64.wrap (l * 32) = l * 32 := IntWalk.i64_in _ (by omega)
    clear q0
    clear q1
    clear q2
    clear q3
    clear q4
    clear q5
    clear q6
    clear q7
    rw [hf]
    clear hk hf
    go_enter Tryd.func21, Tryd.ntmps21
    go_wp2
    go_ret
    exact ⟨rfl, by (repeat (first | with_reducible exact Below.refl _ _ | with_reducible assumption | with_reducible refine Below.drew ?_ | with_reducible refine bl_alloc ?_ _ | with_reducible refine bl_call ?_ (by assumption) | (focus (with_reducible refine Below.setCell ?_ ?_ _; rotate_left; focus (first | omega | (simp <;> omega)))) | fail))⟩
  have d70 : ¬ (l * 32 < n) := by omega
  have hf : rOk ⟨g, a, l, n, s, x⟩ = true := unhide hk true (by simp; omega)
  have w1 : IntKind.i64.wrap (8192 - l) = 8192 - l := IntWalk.i64_in _ (by omega)
  have w2 : IntKind.i64.wrap (l * 32) = l * 32 := IntWalk.i64_in _ (by omega)
  clear q0
  clear q1
  clear q2
  clear q3
  clear q4
  clear q5
  clear q6
  clear q7
  rw [hf]
  clear hk hf
  go_enter Tryd.func21, Tryd.ntmps21
  go_wp2
  go_ret
  exact ⟨rfl, by (repeat (first | with_reducible exact Below.refl _ _ | with_reducible assumption | with_reducible refine Below.drew ?_ | with_reducible refine bl_alloc ?_ _ | with_reducible refine bl_call ?_ (by assumption) | (focus (with_reducible refine Below.setCell ?_ ?_ _; rotate_left; focus (first | omega | (simp <;> omega)))) | fail))⟩
theorem Is_any (m : Int) (a l : Int) (hm : 0 ≤ m ∧ m ≤ 8192) (w : World) :
    Calls Tryd.prog 43 #[.int .i64 m, .agg #[.int .i64 a, .int .i64 l]] w fun e w' => e = .returned (.bool (decide (0 ≤ a) && decide (1 ≤ l) && decide (a ≤ m - l))) ∧ Below w.heap.size w w' := by
  obtain ⟨h1, h2⟩ := hm
  by_cases q0 : 0 ≤ a
  · by_cases q1 : 1 ≤ l
    · by_cases q2 : a ≤ m
      · have w1 : IntKind.i64.wrap (m - a) = m - a := IntWalk.i64_in _ (by omega)
        have e1 : (decide (0 ≤ a) && decide (1 ≤ l) && decide (a ≤ m - l)) = decide (l ≤ m - a) := by rw [Bool.eq_iff_iff]; simp; omega
        rw [e1]
        clear e1
        go_enter Tryd.func43, Tryd.ntmps43
        go_wp2
        go_ret
        exact ⟨ret_b rfl rfl, by (repeat (first | with_reducible exact Below.refl _ _ | with_reducible assumption | with_reducible refine Below.drew ?_ | with_reducible refine bl_alloc ?_ _ | with_reducible refine bl_call ?_ (by assumption) | (focus (with_reducible refine Below.setCell ?_ ?_ _; rotate_left; focus (first | omega | (simp <;> omega)))) | fail))⟩
      · have e1 : (decide (0 ≤ a) && decide (1 ≤ l) && decide (a ≤ m - l)) = false := by rw [Bool.eq_false_iff]; simp; omega
        rw [e1]
        clear e1
        go_enter Tryd.func43, Tryd.ntmps43
        go_wp2
        go_ret
        exact ⟨rfl, by (repeat (first | with_reducible exact Below.refl _ _ | with_reducible assumption | with_reducible refine Below.drew ?_ | with_reducible refine bl_alloc ?_ _ | with_reducible refine bl_call ?_ (by assumption) | (focus (with_reducible refine Below.setCell ?_ ?_ _; rotate_left; focus (first | omega | (simp <;> omega)))) | fail))⟩
    · have e1 : (decide (0 ≤ a) && decide (1 ≤ l) && decide (a ≤ m - l)) = false := by rw [Bool.eq_false_iff]; simp; omega
      rw [e1]
      clear e1
      go_enter Tryd.func43, Tryd.ntmps43
      go_wp2
      go_ret
      exact ⟨rfl, by (repeat (first | with_reducible exact Below.refl _ _ | with_reducible assumption | with_reducible refine Below.drew ?_ | with_reducible refine bl_alloc ?_ _ | with_reducible refine bl_call ?_ (by assumption) | (focus (with_reducible refine Below.setCell ?_ ?_ _; rotate_left; focus (first | omega | (simp <;> omega)))) | fail))⟩
  · have e1 : (decide (0 ≤ a) && decide (1 ≤ l) && decide (a ≤ m - l)) = false := by rw [Bool.eq_false_iff]; simp; omega
    rw [e1]
    clear e1
    go_enter Tryd.func43, Tryd.ntmps43
    go_wp2
    go_ret
    exact ⟨rfl, by (repeat (first | with_reducible exact Below.refl _ _ | with_reducible assumption | with_reducible refine Below.drew ?_ | with_reducible refine bl_alloc ?_ _ | with_reducible refine bl_call ?_ (by assumption) | (focus (with_reducible refine Below.setCell ?_ ?_ _; rotate_left; focus (first | omega | (simp <;> omega)))) | fail))⟩

set_option maxHeartbeats 1000000 in
theorem refCheck_any (r : Rt) (w : World) :
    Calls Tryd.prog 22 #[(.agg #[.int .u64 (r.gen : Nat), .int .i64 r.at_, .int .i64 r.len, .int .i64 r.long, .int .u32 (r.sum : Nat), .int .u64 (r.next : Nat)])] w fun e w' => e = .returned (.int .i64 (badE (rOk r))) ∧ Below w.heap.size w w' := by
  obtain ⟨g, a, l, n, s, x⟩ := r
  have hk : ∀ b : Bool, (1 ≤ g ∧ g ≤ 1099511627776 ∧ x ≤ 1099511627776 ∧ 1 ≤ l ∧ 2 ≤ a ∧ a ≤ 8192 - l ∧ 0 ≤ n ∧ n ≤ 32 * l ↔ b = true) → rOk ⟨g, a, l, n, s, x⟩ = b := fun b hb => by
    rw [← rOk_iff (r := ⟨g, a, l, n, s, x⟩)] at hb
    cases hc : rOk ⟨g, a, l, n, s, x⟩ <;> cases b <;> simp_all
  have hI := fun W => Is_any 8192 a l (by omega) W
  replace hk := hide hk
  by_cases q0 : 1 ≤ g
  rotate_left
  · have hf : rOk ⟨g, a, l, n, s, x⟩ = false := unhide hk false (by simp; omega)
    have d00 : (g : Int) < 1 := by omega
    have d01 : g < 1 := by omega
    clear q0
    rw [hf]
    clear hk hf
    replace hI := hide hI
    go_enter Tryd.func22, Tryd.ntmps22
    go_wp2_with (go_at_call 43; refine (unhide hI _).mono ?_; rintro e w1 ⟨rfl, b1⟩; have BB := bl_call (by (repeat (first | with_reducible exact Below.refl _ _ | with_reducible assumption | with_reducible refine Below.drew ?_ | with_reducible refine bl_alloc ?_ _ | with_reducible refine bl_call ?_ (by assumption) | (focus (with_reducible refine Below.setCell ?_ ?_ _; rotate_left; focus (first | omega | (simp <;> omega)))) | fail))) b1; obtain ⟨c0, c1, c2, c3, c4, c5⟩ := bk6 (r := ⟨g, a, l, n, s, x⟩) (Blk.below (Blk.new (w := w) rfl) b1 (by simp)); clear b1)
    go_ret
    exact ⟨rfl, by (repeat (first | with_reducible exact Below.refl _ _ | with_reducible assumption | with_reducible refine Below.drew ?_ | with_reducible refine bl_alloc ?_ _ | with_reducible refine bl_call ?_ (by assumption) | (focus (with_reducible refine Below.setCell ?_ ?_ _; rotate_left; focus (first | omega | (simp <;> omega)))) | fail))⟩
  have d00 : ¬ ((g : Int) < 1) := by omega
  have d01 : ¬ (g < 1) := by omega
  by_cases q1 : g ≤ 1099511627776
  rotate_left
  · have hf : rOk ⟨g, a, l, n, s, x⟩ = false := unhide hk false (by simp; omega)
    have d10 : (1099511627776 : Int) < (g : Int) := by omega
    have d11 : 1099511627776 < g := by omega
    clear q0
    clear q1
    rw [hf]
    clear hk hf
    replace hI := hide hI
    go_enter Tryd.func22, Tryd.ntmps22
    go_wp2_with (go_at_call 43; refine (unhide hI _).mono ?_; rintro e w1 ⟨rfl, b1⟩; have BB := bl_call (by (repeat (first | with_reducible exact Below.refl _ _ | with_reducible assumption | with_reducible refine Below.drew ?_ | with_reducible refine bl_alloc ?_ _ | with_reducible refine bl_call ?_ (by assumption) | (focus (with_reducible refine Below.setCell ?_ ?_ _; rotate_left; focus (first | omega | (simp <;> omega)))) | fail))) b1; obtain ⟨c0, c1, c2, c3, c4, c5⟩ := bk6 (r := ⟨g, a, l, n, s, x⟩) (Blk.below (Blk.new (w := w) rfl) b1 (by simp)); clear b1)
    go_ret
    exact ⟨rfl, by (repeat (first | with_reducible exact Below.refl _ _ | with_reducible assumption | with_reducible refine Below.drew ?_ | with_reducible refine bl_alloc ?_ _ | with_reducible refine bl_call ?_ (by assumption) | (focus (with_reducible refine Below.setCell ?_ ?_ _; rotate_left; focus (first | omega | (simp <;> omega)))) | fail))⟩
  have d10 : ¬ ((1099511627776 : Int) < (g : Int)) := by omega
  have d11 : ¬ (1099511627776 < g) := by omega
  by_cases q2 : 0 ≤ a ∧ 1 ≤ l ∧ a ≤ 8192 - l
  rotate_left
  · have hf : rOk ⟨g, a, l, n, s, x⟩ = false := unhide hk false (by simp; omega)
    rw [show (decide (0 ≤ a) && decide (1 ≤ l) && decide (a ≤ 8192 - l)) = false by rw [Bool.eq_false_iff]; simp; omega] at hI
    clear q0
    clear q1
    clear q2
    rw [hf]
    clear hk hf
    replace hI := hide hI
    go_enter Tryd.func22, Tryd.ntmps22
    go_wp2_with (go_at_call 43; refine (unhide hI _).mono ?_; rintro e w1 ⟨rfl, b1⟩; have BB := bl_call (by (repeat (first | with_reducible exact Below.refl _ _ | with_reducible assumption | with_reducible refine Below.drew ?_ | with_reducible refine bl_alloc ?_ _ | with_reducible refine bl_call ?_ (by assumption) | (focus (with_reducible refine Below.setCell ?_ ?_ _; rotate_left; focus (first | omega | (simp <;> omega)))) | fail))) b1; obtain ⟨c0, c1, c2, c3, c4, c5⟩ := bk6 (r := ⟨g, a, l, n, s, x⟩) (Blk.below (Blk.new (w := w) rfl) b1 (by simp)); clear b1)
    go_ret
    exact ⟨rfl, by (repeat (first | with_reducible exact Below.refl _ _ | with_reducible assumption | with_reducible refine Below.drew ?_ | with_reducible refine bl_alloc ?_ _ | with_reducible refine bl_call ?_ (by assumption) | (focus (with_reducible refine Below.setCell ?_ ?_ _; rotate_left; focus (first | omega | (simp <;> omega)))) | fail))⟩
  by_cases q3 : 2 ≤ a
  rotate_left
  · have hf : rOk ⟨g, a, l, n, s, x⟩ = false := unhide hk false (by simp; omega)
    have d30 : a < 2 := by omega
    rw [show (decide (0 ≤ a) && decide (1 ≤ l) && decide (a ≤ 8192 - l)) = true by simp; omega] at hI
    have w2 : IntKind.i64.wrap (32 * l) = 32 * l := IntWalk.i64_in _ (by omega)
    clear q0
    clear q1
    clear q2
    clear q3
    rw [hf]
    clear hk hf
    replace hI := hide hI
    go_enter Tryd.func22, Tryd.ntmps22
    go_wp2_with (go_at_call 43; refine (unhide hI _).mono ?_; rintro e w1 ⟨rfl, b1⟩; have BB := bl_call (by (repeat (first | with_reducible exact Below.refl _ _ | with_reducible assumption | with_reducible refine Below.drew ?_ | with_reducible refine bl_alloc ?_ _ | with_reducible refine bl_call ?_ (by assumption) | (focus (with_reducible refine Below.setCell ?_ ?_ _; rotate_left; focus (first | omega | (simp <;> omega)))) | fail))) b1; obtain ⟨c0, c1, c2, c3, c4, c5⟩ := bk6 (r := ⟨g, a, l, n, s, x⟩) (Blk.below (Blk.new (w := w) rfl) b1 (by simp)); clear b1)
    go_ret
    exact ⟨rfl, by (repeat (first | with_reducible exact Below.refl _ _ | with_reducible assumption | with_reducible refine Below.drew ?_ | with_reducible refine bl_alloc ?_ _ | with_reducible refine bl_call ?_ (by assumption) | (focus (with_reducible refine Below.setCell ?_ ?_ _; rotate_left; focus (first | omega | (simp <;> omega)))) | fail))⟩
  have d30 : ¬ (a < 2) := by omega
  by_cases q4 : 0 ≤ n
  rotate_left
  · have hf : rOk ⟨g, a, l, n, s, x⟩ = false := unhide hk false (by simp; omega)
    have d40 : n < 0 := by omega
    rw [show (decide (0 ≤ a) && decide (1 ≤ l) && decide (a ≤ 8192 - l)) = true by simp; omega] at hI
    have w2 : IntKind.i64.wrap (32 * l) = 32 * l := IntWalk.i64_in _ (by omega)
    clear q0
    clear q1
    clear q2
    clear q3
    clear q4
    rw [hf]
    clear hk hf
    replace hI := hide hI
    go_enter Tryd.func22, Tryd.ntmps22
    go_wp2_with (go_at_call 43; refine (unhide hI _).mono ?_; rintro e w1 ⟨rfl, b1⟩; have BB := bl_call (by (repeat (first | with_reducible exact Below.refl _ _ | with_reducible assumption | with_reducible refine Below.drew ?_ | with_reducible refine bl_alloc ?_ _ | with_reducible refine bl_call ?_ (by assumption) | (focus (with_reducible refine Below.setCell ?_ ?_ _; rotate_left; focus (first | omega | (simp <;> omega)))) | fail))) b1; obtain ⟨c0, c1, c2, c3, c4, c5⟩ := bk6 (r := ⟨g, a, l, n, s, x⟩) (Blk.below (Blk.new (w := w) rfl) b1 (by simp)); clear b1)
    go_ret
    exact ⟨rfl, by (repeat (first | with_reducible exact Below.refl _ _ | with_reducible assumption | with_reducible refine Below.drew ?_ | with_reducible refine bl_alloc ?_ _ | with_reducible refine bl_call ?_ (by assumption) | (focus (with_reducible refine Below.setCell ?_ ?_ _; rotate_left; focus (first | omega | (simp <;> omega)))) | fail))⟩
  have d40 : ¬ (n < 0) := by omega
  by_cases q5 : n ≤ 32 * l
  rotate_left
  · have hf : rOk ⟨g, a, l, n, s, x⟩ = false := unhide hk false (by simp; omega)
    have d50 : 32 * l < n := by omega
    rw [show (decide (0 ≤ a) && decide (1 ≤ l) && decide (a ≤ 8192 - l)) = true by simp; omega] at hI
    have w2 : IntKind.i64.wrap (32 * l) = 32 * l := IntWalk.i64_in _ (by omega)
    clear q0
    clear q1
    clear q2
    clear q3
    clear q4
    clear q5
    rw [hf]
    clear hk hf
    replace hI := hide hI
    go_enter Tryd.func22, Tryd.ntmps22
    go_wp2_with (go_at_call 43; refine (unhide hI _).mono ?_; rintro e w1 ⟨rfl, b1⟩; have BB := bl_call (by (repeat (first | with_reducible exact Below.refl _ _ | with_reducible assumption | with_reducible refine Below.drew ?_ | with_reducible refine bl_alloc ?_ _ | with_reducible refine bl_call ?_ (by assumption) | (focus (with_reducible refine Below.setCell ?_ ?_ _; rotate_left; focus (first | omega | (simp <;> omega)))) | fail))) b1; obtain ⟨c0, c1, c2, c3, c4, c5⟩ := bk6 (r := ⟨g, a, l, n, s, x⟩) (Blk.below (Blk.new (w := w) rfl) b1 (by simp)); clear b1)
    go_ret
    exact ⟨rfl, by (repeat (first | with_reducible exact Below.refl _ _ | with_reducible assumption | with_reducible refine Below.drew ?_ | with_reducible refine bl_alloc ?_ _ | with_reducible refine bl_call ?_ (by assumption) | (focus (with_reducible refine Below.setCell ?_ ?_ _; rotate_left; focus (first | omega | (simp <;> omega)))) | fail))⟩
  have d50 : ¬ (32 * l < n) := by omega
  by_cases q6 : x ≤ 1099511627776
  rotate_left
  · have hf : rOk ⟨g, a, l, n, s, x⟩ = false := unhide hk false (by simp; omega)
    have d60 : (1099511627776 : Int) < (x : Int) := by omega
    have d61 : 1099511627776 < x := by omega
    rw [show (decide (0 ≤ a) && decide (1 ≤ l) && decide (a ≤ 8192 - l)) = true by simp; omega] at hI
    have w2 : IntKind.i64.wrap (32 * l) = 32 * l := IntWalk.i64_in _ (by omega)
    clear q0
    clear q1
    clear q2
    clear q3
    clear q4
    clear q5
    clear q6
    rw [hf]
    clear hk hf
    replace hI := hide hI
    go_enter Tryd.func22, Tryd.ntmps22
    go_wp2_with (go_at_call 43; refine (unhide hI _).mono ?_; rintro e w1 ⟨rfl, b1⟩; have BB := bl_call (by (repeat (first | with_reducible exact Below.refl _ _ | with_reducible assumption | with_reducible refine Below.drew ?_ | with_reducible refine bl_alloc ?_ _ | with_reducible refine bl_call ?_ (by assumption) | (focus (with_reducible refine Below.setCell ?_ ?_ _; rotate_left; focus (first | omega | (simp <;> omega)))) | fail))) b1; obtain ⟨c0, c1, c2, c3, c4, c5⟩ := bk6 (r := ⟨g, a, l, n, s, x⟩) (Blk.below (Blk.new (w := w) rfl) b1 (by simp)); clear b1)
    go_ret
    exact ⟨rfl, by (repeat (first | with_reducible exact Below.refl _ _ | with_reducible assumption | with_reducible refine Below.drew ?_ | with_reducible refine bl_alloc ?_ _ | with_reducible refine bl_call ?_ (by assumption) | (focus (with_reducible refine Below.setCell ?_ ?_ _; rotate_left; focus (first | omega | (simp <;> omega)))) | fail))⟩
  have d60 : ¬ ((1099511627776 : Int) < (x : Int)) := by omega
  have d61 : ¬ (1099511627776 < x) := by omega
  have hf : rOk ⟨g, a, l, n, s, x⟩ = true := unhide hk true (by simp; omega)
  rw [show (decide (0 ≤ a) && decide (1 ≤ l) && decide (a ≤ 8192 - l)) = true by simp; omega] at hI
  have w2 : IntKind.i64.wrap (32 * l) = 32 * l := IntWalk.i64_in _ (by omega)
  clear q0
  clear q1
  clear q2
  clear q3
  clear q4
  clear q5
  clear q6
  rw [hf]
  clear hk hf
  replace hI := hide hI
  go_enter Tryd.func22, Tryd.ntmps22
  go_wp2_with (go_at_call 43; refine (unhide hI _).mono ?_; rintro e w1 ⟨rfl, b1⟩; have BB := bl_call (by (repeat (first | with_reducible exact Below.refl _ _ | with_reducible assumption | with_reducible refine Below.drew ?_ | with_reducible refine bl_alloc ?_ _ | with_reducible refine bl_call ?_ (by assumption) | (focus (with_reducible refine Below.setCell ?_ ?_ _; rotate_left; focus (first | omega | (simp <;> omega)))) | fail))) b1; obtain ⟨c0, c1, c2, c3, c4, c5⟩ := bk6 (r := ⟨g, a, l, n, s, x⟩) (Blk.below (Blk.new (w := w) rfl) b1 (by simp)); clear b1)
  go_ret
  exact ⟨rfl, by (repeat (first | with_reducible exact Below.refl _ _ | with_reducible assumption | with_reducible refine Below.drew ?_ | with_reducible refine bl_alloc ?_ _ | with_reducible refine bl_call ?_ (by assumption) | (focus (with_reducible refine Below.setCell ?_ ?_ _; rotate_left; focus (first | omega | (simp <;> omega)))) | fail))⟩
theorem place_any (i : Nat) (hi : i ≤ 100) (w : World) : Calls Tryd.prog 29 #[.int .i64 i] w fun e w' => e = .returned (.int .i64 (place i : Nat)) ∧ w = w' := by
  go_enter Tryd.func29, Tryd.ntmps29
  go_wp2
  go_ret
  refine ⟨ret_i rfl ?_, rfl⟩
  unfold place
  omega
theorem stamp_any (r : Rt) (w : World) : Calls Tryd.prog 27 #[(.agg #[.int .u64 (r.gen : Nat), .int .i64 r.at_, .int .i64 r.len, .int .i64 r.long, .int .u32 (r.sum : Nat), .int .u64 (r.next : Nat)])] w fun e w' => e = .returned (.int .u8 ((oct r.gen 0).toNat : Int)) ∧ Below w.heap.size w w' := by
  have e1 : ((r.gen : Nat) : Int) % 256 = ((oct r.gen 0).toNat : Int) := by rw [oct_nat]; omega
  go_enter Tryd.func27, Tryd.ntmps27
  go_wp2
  go_ret
  exact ⟨ret_i rfl e1, by (repeat (first | with_reducible exact Below.refl _ _ | with_reducible assumption | with_reducible refine Below.drew ?_ | with_reducible refine bl_alloc ?_ _ | with_reducible refine bl_call ?_ (by assumption) | (focus (with_reducible refine Below.setCell ?_ ?_ _; rotate_left; focus (first | omega | (simp <;> omega)))) | fail))⟩
theorem turn_any (r : Rt) (w : World) : Calls Tryd.prog 36 #[(.agg #[.int .u64 (r.gen : Nat), .int .i64 r.at_, .int .i64 r.len, .int .i64 r.long, .int .u32 (r.sum : Nat), .int .u64 (r.next : Nat)])] w fun e w' => e = .returned (.int .i64 (r.gen % 2 : Nat)) ∧ Below w.heap.size w w' := by
  go_enter Tryd.func36, Tryd.ntmps36
  go_wp2
  go_ret
  exact ⟨ret_i rfl (by omega), by (repeat (first | with_reducible exact Below.refl _ _ | with_reducible assumption | with_reducible refine Below.drew ?_ | with_reducible refine bl_alloc ?_ _ | with_reducible refine bl_call ?_ (by assumption) | (focus (with_reducible refine Below.setCell ?_ ?_ _; rotate_left; focus (first | omega | (simp <;> omega)))) | fail))⟩
end Go.Proofs.YtommlgdolahfbaaDoor
