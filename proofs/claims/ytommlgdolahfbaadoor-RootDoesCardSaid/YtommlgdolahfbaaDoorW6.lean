import Derived.Test.YtommlgdolahfbaaDoorL5
import Derived.Test.YtommlgdolahfbaaDoorW1
namespace Go.Proofs.YtommlgdolahfbaaDoor
set_option maxRecDepth 100000
open Go.RowKit

theorem Agree.setCell {lo hi : Nat} {a w : World} (h : Agree lo hi a w) {p : Addr} (hp : p.block < lo) (u : Value) : Agree lo hi a (w.setCell p u) := fun k h1 h2 => (Below.heap_setCell w p u k (by omega)).trans (h k h1 h2)
theorem Agree.alloc {lo hi : Nat} {a w : World} (h : Agree lo hi a w) (hs : hi ≤ w.heap.size) (o : Obj) : Agree lo hi a (w.alloc o) := fun k h1 h2 => (Below.heap_alloc w o k (by omega)).trans (h k h1 h2)

/-- What is left behind a deed. -/
def less (l : Int) : Int := if l = -1 then -1 else l - 1

theorem ret_disk2 {fn : Func} {p u : Tmp} {R : Ending → World → Prop} {a : Act} {w : World} (h : fn.results = #[.cell p 31, .tmp u]) (g : Nat) (cs : Array Value) (hs : cs.size = 3) (v : Value)
    (hp : a.tmps.getD p undef = .pointer (some ⟨g, 0, none⟩)) (hu : a.tmps.getD u undef = v) (hg : Blk w g 31 cs) (hd : a.defers = []) (hR : R (.returned (.tuple #[.agg cs, v])) w) : bodyPost Tryd.prog fn R .ret a w := by
  refine bodyPost_ret (v := .tuple #[.agg cs, v]) ?_ hd hR
  rw [results_cell_tmp h, hp, hu]
  have hl := run_loadVar_row (P := Tryd.prog) w g 31 31 cs (0, 0) _ hg Tryd.underlying31 rfl ((by kernel_rfl : (Tryd.prog.info? 31).map (·.size) = some 3).trans (by rw [hs]))
  simp [asAddr, Result.andThen, hl]

set_option maxHeartbeats 1000000 in
/-- deed at its end. -/
theorem deed_dead (va vb f : Value) (w : World) :
    Calls Tryd.prog 46 #[.agg #[va, vb, .int .i64 0], f] w fun e w' => e = .returned (.tuple #[.agg #[.slice none 0 0, .slice none 0 0, .int .i64 0], .int .i64 11]) ∧ Below w.heap.size w w' := by
  go_enter Tryd.func46, Tryd.ntmps46
  go_wp2
  refine ret_disk2 rfl (w.heap.size + 1) #[.slice none 0 0, .slice none 0 0, .int .i64 0] rfl (.int .i64 11) rfl rfl ?_ rfl ⟨rfl, ?_⟩
  · exact Blk.new (by simp)
  · (repeat (first | with_reducible exact Below.refl _ _ | with_reducible assumption | with_reducible refine Below.drew ?_ | with_reducible refine bl_alloc ?_ _ | with_reducible refine bl_call ?_ (by assumption) | (focus (with_reducible refine Below.setCell ?_ ?_ _; rotate_left; focus (first | omega | (simp <;> omega)))) | fail))

set_option maxHeartbeats 1000000 in
/-- deed, while there are deeds left: what the closure makes, with one deed less. -/
theorem deed_goes (F : FuncId) (caps : Array Value) (va vb : Value) (l : Int) (Φ : Value → Value → World → Prop) (w : World) (hl : l ≠ 0) (hl' : -1 ≤ l) (hl2 : l ≤ 1073741824)
    (hF : ∀ W, (callFunc F caps).run Tryd.prog W = .ok (.enter F caps) W) (hst : ∀ x y w1 w2, Φ x y w1 → Agree (w.heap.size + 2) w1.heap.size w1 w2 → w1.heap.size ≤ w2.heap.size → Φ x y w2)
    (hdo : ∀ W, Below w.heap.size w W → w.heap.size + 2 ≤ W.heap.size → Calls Tryd.prog F caps W fun e w' => ∃ A n c A' n' c' z, e = .returned (.agg #[.slice A n c, .slice A' n' c', .int .i64 z]) ∧ Φ (.slice A n c) (.slice A' n' c') w' ∧ Below W.heap.size W w') :
    Calls Tryd.prog 46 #[.agg #[va, vb, .int .i64 l], .func (.func F) #[] caps] w fun e w' => ∃ x y, e = .returned (.tuple #[.agg #[x, y, .int .i64 (less l)], .int .i64 0]) ∧ Φ x y w' ∧ Below w.heap.size w w' := by
  have e1 : (l == 0) = false := by simpa using hl
  replace hdo := hide hdo; replace hst := hide hst
  clear hl
  go_enter Tryd.func46, Tryd.ntmps46
  go_wp2_with (first
    | (refine (unhide hdo _ (by (repeat (first | with_reducible exact Below.refl _ _ | with_reducible assumption | with_reducible refine Below.drew ?_ | with_reducible refine bl_alloc ?_ _ | with_reducible refine bl_call ?_ (by assumption) | (focus (with_reducible refine Below.setCell ?_ ?_ _; rotate_left; focus (first | omega | (simp <;> omega)))) | fail))) (by simp)).mono ?_; rintro e w1 ⟨A1, n1, c1, A2, n2, c2, z, rfl, hP, hb1⟩
       have hk := hide (Blk.below (g := w.heap.size + 1) (t := 31) (cs := #[.slice none 0 0, .slice none 0 0, .int .i64 0]) (by (repeat (first | with_reducible assumption | (focus (with_reducible refine Blk.new ?_; focus (simp <;> fail))) | with_reducible refine Blk.set3 (a := .slice none 0 0) (b := .slice none 0 0) (c := .int .i64 0) ?_ | with_reducible refine Blk.alloc ?_ _ | with_reducible refine Blk.drew ?_ | (focus (with_reducible refine Blk.far ?_ ?_ _; rotate_left; focus (first | omega | (simp <;> omega)))) | (focus (with_reducible refine Blk.below ?_ hb1 ?_; rotate_left; focus (first | omega | (simp <;> omega)))) | fail))) hb1 (by simp))
       have HB1 : Below w.heap.size w w1 := bl_call (by (repeat (first | with_reducible exact Below.refl _ _ | with_reducible assumption | with_reducible refine Below.drew ?_ | with_reducible refine bl_alloc ?_ _ | with_reducible refine bl_call ?_ (by assumption) | (focus (with_reducible refine Below.setCell ?_ ?_ _; rotate_left; focus (first | omega | (simp <;> omega)))) | fail))) hb1
       replace hP := hide hP
       (obtain ⟨hc1, hf1⟩ := bcell hb1; have hz1 := hb1.size; (try have y0 : w.heap.size < w1.heap.size := (by (simp at hz1; omega))); (try have y1 : w.heap.size + 1 < w1.heap.size := (by (simp at hz1; omega))); (try have y2 : w.heap.size + 2 < w1.heap.size := (by (simp at hz1; omega))); (try have y3 : w.heap.size + 3 < w1.heap.size := (by (simp at hz1; omega))); clear hz1))
    | fail)
  all_goals
    have hk' := fun (cs : Array Value) => ((unhide hk).alloc (.cells cs 31))
    refine ret_disk2 rfl (w.heap.size + 1) #[.slice A1 n1 c1, .slice A2 n2 c2, .int .i64 (less l)] rfl (.int .i64 0) rfl rfl ?_ rfl ⟨_, _, rfl, ?_, ?_⟩
    · have h3 := (unhide hk).set3 (x := .slice A1 n1 c1) (y := .slice A2 n2 c2) (z := .int .i64 (less l))
      first
        | (rw [show less l = l - 1 from by have hh : (l != -1) = true := by assumption
                                           simp at hh; simp [less, hh]] at h3 ⊢
           exact h3.alloc _)
        | (rw [show less l = l from by have hh : (l != -1) = false := by assumption
                                       simp at hh; simp [less, hh]] at h3 ⊢
           exact h3.alloc _)
        | (rw [show less l = l - 1 from by have hh : ¬ l = -1 := by assumption
                                           simp [less, hh]] at h3 ⊢
           exact h3.alloc _)
        | (rw [show less l = l from by have hh : l = -1 := by assumption
                                       simp [less, hh]] at h3 ⊢
           exact h3.alloc _)
    · refine (unhide hst) _ _ _ _ (unhide hP) ?_ (by simp)
      exact (((((Agree.refl _ _ _).setCell (by simp) _).setCell (by simp) _).setCell (by simp) _).alloc (by simp) _)
    · (repeat (first | with_reducible exact Below.refl _ _ | with_reducible assumption | with_reducible refine Below.drew ?_ | with_reducible refine bl_alloc ?_ _ | with_reducible refine bl_call ?_ (by assumption) | (focus (with_reducible refine Below.setCell ?_ ?_ _; rotate_left; focus (first | omega | (simp <;> omega)))) | fail))

end Go.Proofs.YtommlgdolahfbaaDoor
