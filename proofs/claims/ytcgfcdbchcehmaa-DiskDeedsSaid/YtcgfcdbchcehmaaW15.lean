import Derived.Test.YtcgfcdbchcehmaaW11
import Derived.Test.YtcgfcdbchcehmaaW13
import Derived.Test.YtcgfcdbchcehmaaL14
namespace Go.Proofs.Ytcgfcdbchcehmaa
open Go.RowKit

theorem few_parts {d : Dk} (h : fewB d = true) : d.dry.length ≤ 1000000 ∧ d.wet.length ≤ 1000 := by
  simp only [fewB, Bool.and_eq_true, Bool.or_eq_true, decide_eq_true_eq] at h
  omega

set_option maxRecDepth 100000 in
set_option maxHeartbeats 4000000 in
theorem torn_gate (A A' A3 : Option Addr) (c c' c3 : Nat) (d : Dk) (ms : List UInt8) (at_ k : Int) (w : World) (h : Dsk 0 w.heap.size w (.agg #[.slice A d.dry.length c, .slice A' d.wet.length c', .int .i64 d.left]) d) (_hm : ms.length ≤ 9223372036854775807)
    (hg : fewB d = false ∨ (fewB d = true ∧ (300 < (ms.length : Int) ∨ ((ms.length : Int) ≤ 300 ∧ (k < 0 ∨ (0 ≤ k ∧ 7 < k)))))) :
    Calls Try.prog 6 #[.agg #[.slice A d.dry.length c, .slice A' d.wet.length c', .int .i64 d.left], .slice A3 ms.length c3, .int .i64 at_, .int .i64 k] w fun e w' => e = .returned (.bool true) ∧ Below w.heap.size w w' := by
  have hfw : ∀ W, Below w.heap.size w W → Calls Try.prog 10 #[.agg #[.slice A d.dry.length c, .slice A' d.wet.length c', .int .i64 d.left]] W fun e w' => e = .returned (.bool (fewB d)) ∧ Below W.heap.size W w' :=
    fun W hB => few_any 0 _ d W ((h.below hB (Nat.le_refl _)).mono (Nat.le_refl _) hB.size)
  clear h
  generalize fewB d = fb at *
  generalize ms.length = nm at *
  replace hfw := hide hfw
  rcases hg with rfl | ⟨rfl, h1 | ⟨h1, h2 | ⟨h2, h3⟩⟩⟩
  all_goals
    go_enter Try.func6, Try.ntmps6
    go_wp2_with (first
      | (go_at_call 9; refine (live_any _).mono ?_; rintro e w1 ⟨rfl, hb1⟩; have HB1 : Below w.heap.size w w1 := bl_call (by (repeat (first | with_reducible exact Below.refl _ _ | with_reducible assumption | with_reducible refine Below.drew ?_ | with_reducible refine bl_alloc ?_ _ | with_reducible refine bl_call ?_ (by assumption) | (focus (with_reducible refine Below.setCell ?_ ?_ _; rotate_left; focus (first | omega | (simp <;> omega)))) | fail))) hb1; (obtain ⟨hc1, hf1⟩ := bcell hb1; have hz1 := hb1.size; (try have y0 : w.heap.size < w1.heap.size := (by (simp at hz1; omega))); (try have y1 : w.heap.size + 1 < w1.heap.size := (by (simp at hz1; omega))); (try have y2 : w.heap.size + 2 < w1.heap.size := (by (simp at hz1; omega))); (try have y3 : w.heap.size + 3 < w1.heap.size := (by (simp at hz1; omega))); clear hz1))
      | (go_at_call 10; refine (unhide hfw _ HB1).mono ?_; rintro e w2 ⟨rfl, hb2⟩; have HB2 : Below w.heap.size w w2 := bl_call HB1 hb2)
      | fail)
    go_ret
    exact ⟨rfl, HB2⟩

set_option maxRecDepth 100000 in
set_option maxHeartbeats 4000000 in
theorem torn_bad (A A' A3 : Option Addr) (c c' c3 : Nat) (d : Dk) (ms : List UInt8) (at_ k : Int) (w : World)
    (h : Dsk 0 w.heap.size w (.agg #[.slice A d.dry.length c, .slice A' d.wet.length c', .int .i64 d.left]) d) (hm : Bs 0 w.heap.size w (.slice A3 ms.length c3) ms)
    (hf : fewB d = true) (hl : ms.length ≤ 300) (k0 : 0 ≤ k) (k7 : k ≤ 7) (hok : okD d = false) :
    Calls Try.prog 6 #[.agg #[.slice A d.dry.length c, .slice A' d.wet.length c', .int .i64 d.left], .slice A3 ms.length c3, .int .i64 at_, .int .i64 k] w fun e w' => e = .returned (.bool true) ∧ Below w.heap.size w w' := by
  obtain ⟨fl, fw⟩ := few_parts hf
  have hfw : ∀ W, Below w.heap.size w W → Calls Try.prog 10 #[.agg #[.slice A d.dry.length c, .slice A' d.wet.length c', .int .i64 d.left]] W fun e w' => e = .returned (.bool true) ∧ Below W.heap.size W w' :=
    fun W hB => by have := few_any 0 _ d W ((h.below hB (Nat.le_refl _)).mono (Nat.le_refl _) hB.size); rwa [hf] at this
  have hcr : ∀ W, Below w.heap.size w W → Calls Try.prog 27 #[.agg #[.slice A d.dry.length c, .slice A' d.wet.length c', .int .i64 d.left], .slice A3 ms.length c3] W fun e w' => ∃ v' E, e = .returned (.tuple #[v', .int .i64 E]) ∧ Dsk W.heap.size w'.heap.size w' v' (crD d ms).1 ∧ E = (crD d ms).2 ∧ Below W.heap.size W w' :=
    fun W hB => crash_any 0 _ _ d ms W ((h.below hB (Nat.le_refl _)).mono (Nat.le_refl _) hB.size) ((hm.below hB (Nat.le_refl _)).mono (Nat.le_refl _) hB.size) fl fw
  have hck : ∀ W, Below w.heap.size w W → Calls Try.prog 24 #[.agg #[.slice A d.dry.length c, .slice A' d.wet.length c', .int .i64 d.left]] W fun e w' => e = .returned (.int .i64 1) ∧ Below W.heap.size W w' :=
    fun W hB => by have := check_any 0 _ d W ((h.below hB (Nat.le_refl _)).mono (Nat.le_refl _) hB.size); rw [hok] at this; exact this
  have hE : (crD d ms).2 = 1 := by simp [crD, hok]
  have hl' : ¬ (300 : Int) < (ms.length : Int) := by omega
  replace hfw := hide hfw; replace hcr := hide hcr; replace hck := hide hck; replace hE := hide hE
  clear h hm hf hok fl fw
  go_enter Try.func6, Try.ntmps6
  go_wp2_with (first
    | (go_at_call 9; refine (live_any _).mono ?_; rintro e w1 ⟨rfl, hb1⟩; have HB1 : Below w.heap.size w w1 := bl_call (by (repeat (first | with_reducible exact Below.refl _ _ | with_reducible assumption | with_reducible refine Below.drew ?_ | with_reducible refine bl_alloc ?_ _ | with_reducible refine bl_call ?_ (by assumption) | (focus (with_reducible refine Below.setCell ?_ ?_ _; rotate_left; focus (first | omega | (simp <;> omega)))) | fail))) hb1
       have kb := hide (Blk.below (g := w.heap.size) (t := 25) (cs := #[.slice A d.dry.length c, .slice A' d.wet.length c', .int .i64 d.left]) (Blk.new rfl) hb1 (by simp)); (obtain ⟨hc1, hf1⟩ := bcell hb1; have hz1 := hb1.size; (try have y0 : w.heap.size < w1.heap.size := (by (simp at hz1; omega))); (try have y1 : w.heap.size + 1 < w1.heap.size := (by (simp at hz1; omega))); (try have y2 : w.heap.size + 2 < w1.heap.size := (by (simp at hz1; omega))); (try have y3 : w.heap.size + 3 < w1.heap.size := (by (simp at hz1; omega))); clear hz1))
    | (go_at_call 10; refine (unhide hfw _ HB1).mono ?_; rintro e w2 ⟨rfl, hb2⟩; have HB2 : Below w.heap.size w w2 := bl_call HB1 hb2
       replace kb := hide ((unhide kb).below hb2 y0)
       have y2 : w.heap.size < w2.heap.size := (unhide kb).lt
       have t0 : w2.cell? ⟨w.heap.size, 0, none⟩ = some (.slice A d.dry.length c) := ((unhide kb).cell 0).trans rfl
       have t1 : w2.cell? ⟨w.heap.size, 1, none⟩ = some (.slice A' d.wet.length c') := ((unhide kb).cell 1).trans rfl
       have t2 : w2.cell? ⟨w.heap.size, 2, none⟩ = some (.int .i64 d.left) := ((unhide kb).cell 2).trans rfl)
    | (go_at_call 27; refine (unhide hcr _ HB2).mono ?_; rintro e w3 ⟨v3, E, rfl, hd3, hE3, hb3⟩; have HB3 : Below w.heap.size w w3 := bl_call HB2 hb3
       obtain ⟨Ax, cx, Ay, cy, rfl⟩ := hd3.form
       obtain rfl : E = 1 := hE3.trans (unhide hE)
       clear hE3
       replace kb := hide ((unhide kb).below hb3 y2)
       have y3 : w.heap.size < w3.heap.size := (unhide kb).lt
       have s0 : w3.cell? ⟨w.heap.size, 0, none⟩ = some (.slice A d.dry.length c) := ((unhide kb).cell 0).trans rfl
       have s1 : w3.cell? ⟨w.heap.size, 1, none⟩ = some (.slice A' d.wet.length c') := ((unhide kb).cell 1).trans rfl
       have s2 : w3.cell? ⟨w.heap.size, 2, none⟩ = some (.int .i64 d.left) := ((unhide kb).cell 2).trans rfl
       replace hd3 := hide hd3)
    | (go_at_call 24; refine (unhide hck _ (by (repeat (first | with_reducible exact Below.refl _ _ | with_reducible assumption | with_reducible refine Below.drew ?_ | with_reducible refine bl_alloc ?_ _ | with_reducible refine bl_call ?_ (by assumption) | (focus (with_reducible refine Below.setCell ?_ ?_ _; rotate_left; focus (first | omega | (simp <;> omega)))) | fail)))).mono ?_; rintro e w4 ⟨rfl, hb4⟩)
    | fail)
  go_ret
  exact ⟨rfl, by (repeat (first | with_reducible exact Below.refl _ _ | with_reducible assumption | with_reducible refine Below.drew ?_ | with_reducible refine bl_alloc ?_ _ | with_reducible refine bl_call ?_ (by assumption) | (focus (with_reducible refine Below.setCell ?_ ?_ _; rotate_left; focus (first | omega | (simp <;> omega)))) | fail))⟩

end Go.Proofs.Ytcgfcdbchcehmaa
