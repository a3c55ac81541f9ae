import Derived.Test.YtcgfcdbchcehmaaL21
import Derived.Test.YtcgfcdbchcehmaaW15
namespace Go.Proofs.Ytcgfcdbchcehmaa
open Go.RowKit

theorem wrPg_len (ps : List Pg) (at_ : Int) (b : List UInt8) : (wrPg ps at_ b).length ≤ 2 * ps.length + 1 := by
  unfold wrPg
  rw [List.length_append, List.length_cons]
  have h1 := List.length_filter_le (fun p : Pg => decide (p.at_ < at_)) ps
  have h2 := List.length_filter_le (fun p : Pg => decide (at_ < p.at_)) ps
  omega
theorem few_sixty {d : Dk} (h : fewB d = true) : d.dry.length ≤ 1000000 ∧ d.wet.length ≤ 60 := by
  simp only [fewB, Bool.and_eq_true, Bool.or_eq_true, decide_eq_true_eq] at h
  omega

set_option maxRecDepth 100000 in
set_option maxHeartbeats 8000000 in
theorem last_gate (A A' A2 A3 : Option Addr) (c c' c2 c3 : Nat) (d : Dk) (at_ : Int) (b : List UInt8) (other : Int) (ms : List UInt8) (w : World)
    (h : Dsk 0 w.heap.size w (.agg #[.slice A d.dry.length c, .slice A' d.wet.length c', .int .i64 d.left]) d) (hbs : Bs 0 w.heap.size w (.slice A2 b.length c2) b) (hm : Bs 0 w.heap.size w (.slice A3 ms.length c3) ms)
    (hg : fewB d = false ∨ (fewB d = true ∧ (100 < (b.length : Int) ∨ ((b.length : Int) ≤ 100 ∧ 300 < (ms.length : Int))))) :
    Calls Try.prog 5 #[.agg #[.slice A d.dry.length c, .slice A' d.wet.length c', .int .i64 d.left], .int .i64 at_, .slice A2 b.length c2, .int .i64 other, .slice A3 ms.length c3] w fun e w' => e = .returned (.bool true) ∧ Below w.heap.size w w' := by
  have hfw : ∀ W, Below w.heap.size w W → Calls Try.prog 10 #[.agg #[.slice A d.dry.length c, .slice A' d.wet.length c', .int .i64 d.left]] W fun e w' => e = .returned (.bool (fewB d)) ∧ Below W.heap.size W w' :=
    fun W hB => few_any 0 _ d W ((h.below hB (Nat.le_refl _)).mono (Nat.le_refl _) hB.size)
  have hm1 : ms.length ≤ 9223372036854775807 := by obtain ⟨_, _, _, h1, h2, _⟩ := hm; omega
  have hm2 : b.length ≤ 9223372036854775807 := by obtain ⟨_, _, _, h1, h2, _⟩ := hbs; omega
  clear h hbs hm
  generalize fewB d = fb at *
  generalize ms.length = nm at *
  generalize b.length = nb at *
  replace hfw := hide hfw
  rcases hg with rfl | ⟨rfl, h1 | ⟨h1, h2⟩⟩
  all_goals
    go_enter Try.func5, Try.ntmps5
    go_wp2_with (first
      | (go_at_call 9; refine (live_any _).mono ?_; rintro e w1 ⟨rfl, hb1⟩; have HB1 : Below w.heap.size w w1 := bl_call (by (repeat (first | with_reducible exact Below.refl _ _ | with_reducible assumption | with_reducible refine Below.drew ?_ | with_reducible refine bl_alloc ?_ _ | with_reducible refine bl_call ?_ (by assumption) | (focus (with_reducible refine Below.setCell ?_ ?_ _; rotate_left; focus (first | omega | (simp <;> omega)))) | fail))) hb1; (obtain ⟨hc1, hf1⟩ := bcell hb1; have hz1 := hb1.size; (try have y0 : w.heap.size < w1.heap.size := (by (simp at hz1; omega))); (try have y1 : w.heap.size + 1 < w1.heap.size := (by (simp at hz1; omega))); (try have y2 : w.heap.size + 2 < w1.heap.size := (by (simp at hz1; omega))); (try have y3 : w.heap.size + 3 < w1.heap.size := (by (simp at hz1; omega))); clear hz1))
      | (go_at_call 10; refine (unhide hfw _ HB1).mono ?_; rintro e w2 ⟨rfl, hb2⟩; have HB2 : Below w.heap.size w w2 := bl_call HB1 hb2)
      | fail)
    go_ret
    exact ⟨rfl, HB2⟩

set_option maxRecDepth 100000 in
set_option maxHeartbeats 8000000 in
theorem last_arg (A A' A2 A3 : Option Addr) (c c' c2 c3 : Nat) (d : Dk) (at_ : Int) (b : List UInt8) (other : Int) (ms : List UInt8) (w : World)
    (h : Dsk 0 w.heap.size w (.agg #[.slice A d.dry.length c, .slice A' d.wet.length c', .int .i64 d.left]) d) (hbs : Bs 0 w.heap.size w (.slice A2 b.length c2) b) (hm : Bs 0 w.heap.size w (.slice A3 ms.length c3) ms)
    (hf : fewB d = true) (hb100 : b.length ≤ 100) (hl : ms.length ≤ 300) (hq : wrB d at_ b.length = false) :
    Calls Try.prog 5 #[.agg #[.slice A d.dry.length c, .slice A' d.wet.length c', .int .i64 d.left], .int .i64 at_, .slice A2 b.length c2, .int .i64 other, .slice A3 ms.length c3] w fun e w' => e = .returned (.bool true) ∧ Below w.heap.size w w' := by
  obtain ⟨fl, fw60⟩ := few_sixty hf
  have fw : d.wet.length ≤ 1000 := by omega
  have hfw : ∀ W, Below w.heap.size w W → Calls Try.prog 10 #[.agg #[.slice A d.dry.length c, .slice A' d.wet.length c', .int .i64 d.left]] W fun e w' => e = .returned (.bool true) ∧ Below W.heap.size W w' :=
    fun W hB => by have := few_any 0 _ d W ((h.below hB (Nat.le_refl _)).mono (Nat.le_refl _) hB.size); rwa [hf] at this
  have hl' : ¬ (300 : Int) < (ms.length : Int) := by omega
  have hl2' : ¬ (100 : Int) < (b.length : Int) := by omega
  have hw : wrD d at_ b = (noDk, 1) := by simp [wrD, hq]
  have hwr : ∀ W, Below w.heap.size w W → Calls Try.prog 12 #[.agg #[.slice A d.dry.length c, .slice A' d.wet.length c', .int .i64 d.left], .int .i64 at_, .slice A2 b.length c2] W fun e w' => ∃ v', e = .returned (.tuple #[v', .int .i64 1]) ∧ Dsk W.heap.size w'.heap.size w' v' noDk ∧ Below W.heap.size W w' :=
    fun W hB => (write_any 0 _ _ d at_ b W ((h.below hB (Nat.le_refl _)).mono (Nat.le_refl _) hB.size) ((hbs.below hB (Nat.le_refl _)).mono (Nat.le_refl _) hB.size) fl fw).mono fun e w' ⟨v', E, h1, h2, h3, h4⟩ => by
      subst h3
      rw [hw] at h1 h2
      exact ⟨v', h1, h2, h4⟩
  replace hfw := hide hfw; replace hwr := hide hwr
  clear h hbs hm hf hq hw fl fw fw60
  go_enter Try.func5, Try.ntmps5
  go_wp2_with (first
    | (go_at_call 9; refine (live_any _).mono ?_; rintro e w1 ⟨rfl, hb1⟩
       have HB1 : Below w.heap.size w w1 := bl_call (by (repeat (first | with_reducible exact Below.refl _ _ | with_reducible assumption | with_reducible refine Below.drew ?_ | with_reducible refine bl_alloc ?_ _ | with_reducible refine bl_call ?_ (by assumption) | (focus (with_reducible refine Below.setCell ?_ ?_ _; rotate_left; focus (first | omega | (simp <;> omega)))) | fail))) hb1
       have kb1 := hide (Blk.below (g := w.heap.size) (t := 25) (cs := #[.slice A d.dry.length c, .slice A' d.wet.length c', .int .i64 d.left]) (Blk.new rfl) hb1 (by simp))
       have ykb1 : w.heap.size < w1.heap.size := (unhide kb1).lt
       have tkb10 : w1.cell? ⟨w.heap.size, 0, none⟩ = some (.slice A d.dry.length c) := ((unhide kb1).cell 0).trans rfl
       have tkb11 : w1.cell? ⟨w.heap.size, 1, none⟩ = some (.slice A' d.wet.length c') := ((unhide kb1).cell 1).trans rfl
       have tkb12 : w1.cell? ⟨w.heap.size, 2, none⟩ = some (.int .i64 d.left) := ((unhide kb1).cell 2).trans rfl)
    | (go_at_call 10; refine (unhide hfw _ HB1).mono ?_; rintro e w2 ⟨rfl, hb2⟩
       have HB2 : Below w.heap.size w w2 := bl_call HB1 hb2
       have kb2 := hide (Blk.below (unhide kb1) hb2 ykb1)
       have ykb2 : w.heap.size < w2.heap.size := (unhide kb2).lt
       have tkb20 : w2.cell? ⟨w.heap.size, 0, none⟩ = some (.slice A d.dry.length c) := ((unhide kb2).cell 0).trans rfl
       have tkb21 : w2.cell? ⟨w.heap.size, 1, none⟩ = some (.slice A' d.wet.length c') := ((unhide kb2).cell 1).trans rfl
       have tkb22 : w2.cell? ⟨w.heap.size, 2, none⟩ = some (.int .i64 d.left) := ((unhide kb2).cell 2).trans rfl
       clear tkb10 tkb11 tkb12)
    | (go_at_call 12; refine (unhide hwr _ HB2).mono ?_; rintro e w3 ⟨v3, rfl, hd3, hb3⟩
       have HB3 : Below w.heap.size w w3 := bl_call HB2 hb3
       obtain ⟨Ax, cx, Ay, cy, rfl⟩ := hd3.form
       clear hd3)
    | fail)
  go_ret
  exact ⟨rfl, by (repeat (first | with_reducible exact Below.refl _ _ | with_reducible assumption | with_reducible refine Below.drew ?_ | with_reducible refine bl_alloc ?_ _ | with_reducible refine bl_call ?_ (by assumption) | (focus (with_reducible refine Below.setCell ?_ ?_ _; rotate_left; focus (first | omega | (simp <;> omega)))) | fail))⟩

set_option maxRecDepth 100000 in
set_option maxHeartbeats 8000000 in
theorem last_dead (A A' A2 A3 : Option Addr) (c c' c2 c3 : Nat) (d : Dk) (at_ : Int) (b : List UInt8) (other : Int) (ms : List UInt8) (w : World)
    (h : Dsk 0 w.heap.size w (.agg #[.slice A d.dry.length c, .slice A' d.wet.length c', .int .i64 d.left]) d) (hbs : Bs 0 w.heap.size w (.slice A2 b.length c2) b) (hm : Bs 0 w.heap.size w (.slice A3 ms.length c3) ms)
    (hf : fewB d = true) (hb100 : b.length ≤ 100) (hl : ms.length ≤ 300) (hq : wrB d at_ b.length = true) (hl0 : d.left = 0) :
    Calls Try.prog 5 #[.agg #[.slice A d.dry.length c, .slice A' d.wet.length c', .int .i64 d.left], .int .i64 at_, .slice A2 b.length c2, .int .i64 other, .slice A3 ms.length c3] w fun e w' => e = .returned (.bool true) ∧ Below w.heap.size w w' := by
  obtain ⟨fl, fw60⟩ := few_sixty hf
  have fw : d.wet.length ≤ 1000 := by omega
  have hfw : ∀ W, Below w.heap.size w W → Calls Try.prog 10 #[.agg #[.slice A d.dry.length c, .slice A' d.wet.length c', .int .i64 d.left]] W fun e w' => e = .returned (.bool true) ∧ Below W.heap.size W w' :=
    fun W hB => by have := few_any 0 _ d W ((h.below hB (Nat.le_refl _)).mono (Nat.le_refl _) hB.size); rwa [hf] at this
  have hl' : ¬ (300 : Int) < (ms.length : Int) := by omega
  have hl2' : ¬ (100 : Int) < (b.length : Int) := by omega
  have hw : wrD d at_ b = (noDk, 11) := by simp [wrD, hq, hl0]
  have hok : okD d = true := by simp only [wrB, Bool.and_eq_true] at hq; exact hq.1.1
  have hsy : ∀ W, Below w.heap.size w W → Calls Try.prog 16 #[.agg #[.slice A d.dry.length c, .slice A' d.wet.length c', .int .i64 d.left]] W fun e w' => ∃ v', e = .returned (.tuple #[v', .int .i64 11]) ∧ Dsk W.heap.size w'.heap.size w' v' noDk ∧ Below W.heap.size W w' :=
    fun W hB => (sync_any 0 _ d W ((h.below hB (Nat.le_refl _)).mono (Nat.le_refl _) hB.size) fl fw).mono fun e w' ⟨v', E, h1, h2, h3, h4⟩ => by
      subst h3
      rw [show synD d = (noDk, 11) by simp [synD, hok, hl0]] at h1 h2
      exact ⟨v', h1, h2, h4⟩
  have hwr : ∀ W, Below w.heap.size w W → Calls Try.prog 12 #[.agg #[.slice A d.dry.length c, .slice A' d.wet.length c', .int .i64 d.left], .int .i64 at_, .slice A2 b.length c2] W fun e w' => ∃ v', e = .returned (.tuple #[v', .int .i64 11]) ∧ Dsk W.heap.size w'.heap.size w' v' noDk ∧ Below W.heap.size W w' :=
    fun W hB => (write_any 0 _ _ d at_ b W ((h.below hB (Nat.le_refl _)).mono (Nat.le_refl _) hB.size) ((hbs.below hB (Nat.le_refl _)).mono (Nat.le_refl _) hB.size) fl fw).mono fun e w' ⟨v', E, h1, h2, h3, h4⟩ => by
      subst h3
      rw [hw] at h1 h2
      exact ⟨v', h1, h2, h4⟩
  rw [hl0] at hfw hwr hsy ⊢
  replace hfw := hide hfw; replace hwr := hide hwr; replace hsy := hide hsy
  clear h hbs hm hf hq hw fl fw fw60 hok hl0
  go_enter Try.func5, Try.ntmps5
  go_wp2_with (first
    | (go_at_call 9; refine (live_any _).mono ?_; rintro e w1 ⟨rfl, hb1⟩
       have HB1 : Below w.heap.size w w1 := bl_call (by (repeat (first | with_reducible exact Below.refl _ _ | with_reducible assumption | with_reducible refine Below.drew ?_ | with_reducible refine bl_alloc ?_ _ | with_reducible refine bl_call ?_ (by assumption) | (focus (with_reducible refine Below.setCell ?_ ?_ _; rotate_left; focus (first | omega | (simp <;> omega)))) | fail))) hb1
       have kb1 := hide (Blk.below (g := w.heap.size) (t := 25) (cs := #[.slice A d.dry.length c, .slice A' d.wet.length c', .int .i64 0]) (Blk.new rfl) hb1 (by simp))
       have ykb1 : w.heap.size < w1.heap.size := (unhide kb1).lt
       have tkb10 : w1.cell? ⟨w.heap.size, 0, none⟩ = some (.slice A d.dry.length c) := ((unhide kb1).cell 0).trans rfl
       have tkb11 : w1.cell? ⟨w.heap.size, 1, none⟩ = some (.slice A' d.wet.length c') := ((unhide kb1).cell 1).trans rfl
       have tkb12 : w1.cell? ⟨w.heap.size, 2, none⟩ = some (.int .i64 0) := ((unhide kb1).cell 2).trans rfl)
    | (go_at_call 10; refine (unhide hfw _ HB1).mono ?_; rintro e w2 ⟨rfl, hb2⟩
       have HB2 : Below w.heap.size w w2 := bl_call HB1 hb2
       have kb2 := hide (Blk.below (unhide kb1) hb2 ykb1)
       have ykb2 : w.heap.size < w2.heap.size := (unhide kb2).lt
       have tkb20 : w2.cell? ⟨w.heap.size, 0, none⟩ = some (.slice A d.dry.length c) := ((unhide kb2).cell 0).trans rfl
       have tkb21 : w2.cell? ⟨w.heap.size, 1, none⟩ = some (.slice A' d.wet.length c') := ((unhide kb2).cell 1).trans rfl
       have tkb22 : w2.cell? ⟨w.heap.size, 2, none⟩ = some (.int .i64 0) := ((unhide kb2).cell 2).trans rfl
       clear tkb10 tkb11 tkb12)
    | (go_at_call 12; refine (unhide hwr _ HB2).mono ?_; rintro e w3 ⟨v3, rfl, hd3, hb3⟩
       have HB3 : Below w.heap.size w w3 := bl_call HB2 hb3
       obtain ⟨Ax, cx, Ay, cy, rfl⟩ := hd3.form
       have kb3 := hide (Blk.below (unhide kb2) hb3 ykb2)
       have ykb3 : w.heap.size < w3.heap.size := (unhide kb3).lt
       have tkb30 : w3.cell? ⟨w.heap.size, 0, none⟩ = some (.slice A d.dry.length c) := ((unhide kb3).cell 0).trans rfl
       have tkb31 : w3.cell? ⟨w.heap.size, 1, none⟩ = some (.slice A' d.wet.length c') := ((unhide kb3).cell 1).trans rfl
       have tkb32 : w3.cell? ⟨w.heap.size, 2, none⟩ = some (.int .i64 0) := ((unhide kb3).cell 2).trans rfl
       clear tkb20 tkb21 tkb22
       clear hd3)
    | (go_at_call 16; refine (unhide hsy _ (bl_alloc HB3 _)).mono ?_; rintro e w4 ⟨v4, rfl, hd4, hb4⟩
       have HB4 : Below w.heap.size w w4 := bl_call (bl_alloc HB3 _) hb4
       obtain ⟨Au, cu, Av, cv, rfl⟩ := hd4.form
       have kb4 := hide (Blk.below ((unhide kb3).alloc _) hb4 (by simp; omega))
       have ykb4 : w.heap.size < w4.heap.size := (unhide kb4).lt
       have tkb40 : w4.cell? ⟨w.heap.size, 0, none⟩ = some (.slice A d.dry.length c) := ((unhide kb4).cell 0).trans rfl
       have tkb41 : w4.cell? ⟨w.heap.size, 1, none⟩ = some (.slice A' d.wet.length c') := ((unhide kb4).cell 1).trans rfl
       have tkb42 : w4.cell? ⟨w.heap.size, 2, none⟩ = some (.int .i64 0) := ((unhide kb4).cell 2).trans rfl
       clear tkb30 tkb31 tkb32
       clear hd4)
    | fail)
  go_ret
  exact ⟨rfl, by (repeat (first | with_reducible exact Below.refl _ _ | with_reducible assumption | with_reducible refine Below.drew ?_ | with_reducible refine bl_alloc ?_ _ | with_reducible refine bl_call ?_ (by assumption) | (focus (with_reducible refine Below.setCell ?_ ?_ _; rotate_left; focus (first | omega | (simp <;> omega)))) | fail))⟩
end Go.Proofs.Ytcgfcdbchcehmaa
