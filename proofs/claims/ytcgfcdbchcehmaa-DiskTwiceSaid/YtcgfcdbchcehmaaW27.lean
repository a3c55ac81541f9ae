import Derived.Test.YtcgfcdbchcehmaaW26
namespace Go.Proofs.Ytcgfcdbchcehmaa
open Go.RowKit

set_option maxRecDepth 100000 in
set_option maxHeartbeats 8000000 in
theorem twice_gate (A A' A1 A2 A3 A4 : Option Addr) (c c' c1 c2 c3 c4 : Nat) (d : Dk) (ms more : List UInt8) (at_ o_ : Int) (a b : List UInt8) (w : World)
    (h : Dsk 0 w.heap.size w (.agg #[.slice A d.dry.length c, .slice A' d.wet.length c', .int .i64 d.left]) d) (hm : Bs 0 w.heap.size w (.slice A1 ms.length c1) ms) (hmo : Bs 0 w.heap.size w (.slice A2 more.length c2) more) (hba : Bs 0 w.heap.size w (.slice A3 a.length c3) a) (hbb : Bs 0 w.heap.size w (.slice A4 b.length c4) b)
    (hg : fewB d = false ∨ (fewB d = true ∧ (300 < (ms.length : Int) ∨ ((ms.length : Int) ≤ 300 ∧ (300 < (more.length : Int) ∨ ((more.length : Int) ≤ 300 ∧ (100 < (a.length : Int) ∨ ((a.length : Int) ≤ 100 ∧ (100 < (b.length : Int) ∨ ((b.length : Int) ≤ 100 ∧ (d.left != -1) = true)))))))))) :
    Calls Try.prog 7 #[.agg #[.slice A d.dry.length c, .slice A' d.wet.length c', .int .i64 d.left], .slice A1 ms.length c1, .slice A2 more.length c2, .int .i64 at_, .int .i64 o_, .slice A3 a.length c3, .slice A4 b.length c4] w fun e w' => e = .returned (.bool true) ∧ Below w.heap.size w w' := by
  have hfw : ∀ W, Below w.heap.size w W → Calls Try.prog 10 #[.agg #[.slice A d.dry.length c, .slice A' d.wet.length c', .int .i64 d.left]] W fun e w' => e = .returned (.bool (fewB d)) ∧ Below W.heap.size W w' :=
    fun W hB => few_any 0 _ d W ((h.below hB (Nat.le_refl _)).mono (Nat.le_refl _) hB.size)
  have m1 : ms.length ≤ 9223372036854775807 := by obtain ⟨_, _, _, h1, h2, _⟩ := hm; omega
  have m2 : more.length ≤ 9223372036854775807 := by obtain ⟨_, _, _, h1, h2, _⟩ := hmo; omega
  have m3 : a.length ≤ 9223372036854775807 := by obtain ⟨_, _, _, h1, h2, _⟩ := hba; omega
  have m4 : b.length ≤ 9223372036854775807 := by obtain ⟨_, _, _, h1, h2, _⟩ := hbb; omega
  clear h hm hmo hba hbb
  generalize fewB d = fb at *
  generalize ms.length = n1 at *
  generalize more.length = n2 at *
  generalize a.length = n3 at *
  generalize b.length = n4 at *
  replace hfw := hide hfw
  rcases hg with rfl | ⟨rfl, h1 | ⟨h1, h2 | ⟨h2, h3 | ⟨h3, h4 | ⟨h4, h5⟩⟩⟩⟩⟩
  all_goals
    go_enter Try.func7, Try.ntmps7
    go_wp2_with (first
      | (go_at_call 9; refine (live_any _).mono ?_; rintro e w1 ⟨rfl, hb1⟩
         have HB1 : Below w.heap.size w w1 := bl_call (by (repeat (first | with_reducible exact Below.refl _ _ | with_reducible assumption | with_reducible refine Below.drew ?_ | with_reducible refine bl_alloc ?_ _ | with_reducible refine bl_call ?_ (by assumption) | (focus (with_reducible refine Below.setCell ?_ ?_ _; rotate_left; focus (first | omega | (simp <;> omega)))) | fail))) hb1
         have kb1 := hide (Blk.below (g := w.heap.size) (t := 25) (cs := #[.slice A d.dry.length c, .slice A' d.wet.length c', .int .i64 d.left]) (Blk.new rfl) hb1 (by simp))
         have ykb1 : w.heap.size < w1.heap.size := (unhide kb1).lt
         have tkb10 : w1.cell? ⟨w.heap.size, 0, none⟩ = some (.slice A d.dry.length c) := ((unhide kb1).cell 0).trans rfl
         have tkb11 : w1.cell? ⟨w.heap.size, 1, none⟩ = some (.slice A' d.wet.length c') := ((unhide kb1).cell 1).trans rfl
         have tkb12 : w1.cell? ⟨w.heap.size, 2, none⟩ = some (.int .i64 d.left) := ((unhide kb1).cell 2).trans rfl)
      | (go_at_call 10; refine (unhide hfw _ HB1).mono ?_; rintro e w2 ⟨rfl, hb2⟩
         have HB2 : Below w.heap.size w w2 := bl_call HB1 hb2
         have kb2 := hide (Blk.below (unhide kb1) hb2 ykb1)
         have ykb2 : w.heap.size < w2.heap.size := (unhide kb2).lt
         have tkb20 : w2.cell? ⟨w.heap.size, 0, none⟩ = some (.slice A d.dry.length c) := ((unhide kb2).cell 0).trans rfl
         have tkb21 : w2.cell? ⟨w.heap.size, 1, none⟩ = some (.slice A' d.wet.length c') := ((unhide kb2).cell 1).trans rfl
         have tkb22 : w2.cell? ⟨w.heap.size, 2, none⟩ = some (.int .i64 d.left) := ((unhide kb2).cell 2).trans rfl
         clear tkb10 tkb11 tkb12
         have tok1 : True := trivial)
      | fail)
    go_ret
    exact ⟨rfl, HB2⟩

set_option maxRecDepth 100000 in
set_option maxHeartbeats 8000000 in
theorem twice_bad (A A' A1 A2 A3 A4 : Option Addr) (c c' c1 c2 c3 c4 : Nat) (d : Dk) (ms more : List UInt8) (at_ o_ : Int) (a b : List UInt8) (w : World)
    (h : Dsk 0 w.heap.size w (.agg #[.slice A d.dry.length c, .slice A' d.wet.length c', .int .i64 d.left]) d) (hm : Bs 0 w.heap.size w (.slice A1 ms.length c1) ms) (hmo : Bs 0 w.heap.size w (.slice A2 more.length c2) more) (hba : Bs 0 w.heap.size w (.slice A3 a.length c3) a) (hbb : Bs 0 w.heap.size w (.slice A4 b.length c4) b)
    (hf : fewB d = true) (h1 : ms.length ≤ 300) (h2 : more.length ≤ 300) (h3 : a.length ≤ 100) (h4 : b.length ≤ 100) (hl1 : d.left = -1) (hok : okD d = false) :
    Calls Try.prog 7 #[.agg #[.slice A d.dry.length c, .slice A' d.wet.length c', .int .i64 d.left], .slice A1 ms.length c1, .slice A2 more.length c2, .int .i64 at_, .int .i64 o_, .slice A3 a.length c3, .slice A4 b.length c4] w fun e w' => e = .returned (.bool true) ∧ Below w.heap.size w w' := by
  obtain ⟨fl, fw60⟩ := few_sixty' hf
  have fw : d.wet.length ≤ 1000 := by omega
  have hfw : ∀ W, Below w.heap.size w W → Calls Try.prog 10 #[.agg #[.slice A d.dry.length c, .slice A' d.wet.length c', .int .i64 d.left]] W fun e w' => e = .returned (.bool true) ∧ Below W.heap.size W w' :=
    fun W hB => by have := few_any 0 _ d W ((h.below hB (Nat.le_refl _)).mono (Nat.le_refl _) hB.size); rwa [hf] at this
  have i1 : ¬ (300 : Int) < (ms.length : Int) := by omega
  have i2 : ¬ (300 : Int) < (more.length : Int) := by omega
  have i3 : ¬ (100 : Int) < (a.length : Int) := by omega
  have i4 : ¬ (100 : Int) < (b.length : Int) := by omega
  have hleft : (d.left != -1) = false := by rw [hl1]; rfl
  have hl0 : d.left ≠ 0 := by omega
  obtain ⟨CD, hCD⟩ : ∃ x, x = (crD d ms).1 := ⟨_, rfl⟩
  obtain ⟨EC, hEC⟩ : ∃ x, x = (crD d ms).2 := ⟨_, rfl⟩
  obtain ⟨XD, hXD⟩ : ∃ x, x = (wrD d at_ a).1 := ⟨_, rfl⟩
  obtain ⟨EX, hEX⟩ : ∃ x, x = (wrD d at_ a).2 := ⟨_, rfl⟩
  obtain ⟨YD, hYD⟩ : ∃ x, x = (wrD d o_ b).1 := ⟨_, rfl⟩
  obtain ⟨EY, hEY⟩ : ∃ x, x = (wrD d o_ b).2 := ⟨_, rfl⟩
  have hcr : ∀ W, Below w.heap.size w W → Calls Try.prog 27 #[.agg #[.slice A d.dry.length c, .slice A' d.wet.length c', .int .i64 d.left], .slice A1 ms.length c1] W fun e w' => ∃ v', e = .returned (.tuple #[v', .int .i64 EC]) ∧ Dsk W.heap.size w'.heap.size w' v' CD ∧ Below W.heap.size W w' :=
    fun W hB => (crash_any 0 _ _ d ms W ((h.below hB (Nat.le_refl _)).mono (Nat.le_refl _) hB.size) ((hm.below hB (Nat.le_refl _)).mono (Nat.le_refl _) hB.size) fl fw).mono fun e w' ⟨v', E, h1, h2, h3, h4⟩ => by
      rw [← hCD] at h2
      rw [h3, ← hEC] at h1
      exact ⟨v', h1, h2, h4⟩
  have hwx : ∀ W, Below w.heap.size w W → Calls Try.prog 12 #[.agg #[.slice A d.dry.length c, .slice A' d.wet.length c', .int .i64 d.left], .int .i64 at_, .slice A3 a.length c3] W fun e w' => ∃ v', e = .returned (.tuple #[v', .int .i64 EX]) ∧ Dsk W.heap.size w'.heap.size w' v' XD ∧ Below W.heap.size W w' :=
    fun W hB => (write_any 0 _ _ d at_ a W ((h.below hB (Nat.le_refl _)).mono (Nat.le_refl _) hB.size) ((hba.below hB (Nat.le_refl _)).mono (Nat.le_refl _) hB.size) fl fw).mono fun e w' ⟨v', E, h1, h2, h3, h4⟩ => by
      rw [← hXD] at h2
      rw [h3, ← hEX] at h1
      exact ⟨v', h1, h2, h4⟩
  have hwy : ∀ W, Below w.heap.size w W → Calls Try.prog 12 #[.agg #[.slice A d.dry.length c, .slice A' d.wet.length c', .int .i64 d.left], .int .i64 o_, .slice A4 b.length c4] W fun e w' => ∃ v', e = .returned (.tuple #[v', .int .i64 EY]) ∧ Dsk W.heap.size w'.heap.size w' v' YD ∧ Below W.heap.size W w' :=
    fun W hB => (write_any 0 _ _ d o_ b W ((h.below hB (Nat.le_refl _)).mono (Nat.le_refl _) hB.size) ((hbb.below hB (Nat.le_refl _)).mono (Nat.le_refl _) hB.size) fl fw).mono fun e w' ⟨v', E, h1, h2, h3, h4⟩ => by
      rw [← hYD] at h2
      rw [h3, ← hEY] at h1
      exact ⟨v', h1, h2, h4⟩
  have e1 : EC = 1 := by rw [hEC]; simp [crD, hok]
  have e2 : EX = 1 := by rw [hEX]; simp [wrD, wrB, hok]
  have e3 : EY = 1 := by rw [hEY]; simp [wrD, wrB, hok]
  subst e1 e2 e3
  replace hfw := hide hfw; replace hcr := hide hcr; replace hwx := hide hwx; replace hwy := hide hwy; replace hmo := hide hmo; replace hba := hide hba; replace hbb := hide hbb; replace hCD := hide hCD; replace hXD := hide hXD; replace hYD := hide hYD
  clear h hm hf hok hEC hEX hEY hl0 hl1 fl fw fw60
  go_enter Try.func7, Try.ntmps7
  go_wp2_with (first
    | (go_at_call 9; refine (live_any _).mono ?_; rintro e w1 ⟨rfl, hb1⟩
       have HB1 : Below w.heap.size w w1 := bl_call (by (repeat (first | with_reducible exact Below.refl _ _ | with_reducible assumption | with_reducible refine Below.drew ?_ | with_reducible refine bl_alloc ?_ _ | with_reducible refine bl_call ?_ (by assumption) | (focus (with_reducible refine Below.setCell ?_ ?_ _; rotate_left; focus (first | omega | (simp <;> omega)))) | fail))) hb1
       have kb1 := hide (Blk.below (g := w.heap.size) (t := 25) (cs := #[.slice A d.dry.length c, .slice A' d.wet.length c', .int .i64 d.left]) (Blk.new rfl) hb1 (by simp))
       have ykb1 : w.heap.size < w1.heap.size := (unhide kb1).lt
       have tkb10 : w1.cell? ⟨w.heap.size, 0, none⟩ = some (.slice A d.dry.length c) := ((unhide kb1).cell 0).trans rfl
       have tkb11 : w1.cell? ⟨w.heap.size, 1, none⟩ = some (.slice A' d.wet.length c') := ((unhide kb1).cell 1).trans rfl
       have tkb12 : w1.cell? ⟨w.heap.size, 2, none⟩ = some (.int .i64 d.left) := ((unhide kb1).cell 2).trans rfl)
    | (go_at_call 10; refine (unhide hfw _ HB1).mono ?_; rintro e w2 ⟨rfl, hb2⟩
       have HB2 : Below w.heap.size w w2 := bl_call HB1 hb2
       have kb2 := hide (Blk.below (unhide kb1) hb2 ykb1)
       have ykb2 : w.heap.size < w2.heap.size := (unhide kb2).lt
       have tkb20 : w2.cell? ⟨w.heap.size, 0, none⟩ = some (.slice A d.dry.length c) := ((unhide kb2).cell 0).trans rfl
       have tkb21 : w2.cell? ⟨w.heap.size, 1, none⟩ = some (.slice A' d.wet.length c') := ((unhide kb2).cell 1).trans rfl
       have tkb22 : w2.cell? ⟨w.heap.size, 2, none⟩ = some (.int .i64 d.left) := ((unhide kb2).cell 2).trans rfl
       clear tkb10 tkb11 tkb12
       have tok1 : True := trivial)
    | (go_at_call 27; have _t := tok1; refine (unhide hcr _ HB2).mono ?_; rintro e w3 ⟨v3, rfl, hd3, hb3⟩; clear tok1 _t
       have HB3 : Below w.heap.size w w3 := bl_call HB2 hb3
       obtain ⟨Ap, cp, Aq, cq, rfl⟩ := hd3.form
       have kb3 := hide (Blk.below (unhide kb2) hb3 ykb2)
       have ykb3 : w.heap.size < w3.heap.size := (unhide kb3).lt
       have tkb30 : w3.cell? ⟨w.heap.size, 0, none⟩ = some (.slice A d.dry.length c) := ((unhide kb3).cell 0).trans rfl
       have tkb31 : w3.cell? ⟨w.heap.size, 1, none⟩ = some (.slice A' d.wet.length c') := ((unhide kb3).cell 1).trans rfl
       have tkb32 : w3.cell? ⟨w.heap.size, 2, none⟩ = some (.int .i64 d.left) := ((unhide kb3).cell 2).trans rfl
       clear tkb20 tkb21 tkb22
       replace hd3 := hide hd3
       have tok2 : True := trivial)
    | (go_at_call 12; have _t := tok2; refine (unhide hwx _ (bl_alloc HB3 _)).mono ?_; rintro e w4 ⟨v4, rfl, hd4, hb4⟩; clear tok2 _t
       have HB4 : Below w.heap.size w w4 := bl_call (bl_alloc HB3 _) hb4
       obtain ⟨Ax, cx, Bx, ex, rfl⟩ := hd4.form
       have kb4 := hide (Blk.below ((unhide kb3).alloc _) hb4 (by simp; omega))
       have kc4 := hide (Blk.below (g := w3.heap.size) (t := 25) (cs := #[.slice Ap CD.dry.length cp, .slice Aq CD.wet.length cq, .int .i64 CD.left]) (Blk.new rfl) hb4 (by simp))
       have ykb4 : w.heap.size < w4.heap.size := (unhide kb4).lt
       have tkb40 : w4.cell? ⟨w.heap.size, 0, none⟩ = some (.slice A d.dry.length c) := ((unhide kb4).cell 0).trans rfl
       have tkb41 : w4.cell? ⟨w.heap.size, 1, none⟩ = some (.slice A' d.wet.length c') := ((unhide kb4).cell 1).trans rfl
       have tkb42 : w4.cell? ⟨w.heap.size, 2, none⟩ = some (.int .i64 d.left) := ((unhide kb4).cell 2).trans rfl
       have ykc4 : w3.heap.size < w4.heap.size := (unhide kc4).lt
       have tkc40 : w4.cell? ⟨w3.heap.size, 0, none⟩ = some (.slice Ap CD.dry.length cp) := ((unhide kc4).cell 0).trans rfl
       have tkc41 : w4.cell? ⟨w3.heap.size, 1, none⟩ = some (.slice Aq CD.wet.length cq) := ((unhide kc4).cell 1).trans rfl
       have tkc42 : w4.cell? ⟨w3.heap.size, 2, none⟩ = some (.int .i64 CD.left) := ((unhide kc4).cell 2).trans rfl
       clear tkb30 tkb31 tkb32
       clear hd4
       have tok5 : True := trivial)
    | (go_at_call 12; have _t := tok5; refine (unhide hwy _ (bl_alloc HB4 _)).mono ?_; rintro e w7 ⟨v7, rfl, hd7, hb7⟩; clear tok5 _t
       have HB7 : Below w.heap.size w w7 := bl_call (bl_alloc HB4 _) hb7
       obtain ⟨Ay, cy, By, ey, rfl⟩ := hd7.form
       clear hd7)
    | fail)
  go_ret
  exact ⟨rfl, by (repeat (first | with_reducible exact Below.refl _ _ | with_reducible assumption | with_reducible refine Below.drew ?_ | with_reducible refine bl_alloc ?_ _ | with_reducible refine bl_call ?_ (by assumption) | (focus (with_reducible refine Below.setCell ?_ ?_ _; rotate_left; focus (first | omega | (simp <;> omega)))) | fail))⟩
end Go.Proofs.Ytcgfcdbchcehmaa
