import Derived.Test.YtcgfcdbchcehmaaW15
namespace Go.Proofs.Ytcgfcdbchcehmaa
open Go.RowKit

set_option maxRecDepth 100000 in
set_option maxHeartbeats 8000000 in
theorem torn_nosec (A A' A3 : Option Addr) (c c' c3 : Nat) (d : Dk) (ms : List UInt8) (at_ k : Int) (w : World)
    (h : Dsk 0 w.heap.size w (.agg #[.slice A d.dry.length c, .slice A' d.wet.length c', .int .i64 d.left]) d) (hm : Bs 0 w.heap.size w (.slice A3 ms.length c3) ms)
    (hf : fewB d = true) (hl : ms.length ≤ 300) (k0 : 0 ≤ k) (k7 : k ≤ 7) (hok : okD d = true) (hh : hasB d.dry.length at_ = false) :
    Calls Try.prog 6 #[.agg #[.slice A d.dry.length c, .slice A' d.wet.length c', .int .i64 d.left], .slice A3 ms.length c3, .int .i64 at_, .int .i64 k] w fun e w' => e = .returned (.bool true) ∧ Below w.heap.size w w' := by
  obtain ⟨fl, fw⟩ := few_parts hf
  have hfw : ∀ W, Below w.heap.size w W → Calls Try.prog 10 #[.agg #[.slice A d.dry.length c, .slice A' d.wet.length c', .int .i64 d.left]] W fun e w' => e = .returned (.bool true) ∧ Below W.heap.size W w' :=
    fun W hB => by have := few_any 0 _ d W ((h.below hB (Nat.le_refl _)).mono (Nat.le_refl _) hB.size); rwa [hf] at this
  have hcr : ∀ W, Below w.heap.size w W → Calls Try.prog 27 #[.agg #[.slice A d.dry.length c, .slice A' d.wet.length c', .int .i64 d.left], .slice A3 ms.length c3] W fun e w' => ∃ v' E, e = .returned (.tuple #[v', .int .i64 E]) ∧ Dsk W.heap.size w'.heap.size w' v' (crD d ms).1 ∧ E = (crD d ms).2 ∧ Below W.heap.size W w' :=
    fun W hB => crash_any 0 _ _ d ms W ((h.below hB (Nat.le_refl _)).mono (Nat.le_refl _) hB.size) ((hm.below hB (Nat.le_refl _)).mono (Nat.le_refl _) hB.size) fl fw
  have hdn : Dsk 0 w.heap.size w (.agg #[.slice A d.dry.length c, .slice none 0 0, .int .i64 (-1)]) ⟨d.dry, [], -1⟩ := by
    obtain ⟨a, b, e0, h1, _⟩ := h
    injection e0 with e0
    injection e0 with e0
    injection e0 with e0 _
    subst e0
    exact ⟨_, _, rfl, h1, ⟨none, 0, rfl, by simp, by omega, fun h0 => by simp at h0, fun b off e => by cases e⟩⟩
  have hrd : ∀ W, Below w.heap.size w W → Calls Try.prog 14 #[.agg #[.slice A d.dry.length c, .slice A' d.wet.length c', .int .i64 d.left], .int .i64 at_] W fun e w' => ∃ v' E, e = .returned (.tuple #[v', .int .i64 E]) ∧ Bs W.heap.size w'.heap.size w' v' (rdD d at_).1 ∧ E = (rdD d at_).2 ∧ Below W.heap.size W w' :=
    fun W hB => read_any 0 _ d at_ W ((h.below hB (Nat.le_refl _)).mono (Nat.le_refl _) hB.size) fl fw
  have hrn : ∀ W, Below w.heap.size w W → Calls Try.prog 14 #[.agg #[.slice A d.dry.length c, .slice none 0 0, .int .i64 (-1)], .int .i64 at_] W fun e w' => ∃ v' E, e = .returned (.tuple #[v', .int .i64 E]) ∧ Bs W.heap.size w'.heap.size w' v' (rdD ⟨d.dry, [], -1⟩ at_).1 ∧ E = (rdD ⟨d.dry, [], -1⟩ at_).2 ∧ Below W.heap.size W w' :=
    fun W hB => read_any 0 _ ⟨d.dry, [], -1⟩ at_ W ((hdn.below hB (Nat.le_refl _)).mono (Nat.le_refl _) hB.size) fl (by simp)
  have hE : (crD d ms).2 = 0 := by simp [crD, hok]
  have hD : (crD d ms).1 = ⟨crAt d.dry d.wet ms (min d.wet.length ms.length), [], -1⟩ := by simp [crD, hok]
  have hlen := crAt_length d.dry d.wet ms (min d.wet.length ms.length) (okD_ok hok).2
  have flc : (crD d ms).1.dry.length ≤ 1000000 := by rw [hD]; simp only [hlen]; exact fl
  have fwc : (crD d ms).1.wet.length ≤ 1000 := by rw [hD]; simp
  have hokc : okD (crD d ms).1 = true := by rw [hD]; exact ok_bare hok _ hlen
  have hokn : okD ⟨d.dry, [], -1⟩ = true := ok_bare hok _ rfl
  have hhc : hasB (crD d ms).1.dry.length at_ = hasB d.dry.length at_ := by rw [hD]; simp only [hlen]
  have hl' : ¬ (300 : Int) < (ms.length : Int) := by omega
  have hEr : (rdD d at_).2 = 1 := by simp [rdD, hh]
  have hEc : (rdD (crD d ms).1 at_).2 = 1 := by simp [rdD, hhc, hh]
  have hEn : (rdD ⟨d.dry, [], -1⟩ at_).2 = 1 := by simp [rdD, hh]
  replace hfw := hide hfw; replace hcr := hide hcr; replace hrd := hide hrd; replace hrn := hide hrn; replace hE := hide hE; replace hD := hide hD; replace hlen := hide hlen; replace flc := hide flc; replace fwc := hide fwc; replace hEr := hide hEr; replace hEc := hide hEc; replace hEn := hide hEn
  clear h hm hf hok fl fw hdn hokc hokn hhc hh
  go_enter Try.func6, Try.ntmps6
  go_wp2_with (first
    | (go_at_call 9; refine (live_any _).mono ?_; rintro e w1 ⟨rfl, hb1⟩; have HB1 : Below w.heap.size w w1 := bl_call (by (repeat (first | with_reducible exact Below.refl _ _ | with_reducible assumption | with_reducible refine Below.drew ?_ | with_reducible refine bl_alloc ?_ _ | with_reducible refine bl_call ?_ (by assumption) | (focus (with_reducible refine Below.setCell ?_ ?_ _; rotate_left; focus (first | omega | (simp <;> omega)))) | fail))) hb1
       have kb := hide (Blk.below (g := w.heap.size) (t := 25) (cs := #[.slice A d.dry.length c, .slice A' d.wet.length c', .int .i64 d.left]) (Blk.new rfl) hb1 (by simp)); (obtain ⟨hc1, hf1⟩ := bcell hb1; have hz1 := hb1.size; (try have y0 : w.heap.size < w1.heap.size := (by (simp at hz1; omega))); (try have y1 : w.heap.size + 1 < w1.heap.size := (by (simp at hz1; omega))); (try have y2 : w.heap.size + 2 < w1.heap.size := (by (simp at hz1; omega))); (try have y3 : w.heap.size + 3 < w1.heap.size := (by (simp at hz1; omega))); clear hz1))
    | (go_at_call 10; refine (unhide hfw _ HB1).mono ?_; rintro e w2 ⟨rfl, hb2⟩; have HB2 : Below w.heap.size w w2 := bl_call HB1 hb2
       replace kb := hide ((unhide kb).below hb2 y0)
       have y2 : w.heap.size < w2.heap.size := (unhide kb).lt
       have t0 : w2.cell? ⟨w.heap.size, 0, none⟩ = some (.slice A d.dry.length c) := ((unhide kb).cell 0).trans rfl
       have t1 : w2.cell? ⟨w.heap.size, 1, none⟩ = some (.slice A' d.wet.length c') := ((unhide kb).cell 1).trans rfl
       have t2 : w2.cell? ⟨w.heap.size, 2, none⟩ = some (.int .i64 d.left) := ((unhide kb).cell 2).trans rfl)
    | (go_at_call 27; refine (unhide hcr _ HB2).mono ?_; rintro e w3 ⟨v3, E, rfl, hd3, hE3, hb3⟩; have HB3 : Below w.heap.size w w3 := bl_call HB2 hb3
       obtain ⟨Ax, cx, Ay, cy, rfl⟩ := hd3.form
       obtain rfl : E = 0 := hE3.trans (unhide hE)
       clear hE3
       replace kb := hide ((unhide kb).below hb3 y2)
       have y3 : w.heap.size < w3.heap.size := (unhide kb).lt
       have s0 : w3.cell? ⟨w.heap.size, 0, none⟩ = some (.slice A d.dry.length c) := ((unhide kb).cell 0).trans rfl
       have s1 : w3.cell? ⟨w.heap.size, 1, none⟩ = some (.slice A' d.wet.length c') := ((unhide kb).cell 1).trans rfl
       have s2 : w3.cell? ⟨w.heap.size, 2, none⟩ = some (.int .i64 d.left) := ((unhide kb).cell 2).trans rfl
       replace hd3 := hide hd3
       have tok1 : True := trivial)
    | (go_at_call 14; have _t := tok1; refine (unhide hrd _ (by (repeat (first | with_reducible exact Below.refl _ _ | with_reducible assumption | with_reducible refine Below.drew ?_ | with_reducible refine bl_alloc ?_ _ | with_reducible refine bl_call ?_ (by assumption) | (focus (with_reducible refine Below.setCell ?_ ?_ _; rotate_left; focus (first | omega | (simp <;> omega)))) | fail)))).mono ?_; rintro e w4 ⟨v4, E, rfl, hx4, hE4, hb4⟩; clear tok1 _t
       obtain rfl : E = 1 := hE4.trans (unhide hEr)
       clear hE4
       have HB4 : Below w.heap.size w w4 := bl_call (bl_alloc HB3 _) hb4
       have kc := hide (Blk.below (Blk.new (w := w3) (cs := #[.slice Ax (crD d ms).1.dry.length cx, .slice Ay (crD d ms).1.wet.length cy, .int .i64 (crD d ms).1.left]) (t := 25) rfl) hb4 (by simp))
       replace kb := hide (Blk.below ((unhide kb).alloc _) hb4 (by simp; omega))
       have y4 : w.heap.size < w4.heap.size := (unhide kb).lt
       have y4' : w3.heap.size < w4.heap.size := (unhide kc).lt
       have u0 : w4.cell? ⟨w3.heap.size, 0, none⟩ = some (.slice Ax (crD d ms).1.dry.length cx) := ((unhide kc).cell 0).trans rfl
       have u1 : w4.cell? ⟨w3.heap.size, 1, none⟩ = some (.slice Ay (crD d ms).1.wet.length cy) := ((unhide kc).cell 1).trans rfl
       have u2 : w4.cell? ⟨w3.heap.size, 2, none⟩ = some (.int .i64 (crD d ms).1.left) := ((unhide kc).cell 2).trans rfl
       have hrc := hide (read_any 0 _ (crD d ms).1 at_ w4 (((unhide hd3).below (bl_call (bl_alloc (Below.refl _ _) _) hb4) (Nat.le_refl _)).mono (Nat.zero_le _) (Nat.le_of_lt y4')) (unhide flc) (unhide fwc))
       replace hx4 := hide hx4
       have tok2 : True := trivial)
    | (go_at_call 14; have _t := tok2; refine (unhide hrc).mono ?_; rintro e w5 ⟨v5, E, rfl, hx5, hE5, hb5⟩; clear tok2 _t
       obtain rfl : E = 1 := hE5.trans (unhide hEc)
       clear hE5
       have HB5 : Below w.heap.size w w5 := bl_call HB4 hb5
       replace kb := hide ((unhide kb).below hb5 y4)
       have y5 : w.heap.size < w5.heap.size := (unhide kb).lt
       have x0 : w5.cell? ⟨w.heap.size, 0, none⟩ = some (.slice A d.dry.length c) := ((unhide kb).cell 0).trans rfl
       have x1 : w5.cell? ⟨w.heap.size, 1, none⟩ = some (.slice A' d.wet.length c') := ((unhide kb).cell 1).trans rfl
       have x2 : w5.cell? ⟨w.heap.size, 2, none⟩ = some (.int .i64 d.left) := ((unhide kb).cell 2).trans rfl
       replace hx5 := hide hx5
       have tok3 : True := trivial)
    | (go_at_call 14; have _t := tok3; refine (unhide hrn _ (by (repeat (first | with_reducible exact Below.refl _ _ | with_reducible assumption | with_reducible refine Below.drew ?_ | with_reducible refine bl_alloc ?_ _ | with_reducible refine bl_call ?_ (by assumption) | (focus (with_reducible refine Below.setCell ?_ ?_ _; rotate_left; focus (first | omega | (simp <;> omega)))) | fail)))).mono ?_; rintro e w6 ⟨v6, E, rfl, hx6, hE6, hb6⟩; clear tok3 _t
       obtain rfl : E = 1 := hE6.trans (unhide hEn)
       clear hE6
       have HB6 : Below w.heap.size w w6 := bl_call (by (repeat (first | with_reducible exact Below.refl _ _ | with_reducible assumption | with_reducible refine Below.drew ?_ | with_reducible refine bl_alloc ?_ _ | with_reducible refine bl_call ?_ (by assumption) | (focus (with_reducible refine Below.setCell ?_ ?_ _; rotate_left; focus (first | omega | (simp <;> omega)))) | fail))) hb6
       replace hx6 := hide hx6)
    | fail)
  go_ret
  exact ⟨rfl, HB6⟩

end Go.Proofs.Ytcgfcdbchcehmaa
