import Derived.Test.YtiobhglhfjbcbaaW36
import Derived.Laws.StructEq
namespace Go.Proofs.Ytiobhglhfjbcbaa
open Go.RowKit
attribute [-go_sem] run_eql_struct run_neq_struct
attribute [local go_sem] run_eql_tok guard25

theorem rTokens_at (lo : Nat) (v : Value) (l : List UInt8) (w : World) (h : Bs lo w.heap.size w v l) (hl : l.length ≤ 65536) (W : World) (hb : Below w.heap.size w W) :
    Calls Try.prog 14 #[v] W fun e w' => ∃ A c, e = .returned (.tuple #[.slice A (toksB l).length c, .int .i64 0]) ∧ Tks 0 w'.heap.size w' (.slice A (toksB l).length c) (toksB l) ∧ Below W.heap.size W w' :=
  (rTokens_any lo v l W (h.grow hb) hl).mono fun _ _ ⟨A, c, he, ho, hb'⟩ => ⟨A, c, he, (Tks.own ho).mono (Nat.zero_le _) (Nat.le_refl _), hb'⟩

set_option maxRecDepth 100000 in
set_option maxHeartbeats 16000000 in
theorem does_few (lo : Nat) (v : Value) (l : List UInt8) (at_ : Int) (w : World) (h : Bs lo w.heap.size w v l) (hl : l.length ≤ 200) :
    Calls Try.prog 3 #[v, .int .i64 at_] w fun e w' => e = .returned (.bool true) ∧ Below w.heap.size w w' := by
  obtain ⟨t, er, hr⟩ : ∃ t er, findR l at_ = (t, er) := ⟨_, _, rfl⟩
  have hF := fun W (hb : Below w.heap.size w W) => Find_any lo v l at_ t er W (h.grow hb) hr
  have hR := fun W (hb : Below w.heap.size w W) => rFind_any lo v l at_ t er W (h.grow hb) hr
  have hcv := fun W (hb : Below w.heap.size w W) => (h.below hb (Nat.le_refl _)).convert
  have hT := Tokens_at lo v l w h (by omega)
  have hU := rTokens_at lo v l w h (by omega)
  generalize toksB l = TB at *
  replace hT := hide hT; replace hU := hide hU
  obtain ⟨A, c, rfl, h1, h2, _⟩ := h.open
  obtain ⟨ta, tl, td⟩ := t
  simp only [] at hF hR
  have hq : eqT ta tl td ta tl td = true := decide_eq_true rfl
  have hss : ((strU l).toList == (strU l).toList) = true := beq_self_eq_true _
  generalize strU l = S at *
  clear h hr
  replace hF := hide hF; replace hR := hide hR; replace hcv := hide hcv
  go_enter Try.func3, Try.ntmps3
  go_wp2_with (first
    | (go_at_call 10; refine (live_any _).mono ?_; rintro e w1 ⟨rfl, hb1⟩; have cv1 := unhide hcv w1 hb1)
    | (go_at_call 11; refine (unhide hF _ (by (repeat (first | with_reducible exact Below.refl _ _ | with_reducible assumption | with_reducible refine Below.drew ?_ | with_reducible refine bl_alloc ?_ _ | with_reducible refine bl_call ?_ (by assumption) | (focus (with_reducible refine Below.setCell ?_ ?_ _; rotate_left; focus (first | omega | (simp <;> omega)))) | fail)))).mono ?_; rintro e w2 ⟨rfl, hb2⟩; clear cv1)
    | (go_at_call 12; refine (unhide hR _ (by (repeat (first | with_reducible exact Below.refl _ _ | with_reducible assumption | with_reducible refine Below.drew ?_ | with_reducible refine bl_alloc ?_ _ | with_reducible refine bl_call ?_ (by assumption) | (focus (with_reducible refine Below.setCell ?_ ?_ _; rotate_left; focus (first | omega | (simp <;> omega)))) | fail)))).mono ?_; rintro e w3 ⟨rfl, hb3⟩; have N3 : Blk w3 w2.heap.size 25 #[.int .u8 (n8 ta), .int .i64 tl, .int .i64 td] := Blk.below (Blk.new rfl) hb3 (by simp); have n30 := N3.cell 0; have n31 := N3.cell 1; have n32 := N3.cell 2; simp at n30 n31 n32; have y3 : w2.heap.size < w3.heap.size := N3.lt; have bw3 : Below w.heap.size w w3 := (by (repeat (first | with_reducible exact Below.refl _ _ | with_reducible assumption | with_reducible refine Below.drew ?_ | with_reducible refine bl_alloc ?_ _ | with_reducible refine bl_call ?_ (by assumption) | (focus (with_reducible refine Below.setCell ?_ ?_ _; rotate_left; focus (first | omega | (simp <;> omega)))) | fail))); replace N3 := hide N3)
    | (go_at_call 13; refine (unhide hT _ (by (repeat (first | with_reducible exact Below.refl _ _ | with_reducible assumption | with_reducible refine Below.drew ?_ | with_reducible refine bl_alloc ?_ _ | with_reducible refine bl_call ?_ (by assumption) | (focus (with_reducible refine Below.setCell ?_ ?_ _; rotate_left; focus (first | omega | (simp <;> omega)))) | fail)))).mono ?_; rintro e w4 ⟨A4, c4, rfl, ht4, hb4⟩; replace ht4 := hide ht4; have N4 : Blk w4 w2.heap.size 25 #[.int .u8 (n8 ta), .int .i64 tl, .int .i64 td] := Blk.below ((unhide N3).alloc _) hb4 (by simp; omega); have P4 : Blk w4 w3.heap.size 25 #[.int .u8 (n8 ta), .int .i64 tl, .int .i64 td] := Blk.below (Blk.new rfl) hb4 (by simp); have n40 := N4.cell 0; have n41 := N4.cell 1; have n42 := N4.cell 2; have p40 := P4.cell 0; have p41 := P4.cell 1; have p42 := P4.cell 2; simp at n40 n41 n42 p40 p41 p42; have y4 : w2.heap.size < w4.heap.size := N4.lt; have z4 : w3.heap.size < w4.heap.size := P4.lt; replace N4 := hide N4; replace P4 := hide P4)
    | (go_at_call 14; refine (unhide hU _ (by (repeat (first | with_reducible exact Below.refl _ _ | with_reducible assumption | with_reducible refine Below.drew ?_ | with_reducible refine bl_alloc ?_ _ | with_reducible refine bl_call ?_ (by assumption) | (focus (with_reducible refine Below.setCell ?_ ?_ _; rotate_left; focus (first | omega | (simp <;> omega)))) | fail)))).mono ?_; rintro e w5 ⟨A5, c5, rfl, ht5, hb5⟩; replace ht5 := hide ht5; have N5 : Blk w5 w2.heap.size 25 #[.int .u8 (n8 ta), .int .i64 tl, .int .i64 td] := Blk.below (unhide N4) hb5 (by omega); have P5 : Blk w5 w3.heap.size 25 #[.int .u8 (n8 ta), .int .i64 tl, .int .i64 td] := Blk.below (unhide P4) hb5 (by omega); have n50 := N5.cell 0; have n51 := N5.cell 1; have n52 := N5.cell 2; have p50 := P5.cell 0; have p51 := P5.cell 1; have p52 := P5.cell 2; simp at n50 n51 n52 p50 p51 p52; have y5 : w2.heap.size < w5.heap.size := N5.lt; have z5 : w3.heap.size < w5.heap.size := P5.lt; replace N5 := hide N5; replace P5 := hide P5)
    | (go_at_call 15; refine (same_any _ _ _ _ TB TB _ ((unhide ht4).grow hb5) (unhide ht5)).mono ?_; rintro e w6 ⟨rfl, hb6⟩; rw [decide_eq_true rfl]; have cv6 := unhide hcv w6 (by (repeat (first | with_reducible exact Below.refl _ _ | with_reducible assumption | with_reducible refine Below.drew ?_ | with_reducible refine bl_alloc ?_ _ | with_reducible refine bl_call ?_ (by assumption) | (focus (with_reducible refine Below.setCell ?_ ?_ _; rotate_left; focus (first | omega | (simp <;> omega)))) | fail))))
    | fail)
  all_goals go_ret
  all_goals exact ⟨rfl, by (repeat (first | with_reducible exact Below.refl _ _ | with_reducible assumption | with_reducible refine Below.drew ?_ | with_reducible refine bl_alloc ?_ _ | with_reducible refine bl_call ?_ (by assumption) | (focus (with_reducible refine Below.setCell ?_ ?_ _; rotate_left; focus (first | omega | (simp <;> omega)))) | fail))⟩


set_option maxRecDepth 100000 in
set_option maxHeartbeats 16000000 in
theorem does_many (lo : Nat) (v : Value) (l : List UInt8) (at_ : Int) (w : World) (h : Bs lo w.heap.size w v l) (hl : 65536 < l.length) (hl2 : l.length ≤ 70000) :
    Calls Try.prog 3 #[v, .int .i64 at_] w fun e w' => e = .returned (.bool true) ∧ Below w.heap.size w w' := by
  obtain ⟨t, er, hr⟩ : ∃ t er, findR l at_ = (t, er) := ⟨_, _, rfl⟩
  have hF := fun W (hb : Below w.heap.size w W) => Find_any lo v l at_ t er W (h.grow hb) hr
  have hR := fun W (hb : Below w.heap.size w W) => rFind_any lo v l at_ t er W (h.grow hb) hr
  have hcv := fun W (hb : Below w.heap.size w W) => (h.below hb (Nat.le_refl _)).convert
  have hT : ∀ W, Below w.heap.size w W → Calls Try.prog 13 #[v] W fun e w' => e = .returned (.tuple #[.slice none 0 0, .int .i64 3]) ∧ Below W.heap.size W w' := fun W hb => (Tokens_long v l lo W (h.grow hb) hl).mono fun _ _ ⟨he, hw⟩ => ⟨he, hw ▸ Below.refl _ _⟩
  have hU : ∀ W, Below w.heap.size w W → Calls Try.prog 14 #[v] W fun e w' => e = .returned (.tuple #[.slice none 0 0, .int .i64 3]) ∧ Below W.heap.size W w' := fun W hb => (rTokens_long v l lo W (h.grow hb) hl).mono fun _ _ ⟨he, hw⟩ => ⟨he, hw ▸ Below.refl _ _⟩
  have gd1 : 200 < (l.length : Int) := by omega
  have gd2 : ¬ (l.length : Int) ≤ 65536 := by omega
  have gd3 : ¬ 70000 < (l.length : Int) := by omega
  replace hT := hide hT; replace hU := hide hU
  obtain ⟨A, c, rfl, h1, h2, _⟩ := h.open
  obtain ⟨ta, tl, td⟩ := t
  simp only [] at hF hR
  have hq : eqT ta tl td ta tl td = true := decide_eq_true rfl
  have hss : ((strU l).toList == (strU l).toList) = true := beq_self_eq_true _
  generalize strU l = S at *
  clear h hr
  replace hF := hide hF; replace hR := hide hR; replace hcv := hide hcv
  go_enter Try.func3, Try.ntmps3
  go_wp2_with (first
    | (go_at_call 10; refine (live_any _).mono ?_; rintro e w1 ⟨rfl, hb1⟩; have cv1 := unhide hcv w1 hb1)
    | (go_at_call 11; refine (unhide hF _ (by (repeat (first | with_reducible exact Below.refl _ _ | with_reducible assumption | with_reducible refine Below.drew ?_ | with_reducible refine bl_alloc ?_ _ | with_reducible refine bl_call ?_ (by assumption) | (focus (with_reducible refine Below.setCell ?_ ?_ _; rotate_left; focus (first | omega | (simp <;> omega)))) | fail)))).mono ?_; rintro e w2 ⟨rfl, hb2⟩; clear cv1)
    | (go_at_call 12; refine (unhide hR _ (by (repeat (first | with_reducible exact Below.refl _ _ | with_reducible assumption | with_reducible refine Below.drew ?_ | with_reducible refine bl_alloc ?_ _ | with_reducible refine bl_call ?_ (by assumption) | (focus (with_reducible refine Below.setCell ?_ ?_ _; rotate_left; focus (first | omega | (simp <;> omega)))) | fail)))).mono ?_; rintro e w3 ⟨rfl, hb3⟩; have N3 : Blk w3 w2.heap.size 25 #[.int .u8 (n8 ta), .int .i64 tl, .int .i64 td] := Blk.below (Blk.new rfl) hb3 (by simp); have n30 := N3.cell 0; have n31 := N3.cell 1; have n32 := N3.cell 2; simp at n30 n31 n32; have y3 : w2.heap.size < w3.heap.size := N3.lt; have bw3 : Below w.heap.size w w3 := (by (repeat (first | with_reducible exact Below.refl _ _ | with_reducible assumption | with_reducible refine Below.drew ?_ | with_reducible refine bl_alloc ?_ _ | with_reducible refine bl_call ?_ (by assumption) | (focus (with_reducible refine Below.setCell ?_ ?_ _; rotate_left; focus (first | omega | (simp <;> omega)))) | fail))); replace N3 := hide N3)
    | (go_at_call 13; refine (unhide hT _ (by (repeat (first | with_reducible exact Below.refl _ _ | with_reducible assumption | with_reducible refine Below.drew ?_ | with_reducible refine bl_alloc ?_ _ | with_reducible refine bl_call ?_ (by assumption) | (focus (with_reducible refine Below.setCell ?_ ?_ _; rotate_left; focus (first | omega | (simp <;> omega)))) | fail)))).mono ?_; rintro e w4 ⟨rfl, hb4⟩; have N4 : Blk w4 w2.heap.size 25 #[.int .u8 (n8 ta), .int .i64 tl, .int .i64 td] := Blk.below ((unhide N3).alloc _) hb4 (by simp; omega); have P4 : Blk w4 w3.heap.size 25 #[.int .u8 (n8 ta), .int .i64 tl, .int .i64 td] := Blk.below (Blk.new rfl) hb4 (by simp); have n40 := N4.cell 0; have n41 := N4.cell 1; have n42 := N4.cell 2; have p40 := P4.cell 0; have p41 := P4.cell 1; have p42 := P4.cell 2; simp at n40 n41 n42 p40 p41 p42; have y4 : w2.heap.size < w4.heap.size := N4.lt; have z4 : w3.heap.size < w4.heap.size := P4.lt; replace N4 := hide N4; replace P4 := hide P4)
    | (go_at_call 14; refine (unhide hU _ (by (repeat (first | with_reducible exact Below.refl _ _ | with_reducible assumption | with_reducible refine Below.drew ?_ | with_reducible refine bl_alloc ?_ _ | with_reducible refine bl_call ?_ (by assumption) | (focus (with_reducible refine Below.setCell ?_ ?_ _; rotate_left; focus (first | omega | (simp <;> omega)))) | fail)))).mono ?_; rintro e w5 ⟨rfl, hb5⟩; have N5 : Blk w5 w2.heap.size 25 #[.int .u8 (n8 ta), .int .i64 tl, .int .i64 td] := Blk.below (unhide N4) hb5 (by omega); have P5 : Blk w5 w3.heap.size 25 #[.int .u8 (n8 ta), .int .i64 tl, .int .i64 td] := Blk.below (unhide P4) hb5 (by omega); have n50 := N5.cell 0; have n51 := N5.cell 1; have n52 := N5.cell 2; have p50 := P5.cell 0; have p51 := P5.cell 1; have p52 := P5.cell 2; simp at n50 n51 n52 p50 p51 p52; have y5 : w2.heap.size < w5.heap.size := N5.lt; have z5 : w3.heap.size < w5.heap.size := P5.lt; replace N5 := hide N5; replace P5 := hide P5)
    | (go_at_call 15; refine (same_any 0 0 _ _ [] [] _ (Tks.nil _ _ _) (Tks.nil _ _ _)).mono ?_; rintro e w6 ⟨rfl, hb6⟩; rw [decide_eq_true rfl]; have cv6 := unhide hcv w6 (by (repeat (first | with_reducible exact Below.refl _ _ | with_reducible assumption | with_reducible refine Below.drew ?_ | with_reducible refine bl_alloc ?_ _ | with_reducible refine bl_call ?_ (by assumption) | (focus (with_reducible refine Below.setCell ?_ ?_ _; rotate_left; focus (first | omega | (simp <;> omega)))) | fail))))
    | fail)
  all_goals go_ret
  all_goals exact ⟨rfl, by (repeat (first | with_reducible exact Below.refl _ _ | with_reducible assumption | with_reducible refine Below.drew ?_ | with_reducible refine bl_alloc ?_ _ | with_reducible refine bl_call ?_ (by assumption) | (focus (with_reducible refine Below.setCell ?_ ?_ _; rotate_left; focus (first | omega | (simp <;> omega)))) | fail))⟩


set_option maxRecDepth 100000 in
set_option maxHeartbeats 8000000 in
theorem does_gate (lo : Nat) (v : Value) (l : List UInt8) (at_ : Int) (w : World) (h : Bs lo w.heap.size w v l) (hg : (200 < l.length ∧ l.length ≤ 65536) ∨ 70000 < l.length) :
    Calls Try.prog 3 #[v, .int .i64 at_] w fun e w' => e = .returned (.bool true) ∧ Below w.heap.size w w' := by
  obtain ⟨A, c, rfl, h1, h2, _⟩ := h.open
  clear h
  by_cases h70 : 70000 < l.length
  · have g1 : 200 < (l.length : Int) := by omega
    have g2 : ¬ (l.length : Int) ≤ 65536 := by omega
    have g3 : 70000 < (l.length : Int) := by omega
    clear hg
    go_enter Try.func3, Try.ntmps3
    go_wp2_with (go_at_call 10; refine (live_any _).mono ?_; rintro e w1 ⟨rfl, hb1⟩)
    all_goals go_ret
    all_goals exact ⟨rfl, hb1⟩
  · have g1 : 200 < (l.length : Int) := by omega
    have g2 : (l.length : Int) ≤ 65536 := by omega
    have g3 : ¬ 70000 < (l.length : Int) := by omega
    clear hg
    go_enter Try.func3, Try.ntmps3
    go_wp2_with (go_at_call 10; refine (live_any _).mono ?_; rintro e w1 ⟨rfl, hb1⟩)
    all_goals go_ret
    all_goals exact ⟨rfl, hb1⟩

theorem does_any (lo : Nat) (v : Value) (l : List UInt8) (at_ : Int) (w : World) (h : Bs lo w.heap.size w v l) :
    Calls Try.prog 3 #[v, .int .i64 at_] w fun e w' => e = .returned (.bool true) ∧ Below w.heap.size w w' := by
  by_cases h1 : l.length ≤ 200
  · exact does_few lo v l at_ w h h1
  · by_cases h2 : 65536 < l.length ∧ l.length ≤ 70000
    · exact does_many lo v l at_ w h h2.1 h2.2
    · exact does_gate lo v l at_ w h (by omega)
end Go.Proofs.Ytiobhglhfjbcbaa
