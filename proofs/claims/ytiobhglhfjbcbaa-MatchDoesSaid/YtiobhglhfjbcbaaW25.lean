import Derived.Test.YtiobhglhfjbcbaaW24
namespace Go.Proofs.Ytiobhglhfjbcbaa
open Go.RowKit

/-- Tokens as the source of an append. -/
theorem Tks.src {lo hi : Nat} {w : World} {A : Option Addr} {n c : Nat} {l : List Tok} (h : Tks lo hi w (.slice A n c) l) : n = l.length ∧ SrcOk w A n (l.flatMap tkv) := by
  obtain ⟨A', c', e, _, _, h3⟩ := h.open
  injection e with e1 e2 e3
  subst e1 e2 e3
  refine ⟨rfl, fun h0 => ?_⟩
  obtain ⟨b, off, rfl, _, _, _⟩ := h3 0 h0
  refine ⟨_, rfl, fun j u hu => ?_⟩
  have hj : j < l.length * 3 := by
    have := (List.getElem?_eq_some_iff.1 hu).1
    rwa [flat_len] at this
  obtain ⟨b', off', e, _, _, c0, c1, c2⟩ := h3 (j / 3) (by omega)
  injection e with e
  injection e with e1 e2
  subst e1 e2
  obtain ⟨d0, d1, d2⟩ := flat_get l (j / 3) (by omega)
  have key : w.cell? ⟨b, off + j, none⟩ = some u := by
    have h3 : j % 3 = 0 ∨ j % 3 = 1 ∨ j % 3 = 2 := by omega
    rcases h3 with h2 | h2 | h2
    · have e : j = j / 3 * 3 := by omega
      rw [← e] at c0 d0
      rw [d0] at hu
      rw [c0, ← hu]
    · have e : j = j / 3 * 3 + 1 := by omega
      rw [Nat.add_assoc, ← e] at c1
      rw [← e] at d1
      rw [d1] at hu
      rw [c1, ← hu]
    · have e : j = j / 3 * 3 + 2 := by omega
      rw [Nat.add_assoc, ← e] at c2
      rw [← e] at d2
      rw [d2] at hu
      rw [c2, ← hu]
  unfold Addr.add
  split
  · rename_i h0; subst h0; exact key
  · exact key

set_option maxRecDepth 100000 in
set_option maxHeartbeats 8000000 in
theorem tells_any (lo : Nat) (v : Value) (l : List Tok) (most : Int) (w : World) (h : Tks lo w.heap.size w v l) :
    Calls Try.prog 4 #[v, .int .i64 most] w fun e w' => e = .returned (.bool true) ∧ Below w.heap.size w w' := by
  obtain ⟨i0, hi0, iz0, iz1, iz2⟩ := info_parts info25
  have h' := h
  obtain ⟨A, c, rfl, h1, h2, _⟩ := h'.open
  clear h'
  by_cases hg : (l.length ≤ 200 ∨ 65536 < l.length) ∧ l.length ≤ 70000
  · have d1 : (decide (200 < (l.length : Int)) && decide ((l.length : Int) ≤ 65536)) = false := by simp; omega
    have d2 : decide (70000 < (l.length : Int)) = false := by simp; omega
    obtain ⟨bs, er, hr⟩ : ∃ bs er, textR l most = (bs, er) := ⟨_, _, rfl⟩
    have hX := fun W (hb : Below w.heap.size w W) => Text_at _ l most bs er hr lo W (h.grow hb)
    have hY := fun W (hb : Below w.heap.size w W) => rText_at _ l most bs er hr lo W (h.grow hb)
    have hL := fun W (hb : Below w.heap.size w W) => Long_any lo _ l W (h.grow hb)
    have hM := fun W (hb : Below w.heap.size w W) => rLong_any lo _ l W (h.grow hb)
    have hC := fun W (hb : Below w.heap.size w W) => Check_any lo _ l W (h.grow hb)
    have hD := fun W (hb : Below w.heap.size w W) => rCheck_any lo _ l W (h.grow hb)
    have hsrc := fun W (hb : Below w.heap.size w W) => SrcOk.below (Tks.src h).2 hb
    have hfl := flat_len l
    have hfo := flat_one l
    have b1 : 0 + l.length ≤ maxLen := by simp only [maxLen]; omega
    have b2 : (0 + l.length) * 24 ≤ 140737488355328 := by omega
    generalize longN l = N at *
    generalize badE (okB l) = E at *
    replace hX := hide hX; replace hY := hide hY; replace hL := hide hL; replace hM := hide hM; replace hC := hide hC; replace hD := hide hD; replace hsrc := hide hsrc; replace hfl := hide hfl; replace hfo := hide hfo; replace b1 := hide b1; replace b2 := hide b2; replace h := hide h
    clear hg hr
    go_enter Try.func4, Try.ntmps4
    go_wp2_with (first
      | (go_at_call 10; refine (live_any _).mono ?_; rintro e w1 ⟨rfl, hb1⟩)
      | (at_builtin
         refine wpList_app _ rfl (.const (.slice none 0 0)) (.tmp 30) 29 rfl w.heap.size 25 i0 _ 3 24 Try.underlying29 hi0 iz0 iz1 iz2 rfl (Nat.succ_pos _) _ 0 [] rfl (World.ownsRow_nil _ _ _ _) A l.length c (l.flatMap tkv) rfl (unhide hfl) (unhide hsrc _ (by (repeat (first | with_reducible exact Below.refl _ _ | with_reducible assumption | with_reducible refine Below.drew ?_ | with_reducible refine bl_alloc ?_ _ | with_reducible refine bl_call ?_ (by assumption) | (focus (with_reducible refine Below.setCell ?_ ?_ _; rotate_left; focus (first | omega | (simp <;> omega)))) | fail)))) (unhide hfo) (unhide b1) (unhide b2) hb1.size ?_
         intro v2 w2 hown2 hg2
         have hb2 : Below w.heap.size w w2 := bl_grown hb1 hg2 (by intro k hk; simp [Act.eval, Value.ownBlock] at hk)
         rw [Nat.zero_add, List.nil_append] at hown2
         obtain ⟨A2, c2, rfl⟩ := ownsRow_form hown2
         have ht2 := Tks.own hown2
         replace ht2 := hide ht2
         clear hown2)
      | (go_at_call 16; refine (unhide hX _ (by (repeat (first | with_reducible exact Below.refl _ _ | with_reducible assumption | with_reducible refine Below.drew ?_ | with_reducible refine bl_alloc ?_ _ | with_reducible refine bl_call ?_ (by assumption) | (focus (with_reducible refine Below.setCell ?_ ?_ _; rotate_left; focus (first | omega | (simp <;> omega)))) | fail)))).mono ?_; rintro e w3 ⟨A3, c3, rfl, hx3, hb3⟩; replace hx3 := hide hx3)
      | (go_at_call 17; refine (unhide hY _ (by (repeat (first | with_reducible exact Below.refl _ _ | with_reducible assumption | with_reducible refine Below.drew ?_ | with_reducible refine bl_alloc ?_ _ | with_reducible refine bl_call ?_ (by assumption) | (focus (with_reducible refine Below.setCell ?_ ?_ _; rotate_left; focus (first | omega | (simp <;> omega)))) | fail)))).mono ?_; rintro e w4 ⟨A4, c4, rfl, hx4, hb4⟩; replace hx4 := hide hx4)
      | (go_at_call 18; refine (unhide hL _ (by (repeat (first | with_reducible exact Below.refl _ _ | with_reducible assumption | with_reducible refine Below.drew ?_ | with_reducible refine bl_alloc ?_ _ | with_reducible refine bl_call ?_ (by assumption) | (focus (with_reducible refine Below.setCell ?_ ?_ _; rotate_left; focus (first | omega | (simp <;> omega)))) | fail)))).mono ?_; rintro e w5 ⟨rfl, hb5⟩)
      | (go_at_call 19; refine (unhide hM _ (by (repeat (first | with_reducible exact Below.refl _ _ | with_reducible assumption | with_reducible refine Below.drew ?_ | with_reducible refine bl_alloc ?_ _ | with_reducible refine bl_call ?_ (by assumption) | (focus (with_reducible refine Below.setCell ?_ ?_ _; rotate_left; focus (first | omega | (simp <;> omega)))) | fail)))).mono ?_; rintro e w6 ⟨rfl, hb6⟩)
      | (go_at_call 20; refine (sameb_any _ _ _ _ _ _ bs bs _ ((((unhide hx3).grow hb4).grow hb5).grow hb6) (((unhide hx4).grow hb5).grow hb6)).mono ?_; rintro e w7 ⟨rfl, rfl⟩; rw [decide_eq_true rfl])
      | (go_at_call 21; refine (unhide hC _ (by (repeat (first | with_reducible exact Below.refl _ _ | with_reducible assumption | with_reducible refine Below.drew ?_ | with_reducible refine bl_alloc ?_ _ | with_reducible refine bl_call ?_ (by assumption) | (focus (with_reducible refine Below.setCell ?_ ?_ _; rotate_left; focus (first | omega | (simp <;> omega)))) | fail)))).mono ?_; rintro e w8 ⟨rfl, hb8⟩)
      | (go_at_call 22; refine (unhide hD _ (by (repeat (first | with_reducible exact Below.refl _ _ | with_reducible assumption | with_reducible refine Below.drew ?_ | with_reducible refine bl_alloc ?_ _ | with_reducible refine bl_call ?_ (by assumption) | (focus (with_reducible refine Below.setCell ?_ ?_ _; rotate_left; focus (first | omega | (simp <;> omega)))) | fail)))).mono ?_; rintro e w9 ⟨rfl, hb9⟩)
      | (go_at_call 15; refine (same_any _ _ _ _ l l _ ((unhide h).grow (by (repeat (first | with_reducible exact Below.refl _ _ | with_reducible assumption | with_reducible refine Below.drew ?_ | with_reducible refine bl_alloc ?_ _ | with_reducible refine bl_call ?_ (by assumption) | (focus (with_reducible refine Below.setCell ?_ ?_ _; rotate_left; focus (first | omega | (simp <;> omega)))) | fail)))) (Tks.grow (unhide ht2) (by (repeat (first | with_reducible exact Below.refl _ _ | with_reducible assumption | with_reducible refine Below.drew ?_ | with_reducible refine bl_alloc ?_ _ | with_reducible refine bl_call ?_ (by assumption) | (focus (with_reducible refine Below.setCell ?_ ?_ _; rotate_left; focus (first | omega | (simp <;> omega)))) | fail))))).mono ?_; rintro e w10 ⟨rfl, hb10⟩; rw [decide_eq_true rfl])
      | fail)
    all_goals go_ret
    all_goals exact ⟨rfl, by (repeat (first | with_reducible exact Below.refl _ _ | with_reducible assumption | with_reducible refine Below.drew ?_ | with_reducible refine bl_alloc ?_ _ | with_reducible refine bl_call ?_ (by assumption) | (focus (with_reducible refine Below.setCell ?_ ?_ _; rotate_left; focus (first | omega | (simp <;> omega)))) | fail))⟩
  · by_cases h70 : 70000 < l.length
    · have g1 : 200 < (l.length : Int) := by omega
      have g2 : ¬ (l.length : Int) ≤ 65536 := by omega
      have g3 : 70000 < (l.length : Int) := by omega
      clear hg h
      go_enter Try.func4, Try.ntmps4
      go_wp2_with (go_at_call 10; refine (live_any _).mono ?_; rintro e w1 ⟨rfl, hb1⟩)
      all_goals go_ret
      all_goals exact ⟨rfl, hb1⟩
    · have g1 : 200 < (l.length : Int) := by omega
      have g2 : (l.length : Int) ≤ 65536 := by omega
      have g3 : ¬ 70000 < (l.length : Int) := by omega
      clear hg h
      go_enter Try.func4, Try.ntmps4
      go_wp2_with (go_at_call 10; refine (live_any _).mono ?_; rintro e w1 ⟨rfl, hb1⟩)
      all_goals go_ret
      all_goals exact ⟨rfl, hb1⟩
end Go.Proofs.Ytiobhglhfjbcbaa
