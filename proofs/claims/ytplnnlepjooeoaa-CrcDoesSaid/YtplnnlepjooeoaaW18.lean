import Derived.Test.YtplnnlepjooeoaaW17
namespace Go.Proofs.Ytplnnlepjooeoaa
open Go.RowKit

set_option maxHeartbeats 1000000 in
theorem rseal_any (lo : Nat) (v : Value) (l : List UInt8) (w : World) (h : Bs lo w.heap.size w v l) (hL : l.length ≤ 900000) :
    Calls Try.prog 16 #[v] w fun e w' => ∃ A c, e = .returned (.slice A (l.length + 4) c) ∧ w'.ownsRow w.heap.size 5 1 (.slice A (l.length + 4) c) (l.length + 4) ((sealL l).map u8v) ∧ Below w.heap.size w w' := by
  obtain ⟨i0, hi0, hz0, hz1, hz2⟩ := info_parts info5
  have hsum := fun W (hb : Below w.heap.size w W) => rsum_any lo w.heap.size v l W (h.below hb (Nat.le_refl _))
  obtain ⟨A, c, rfl, h1, h2, hx0⟩ := id h
  have hsrc := h.src.2
  have hl1 : (l.map u8v).length = l.length * 1 := by simp
  have hl2 : ((octs (sumR l)).map u8v).length = 4 * 1 := by simp [octs]
  have ho1 := u8s_one l
  have ho2 := u8s_one (octs (sumR l))
  have b1 : 0 + l.length ≤ maxLen := by simp only [maxLen]; omega
  have b2 : (0 + l.length) * 1 ≤ 140737488355328 := by omega
  have b3 : l.length + 4 ≤ maxLen := by simp only [maxLen]; omega
  have b4 : (l.length + 4) * 1 ≤ 140737488355328 := by omega
  have hs : sealL l = l ++ octs (sumR l) := rfl
  replace hsum := hide hsum; replace hl1 := hide hl1; replace hl2 := hide hl2; replace ho1 := hide ho1; replace ho2 := hide ho2; replace b1 := hide b1; replace b2 := hide b2; replace b3 := hide b3; replace b4 := hide b4
  replace hs := hide hs; replace hsrc := hide hsrc
  clear h hx0
  generalize l.length = n at *
  generalize hxs : l.map u8v = xs at *
  replace hxs := hide hxs
  have tok1 : True := trivial
  have tok2 : True := trivial
  go_enter Try.func16, Try.ntmps16
  go_wp2_with (first
    | (at_builtin
       have _t := tok1
       refine wpList_app _ rfl (.const (.slice none 0 0)) (.tmp 3) 23 rfl w.heap.size 5 i0 _ 1 1 Try.underlying23 hi0 hz0 hz1 hz2 rfl (Nat.succ_pos _) _ 0 [] rfl (World.ownsRow_nil _ _ _ _) A n c xs rfl (unhide hl1) (unhide hsrc) (unhide ho1) (unhide b1) (unhide b2) (Nat.le_refl _) ?_
       intro v1 w1 hown1 hg1
       have hb1 : Below w.heap.size w w1 := (Below.refl _ _).grown hg1 (Nat.le_refl _) (by intro k hk; simp [Act.eval, Value.ownBlock] at hk)
       rw [Nat.zero_add, List.nil_append] at hown1
       obtain ⟨A1, c1, rfl⟩ := ownsRow_form hown1
       replace hown1 := hide hown1
       clear tok1 _t)
    | (go_at_call 14; refine (unhide hsum _ (by assumption)).mono ?_; rintro e w2 ⟨rfl, rfl⟩)
    | (go_at_call 22; refine (four_any _ _).mono ?_; rintro e w3 ⟨g, rfl, hbs, hb3⟩; have hbw3 := bl_call hb1 hb3; have hown3 := own_below (unhide hown1) hb3 (Nat.le_refl _); have hsrc2 := hbs.src.2; have hsz3 := hbw3.size; replace hown3 := hide hown3; replace hsrc2 := hide hsrc2; replace hbs := hide hbs; replace hsz3 := hide hsz3)
    | (at_builtin
       have _t := tok2
       refine wpList_app _ rfl (.tmp 4) (.tmp 7) 23 rfl w.heap.size 5 i0 _ 1 1 Try.underlying23 hi0 hz0 hz1 hz2 rfl (Nat.succ_pos _) _ n xs rfl (unhide hown3) (some ⟨g, 0, none⟩) 4 4 _ rfl (unhide hl2) (unhide hsrc2) (unhide ho2) (unhide b3) (unhide b4) (unhide hsz3) ?_
       intro v4 w4 hown4 hg4
       have hb4 := bl_grown hbw3 hg4 (own_base (unhide hown3))
       rw [← unhide hxs, ← List.map_append, ← unhide hs] at hown4
       obtain ⟨A4, c4, rfl⟩ := ownsRow_form hown4
       replace hown4 := hide hown4
       clear tok2 _t)
    | fail)
  go_ret
  exact ⟨A4, c4, rfl, unhide hown4, hb4⟩
end Go.Proofs.Ytplnnlepjooeoaa
