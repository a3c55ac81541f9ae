import Derived.Test.YtdnahdogohdmjaaW11
import Derived.Lib.SliceRun
namespace Go.Proofs.Ytdnahdogohdmjaa
open Go.RowKit
set_option maxRecDepth 100000

theorem info_parts {t size bytes : Nat} {z : Value} (h : (Try.prog.info? t).map (fun i => (i.zero, i.size, i.bytes)) = some (some z, size, bytes)) : ∃ i, Try.prog.info? t = some i ∧ i.zero = some z ∧ i.size = size ∧ i.bytes = bytes := by
  cases hi : Try.prog.info? t with
  | none => rw [hi] at h; cases h
  | some i =>
    rw [hi] at h
    simp at h
    exact ⟨i, rfl, h.1, h.2.1, h.2.2⟩
theorem flat_fl (l : List Nat) : l.flatMap fl = l.map (Value.float .f64) := by
  induction l with
  | nil => rfl
  | cons x r ih => rw [List.flatMap_cons, ih]; rfl

set_option maxHeartbeats 400000 in
theorem clone_any (lo : Nat) (v : Value) (l : List Nat) (w : World) (h : Fs lo w.heap.size w v l) (hL : l.length ≤ 1000000) :
    Calls Try.prog 35 #[v] w fun e w' => ∃ v', e = .returned v' ∧ w'.ownsRow w.heap.size 22 1 v' l.length (l.map (Value.float .f64)) ∧ Below w.heap.size w w' := by
  obtain ⟨i0, hi0, hz0, hz1, hz2⟩ := info_parts info22
  have h' := h
  obtain ⟨A, c, rfl, h1, h2, h3⟩ := h'
  have hs := h.src fl_len
  clear h h3
  have q22 : ∀ (w : World) (a : Option Addr) (n c : Nat), (binOp .eql 33 (.slice a n c) (.slice none 0 0)).run Try.prog w = .ok (.bool a.isNone) w := fun w a n c => Lib.run_eql_slice_nil w _ _ a n c 0 0 Try.underlying33
  rw [flat_fl] at hs
  obtain ⟨xs, hxs⟩ : ∃ xs, xs = l.map (Value.float .f64) := ⟨_, rfl⟩
  have hxl : xs.length = l.length := by rw [hxs]; simp
  have hx1 : ∀ u ∈ xs, u.oneCell' = true := by rw [hxs, ← flat_fl]; exact flat_one fl_one l
  rw [← hxs] at hs ⊢
  clear hxs
  generalize l.length = n at *
  have HS := hs.2
  have HX := Lib.hid hxl; have HX1 := Lib.hid hx1; clear hs hxl hx1
  have hb1 : 0 + n ≤ maxLen := by simp only [maxLen]; omega
  have hb2 : (0 + n) * 8 ≤ 140737488355328 := by omega
  rcases A with _ | ad
  · have hn0 : n = 0 := by
      rcases Nat.eq_zero_or_pos n with h0 | h0
      · exact h0
      · obtain ⟨ad, e, _⟩ := HS h0; cases e
    subst hn0
    obtain rfl : xs = [] := List.eq_nil_of_length_eq_zero HX.out
    go_enter Try.func35, Try.ntmps35
    go_wp2
    go_ret
    exact ⟨_, rfl, World.ownsRow_nil _ _ _ _, Below.refl _ _⟩
  · have hz : w.heap.size ≤ (w.alloc (.cells #[] 22)).heap.size := by simp
    have HZ := Lib.hid hz; clear hz
    go_enter Try.func35, Try.ntmps35
    go_wp2_with (first
      | (at_builtin
         refine wpList_app _ rfl (.tmp 5) (.tmp 6) 33 rfl w.heap.size 22 i0 _ 1 8 Try.underlying33 hi0 hz0 hz1 hz2 rfl (Nat.succ_pos _) _ 0 [] rfl (World.ownsRow_lit w #[] 0 (Nat.le_refl _) (Nat.zero_le _) rfl) (some ad) n c xs rfl (HX.out.trans (Nat.mul_one _).symm) (HS.below ((Below.refl _ _).alloc (Nat.le_refl _) _)) HX1.out hb1 hb2 HZ.out ?_
         intro v' w1 hown hg))
    go_ret
    refine ⟨_, rfl, by simpa using hown, ?_⟩
    refine bl_grown ((Below.refl _ _).alloc (Nat.le_refl _) _) hg ?_
    intro k hk
    simp [Act.eval, Value.ownBlock] at hk
    omega

/-- A row of the call's own: nothing, or a block that is known whole. -/
theorem own_row {w : World} {base : Nat} {v : Value} {l : List Nat} (h : w.ownsRow base 22 1 v l.length (l.map (Value.float .f64))) :
    (v = .slice none 0 0 ∧ l = []) ∨ ∃ g c sp, v = .slice (some ⟨g, 0, none⟩) l.length c ∧ base ≤ g ∧ l.length ≤ c ∧ c ≤ maxLen ∧ Row g sp w w l ∧ sp.length = c - l.length := by
  rcases h.2 with ⟨h1, h2⟩ | ⟨g, cap, cur, h1, h2, h3, h4, h5, h6, h7⟩
  · exact .inl ⟨h1, List.eq_nil_of_length_eq_zero h2⟩
  · refine .inr ⟨g, cap, cur.toList.drop l.length, h1, h2, h4, h5, ⟨?_, Only.refl g w⟩, ?_⟩
    · have : rwA l (cur.toList.drop l.length) = cur := by
        unfold rwA
        rw [Nat.mul_one] at h7
        rw [← h7, List.take_append_drop, Array.toArray_toList]
      rw [this]; exact h3
    · rw [List.length_drop, Array.length_toList, h6, Nat.mul_one]
theorem Row.own {g : Nat} {sp : List Value} {w0 w : World} {l : List Nat} (h : Row g sp w0 w l) {base c : Nat} (hb : base ≤ g) (hc : l.length ≤ c) (hm : c ≤ maxLen) (hs : sp.length = c - l.length) : w.ownsRow base 22 1 (.slice (some ⟨g, 0, none⟩) l.length c) l.length (l.map (Value.float .f64)) := by
  refine ⟨by simp, .inr ⟨g, c, _, rfl, hb, h.blk, hc, hm, ?_, ?_⟩⟩
  · unfold rwA; simp; omega
  · unfold rwA; simp
end Go.Proofs.Ytdnahdogohdmjaa
