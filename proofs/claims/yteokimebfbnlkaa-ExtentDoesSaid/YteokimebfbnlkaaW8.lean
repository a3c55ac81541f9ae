import Derived.Test.YteokimebfbnlkaaW7
import Derived.Lib.AppendZeros
namespace Go.Proofs.Yteokimebfbnlkaa
open Go.RowKit

/-- What New answers. -/
def newX (n : Int) : Xs := if 0 < n then ⟨n, [⟨0, n⟩]⟩ else ⟨n, []⟩
def sizeB (n : Int) : Bool := decide (0 ≤ n) && decide (n ≤ 8192)

set_option maxHeartbeats 1000000 in
theorem new_any (n : Int) (w : World) :
    Calls Try.prog 17 #[.int .i64 n] w fun e w' => ∃ A c y er, e = .returned (.tuple #[.agg #[.int .i64 y.size, .slice A y.free.length c], .int .i64 er]) ∧ ((sizeB n = false ∧ y = noX ∧ er = 1) ∨ (sizeB n = true ∧ y = newX n ∧ er = 0)) ∧
      XsR w.heap.size w'.heap.size w' (.agg #[.int .i64 y.size, .slice A y.free.length c]) y ∧ Below w.heap.size w w' := by
  have hs := fun W => smb_any n W
  change ∀ W, Calls Try.prog 40 #[.int .i64 n] W fun e w' => e = .returned (.bool (sizeB n)) ∧ W = w' at hs
  cases hb : sizeB n with
  | false =>
    rw [hb] at hs
    replace hs := hide hs
    replace hb := hide hb
    go_enter Try.func17, Try.ntmps17
    go_wp2_with (go_at_call 40; refine (unhide hs _).mono ?_; rintro e w1 ⟨rfl, rfl⟩)
    refine ret_xs2 rfl w.heap.size (.int .i64 0) (.slice none 0 0) (.int .i64 1) rfl rfl (Blk.new rfl) rfl ⟨none, 0, noX, 1, rfl, .inl (by simp), noX_xs _ _ _, by (repeat (first | with_reducible exact Below.refl _ _ | with_reducible assumption | with_reducible refine Below.drew ?_ | with_reducible refine bl_alloc ?_ _ | with_reducible refine bl_call ?_ (by assumption) | (focus (with_reducible refine Below.setCell ?_ ?_ _; rotate_left; focus (first | omega | (simp <;> omega)))) | fail))⟩
  | true =>
    rw [hb] at hs
    have hb' : 0 ≤ n ∧ n ≤ 8192 := by simpa [sizeB] using hb
    obtain ⟨b1, b2⟩ := hb'
    replace hs := hide hs
    replace hb := hide hb
    by_cases hp : 0 < n
    · go_enter Try.func17, Try.ntmps17
      go_wp2_with (go_at_call 40; refine (unhide hs _).mono ?_; rintro e w1 ⟨rfl, rfl⟩)
      have hx : newX n = ⟨n, [⟨0, n⟩]⟩ := by rw [newX, if_pos hp]
      refine ret_xs2 rfl w.heap.size (.int .i64 n) (.slice (some ⟨w.heap.size + 1 + 1, 0, none⟩) 1 1) (.int .i64 0) rfl rfl (((Blk.new rfl).alloc _).alloc _) rfl ⟨some ⟨w.heap.size + 1 + 1, 0, none⟩, 1, ⟨n, [⟨0, n⟩]⟩, 0, rfl, .inr (by simp [hx]), ⟨_, rfl, ?_⟩, by (repeat (first | with_reducible exact Below.refl _ _ | with_reducible assumption | with_reducible refine Below.drew ?_ | with_reducible refine bl_alloc ?_ _ | with_reducible refine bl_call ?_ (by assumption) | (focus (with_reducible refine Below.setCell ?_ ?_ _; rotate_left; focus (first | omega | (simp <;> omega)))) | fail))⟩
      have hB : ∀ (W : World), Blk (W.alloc (.cells #[.int .i64 0, .int .i64 n] 26)) W.heap.size 26 #[.int .i64 0, .int .i64 n] := fun W => Blk.new rfl
      refine Exs.make (l := [⟨0, n⟩]) (by simp) (by omega) (by omega) (by simp) fun k hk => ?_
      obtain rfl : k = 0 := by simpa using hk
      have h2 := fun i => (hB ((w.alloc (Obj.cells #[Value.int IntKind.i64 n, Value.slice (some { block := w.heap.size + 1 + 1, off := 0 }) 1 1] 24)).alloc (Obj.cells #[Value.int IntKind.i64 n, Value.slice (some { block := w.heap.size + 1 + 1, off := 0 }) 1 1] 24))).cell i
      simp only [World.size_alloc] at h2
      exact ⟨by simpa using h2 0, by simpa using h2 1⟩
    · obtain rfl : n = 0 := by omega
      go_enter Try.func17, Try.ntmps17
      go_wp2_with (go_at_call 40; refine (unhide hs _).mono ?_; rintro e w1 ⟨rfl, rfl⟩)
      have hx : newX 0 = ⟨0, []⟩ := by rw [newX, if_neg (by omega)]
      exact ret_xs2 rfl w.heap.size (.int .i64 0) (.slice none 0 0) (.int .i64 0) rfl rfl (Blk.alloc (Blk.new rfl) _) rfl ⟨none, 0, ⟨0, []⟩, 0, rfl, .inr (by simp [hx]), noX_xs _ _ _, by (repeat (first | with_reducible exact Below.refl _ _ | with_reducible assumption | with_reducible refine Below.drew ?_ | with_reducible refine bl_alloc ?_ _ | with_reducible refine bl_call ?_ (by assumption) | (focus (with_reducible refine Below.setCell ?_ ?_ _; rotate_left; focus (first | omega | (simp <;> omega)))) | fail))⟩

/-- How many ahead of the first one that is such. -/
def ahead (p : Ex → Bool) (l : List Ex) : Nat := (l.takeWhile fun f => !p f).length
theorem ahead_le (p : Ex → Bool) (l : List Ex) : ahead p l ≤ l.length := by
  unfold ahead
  exact (List.takeWhile_sublist _).length_le
theorem ahead_first (p : Ex → Bool) (l : List Ex) : (firstI p 0 l < 0 ∧ firstI p 0 l = -1 ∧ ahead p l = l.length) ∨ (0 ≤ firstI p 0 l ∧ firstI p 0 l = (ahead p l : Nat)) := by
  rcases firstI_cases p l with h | ⟨a, f, q, rfl, h1, h2⟩
  · left
    rw [firstI_none h]
    refine ⟨by omega, rfl, ?_⟩
    unfold ahead
    have := List.takeWhile_append_of_pos (p := fun f => !p f) (l₁ := l) (l₂ := []) (by intro g hg; simp [h g hg])
    rw [List.append_nil] at this
    rw [this]
    simp
  · right
    rw [firstI_at h1 h2]
    refine ⟨by omega, ?_⟩
    unfold ahead
    rw [List.takeWhile_append_of_pos (by intro g hg; simp [h1 g hg]), List.takeWhile_cons_of_neg (by simp [h2])]
    simp

set_option maxHeartbeats 1000000 in
theorem first36_any (cap : Value) (p : Ex → Bool) (lo : Nat) (v : Value) (l : List Ex) (w : World) (h : Exs lo w.heap.size w v l)
    (hf : ∀ f ∈ l, ∀ W, Below w.heap.size w W → Calls Try.prog 36 #[exV f, cap] W fun e w' => e = .returned (.bool (p f)) ∧ Below W.heap.size W w') :
    Calls Try.prog 35 #[v, .func (.func 36) #[] #[cap]] w fun e w' => e = .returned (.int .i64 (ahead p l : Nat)) ∧ Below w.heap.size w w' := by
  have hidx := index36_any cap p lo v l w h hf
  obtain ⟨A, c, rfl, _, _, _⟩ := h.open
  rcases ahead_first p l with ⟨h1, h2, h3⟩ | ⟨h1, h2⟩
  · rw [h2] at hidx
    replace hidx := hide hidx
    clear h hf h1 h2
    replace h3 := hide h3
    go_enter Try.func35, Try.ntmps35
    go_wp2_with (go_at_call 25; refine (unhide hidx).mono ?_; rintro e w1 ⟨rfl, hb1⟩)
    go_ret
    exact ⟨ret_i rfl (by rw [unhide h3]), hb1⟩
  · rw [h2] at hidx
    replace hidx := hide hidx
    clear h hf h1 h2
    have j : (0 : Int) ≤ (ahead p l : Nat) := by omega
    go_enter Try.func35, Try.ntmps35
    go_wp2_with (go_at_call 25; refine (unhide hidx).mono ?_; rintro e w1 ⟨rfl, hb1⟩)
    go_ret
    exact ⟨ret_i rfl rfl, hb1⟩
set_option maxHeartbeats 1000000 in
theorem first37_any (cap : Value) (p : Ex → Bool) (lo : Nat) (v : Value) (l : List Ex) (w : World) (h : Exs lo w.heap.size w v l)
    (hf : ∀ f ∈ l, ∀ W, Below w.heap.size w W → Calls Try.prog 37 #[exV f, cap] W fun e w' => e = .returned (.bool (p f)) ∧ Below W.heap.size W w') :
    Calls Try.prog 35 #[v, .func (.func 37) #[] #[cap]] w fun e w' => e = .returned (.int .i64 (ahead p l : Nat)) ∧ Below w.heap.size w w' := by
  have hidx := index37_any cap p lo v l w h hf
  obtain ⟨A, c, rfl, _, _, _⟩ := h.open
  rcases ahead_first p l with ⟨h1, h2, h3⟩ | ⟨h1, h2⟩
  · rw [h2] at hidx
    replace hidx := hide hidx
    clear h hf h1 h2
    replace h3 := hide h3
    go_enter Try.func35, Try.ntmps35
    go_wp2_with (go_at_call 25; refine (unhide hidx).mono ?_; rintro e w1 ⟨rfl, hb1⟩)
    go_ret
    exact ⟨ret_i rfl (by rw [unhide h3]), hb1⟩
  · rw [h2] at hidx
    replace hidx := hide hidx
    clear h hf h1 h2
    have j : (0 : Int) ≤ (ahead p l : Nat) := by omega
    go_enter Try.func35, Try.ntmps35
    go_wp2_with (go_at_call 25; refine (unhide hidx).mono ?_; rintro e w1 ⟨rfl, hb1⟩)
    go_ret
    exact ⟨ret_i rfl rfl, hb1⟩

set_option maxHeartbeats 1000000 in
theorem contains_any (cap : Value) (p : Ex → Bool) (lo : Nat) (v : Value) (l : List Ex) (w : World) (h : Exs lo w.heap.size w v l)
    (hf : ∀ f ∈ l, ∀ W, Below w.heap.size w W → Calls Try.prog 34 #[exV f, cap] W fun e w' => e = .returned (.bool (p f)) ∧ Below W.heap.size W w') :
    Calls Try.prog 33 #[v, .func (.func 34) #[] #[cap]] w fun e w' => e = .returned (.bool (decide (0 ≤ firstI p 0 l))) ∧ Below w.heap.size w w' := by
  have hidx := index34_any cap p lo v l w h hf
  obtain ⟨A, c, rfl, _, _, _⟩ := h.open
  replace hidx := hide hidx
  clear h hf
  go_enter Try.func33, Try.ntmps33
  go_wp2_with (go_at_call 25; refine (unhide hidx).mono ?_; rintro e w1 ⟨rfl, hb1⟩)
  go_ret
  exact ⟨ret_b rfl rfl, hb1⟩

theorem info26' : (Try.prog.info? 26).map (fun i => (i.zero, i.size, i.bytes)) = some (some (.agg #[.int .i64 0, .int .i64 0]), 2, 16) := info26

set_option maxHeartbeats 1000000 in
theorem grow_any (n : Nat) (w : World) (h0 : 0 < n) (hn : n ≤ 1000000) :
    Calls Try.prog 45 #[.slice none 0 0, .int .i64 n] w fun e w' => ∃ A c, e = .returned (.slice A 0 c) ∧ w'.ownsRow w.heap.size 26 2 (.slice A 0 c) 0 [] ∧ Below w.heap.size w w' := by
  obtain ⟨i0, hi0, hz0, hz1, hz2⟩ := info_parts info26'
  have hrun := fun W => Lib.run_append_nil_zeros (P := Try.prog) W 22 3 22 26 i0 _ .i64 .i64 Try.underlying22 Try.underlying3 hi0 hz0 n h0 (by rw [hz1]; omega) (by omega) (by rw [hz2]; omega)
  have hge := grownCap_ge w n 0 26
  have hle := grownCap_le_maxLen w n 0 26 (by simp [maxLen]; omega)
  have y0 : (0 : Int) < (n : Int) := by omega
  have y1 : (0 : Int) ≤ (n : Int) := by omega
  replace hrun := hide hrun
  go_enter Try.func45, Try.ntmps45
  go_wp2_with (first
    | (at_builtin
       refine Lib.wpList_append_run _ rfl (.tmp 20) (.tmp 21) 22 3 rfl _ _ rfl rfl _ _ (unhide hrun _) ?_)
    | fail)
  go_ret
  refine ⟨_, _, rfl, own_drew (own_fresh _ _ _ 26 2 _ _ rfl (Nat.le_refl _) hle ?_), by (repeat (first | with_reducible exact Below.refl _ _ | with_reducible assumption | with_reducible refine Below.drew ?_ | with_reducible refine bl_alloc ?_ _ | with_reducible refine bl_call ?_ (by assumption) | (focus (with_reducible refine Below.setCell ?_ ?_ _; rotate_left; focus (first | omega | (simp <;> omega)))) | fail))⟩
  simp [Builtin.zeroCells]
  omega
end Go.Proofs.Yteokimebfbnlkaa
