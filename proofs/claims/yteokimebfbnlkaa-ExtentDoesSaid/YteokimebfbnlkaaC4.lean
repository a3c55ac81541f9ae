import Derived.Test.YteokimebfbnlkaaC3
import Derived.Test.YteokimebfbnlkaaW13
namespace Go.Proofs.Yteokimebfbnlkaa
open Go.RowKit

set_option maxHeartbeats 1000000 in
theorem room_any (lo : Nat) (v : Value) (x : Xs) (w : World) (h : XsR lo w.heap.size w v x) (hr : Rgs x.free) :
    Calls Try.prog 19 #[v] w fun e w' => e = .returned (.tuple #[.int .i64 (roomR x), .int .i64 (badE (okX x))]) ∧ Below w.heap.size w w' := by
  cases hok : okX x with
  | true =>
    have e : roomR x = sumE x.free := by unfold roomR; rw [hok]; rfl
    rw [e]
    exact room_ok lo v x w h hok
  | false =>
    have e : roomR x = 0 := by unfold roomR; rw [hok]; rfl
    rw [e]
    have hchk : ∀ W, Below w.heap.size w W → Calls Try.prog 22 #[v] W fun e w' => e = .returned (.int .i64 (badE (okX x))) ∧ Below W.heap.size W w' := fun W hB => check_any lo v x W (h.grow hB) hr
    rw [hok] at hchk
    simp only [badE, Bool.false_eq_true, if_false] at hchk ⊢
    obtain ⟨bb, rfl, hb⟩ := h
    replace hchk := hide hchk
    clear hb hok e
    go_enter Try.func19, Try.ntmps19
    go_wp2_with (first
      | (go_at_call 22; refine (unhide hchk _ (by (repeat (first | with_reducible exact Below.refl _ _ | with_reducible assumption | with_reducible refine Below.drew ?_ | with_reducible refine bl_alloc ?_ _ | with_reducible refine bl_call ?_ (by assumption) | (focus (with_reducible refine Below.setCell ?_ ?_ _; rotate_left; focus (first | omega | (simp <;> omega)))) | fail)))).mono ?_; rintro e w1 ⟨rfl, hb1⟩)
      | fail)
    go_ret2
    exact ⟨rfl, by (repeat (first | with_reducible exact Below.refl _ _ | with_reducible assumption | with_reducible refine Below.drew ?_ | with_reducible refine bl_alloc ?_ _ | with_reducible refine bl_call ?_ (by assumption) | (focus (with_reducible refine Below.setCell ?_ ?_ _; rotate_left; focus (first | omega | (simp <;> omega)))) | fail))⟩

section
variable {lo : Nat} {v : Value} {x : Xs} {w : World}
theorem take_fixO {n : Int} {s : Ex} {y : Xs} {er : Int} (ht : TakeOut x n s y er) (h : XsR lo w.heap.size w v x) (hr : Rgs x.free) :
    Calls Try.prog 11 #[v, .int .i64 n] w fun e w' => ∃ A c, e = .returned (.tuple #[exV s, .agg #[.int .i64 y.size, .slice A y.free.length c], .int .i64 er]) ∧ w'.ownsRow w.heap.size 26 2 (.slice A y.free.length c) y.free.length (y.free.flatMap exv) ∧ Below w.heap.size w w' :=
  (take_own lo v x n w h hr).mono fun e w' ⟨A, c, s', y', er', he, ho, hy, hb⟩ => by
    obtain ⟨rfl, rfl, rfl⟩ := take_uniq ht ho
    exact ⟨A, c, he, hy, hb⟩
theorem rtake_fixO {n : Int} {s : Ex} {y : Xs} {er : Int} (ht : TakeOut x n s y er) (h : XsR lo w.heap.size w v x) :
    Calls Try.prog 12 #[v, .int .i64 n] w fun e w' => ∃ A c, e = .returned (.tuple #[exV s, .agg #[.int .i64 y.size, .slice A y.free.length c], .int .i64 er]) ∧ w'.ownsRow w.heap.size 26 2 (.slice A y.free.length c) y.free.length (y.free.flatMap exv) ∧ Below w.heap.size w w' :=
  (reftake_any lo v x n w h).mono fun e w' ⟨A, c, s', y', er', he, ho, hy, hb⟩ => by
    obtain ⟨rfl, rfl, rfl⟩ := take_uniq ht ho
    exact ⟨A, c, he, hy, hb⟩
theorem keep_fixO {s : Ex} {y : Xs} {er : Int} (ht : KeepOut x s y er) (h : XsR lo w.heap.size w v x) (hr : Rgs x.free) (hs : s.len ≤ 9223372036854775807) :
    Calls Try.prog 13 #[v, exV s] w fun e w' => ∃ A c, e = .returned (.tuple #[.agg #[.int .i64 y.size, .slice A y.free.length c], .int .i64 er]) ∧ w'.ownsRow w.heap.size 26 2 (.slice A y.free.length c) y.free.length (y.free.flatMap exv) ∧ Below w.heap.size w w' :=
  (keep_own lo v x s w h hr hs).mono fun e w' ⟨A, c, y', er', he, ho, hy, hb⟩ => by
    obtain ⟨rfl, rfl⟩ := keep_uniq ht ho
    exact ⟨A, c, he, hy, hb⟩
theorem rkeep_fixO {s : Ex} {y : Xs} {er : Int} (ht : KeepOut x s y er) (h : XsR lo w.heap.size w v x) :
    Calls Try.prog 14 #[v, exV s] w fun e w' => ∃ A c, e = .returned (.tuple #[.agg #[.int .i64 y.size, .slice A y.free.length c], .int .i64 er]) ∧ w'.ownsRow w.heap.size 26 2 (.slice A y.free.length c) y.free.length (y.free.flatMap exv) ∧ Below w.heap.size w w' :=
  (refkeep_any lo v x s w h).mono fun e w' ⟨A, c, y', er', he, ho, hy, hb⟩ => by
    obtain ⟨rfl, rfl⟩ := ref_keep ht ho
    exact ⟨A, c, he, hy, hb⟩
theorem give_fixO {s : Ex} {y : Xs} {er : Int} (ht : GiveOut x s y er) (h : XsR lo w.heap.size w v x) (hr : Rgs x.free) (hs : s.len ≤ 9223372036854775807) :
    Calls Try.prog 15 #[v, exV s] w fun e w' => ∃ A c, e = .returned (.tuple #[.agg #[.int .i64 y.size, .slice A y.free.length c], .int .i64 er]) ∧ w'.ownsRow w.heap.size 26 2 (.slice A y.free.length c) y.free.length (y.free.flatMap exv) ∧ Below w.heap.size w w' :=
  (give_own lo v x s w h hr hs).mono fun e w' ⟨A, c, y', er', he, ho, hy, hb⟩ => by
    obtain ⟨rfl, rfl⟩ := give_uniq ht ho
    exact ⟨A, c, he, hy, hb⟩
theorem rgive_fixO {s : Ex} {y : Xs} {er : Int} (ht : GiveOut x s y er) (h : XsR lo w.heap.size w v x) :
    Calls Try.prog 16 #[v, exV s] w fun e w' => ∃ A c, e = .returned (.tuple #[.agg #[.int .i64 y.size, .slice A y.free.length c], .int .i64 er]) ∧ w'.ownsRow w.heap.size 26 2 (.slice A y.free.length c) y.free.length (y.free.flatMap exv) ∧ Below w.heap.size w w' :=
  (refgive_any lo v x s w h).mono fun e w' ⟨A, c, y', er', he, ho, hy, hb⟩ => by
    obtain ⟨rfl, rfl⟩ := ref_give ht ho
    exact ⟨A, c, he, hy, hb⟩
end
def NewOut (m : Int) (y : Xs) (er : Int) : Prop := (sizeB m = false ∧ y = noX ∧ er = 1) ∨ (sizeB m = true ∧ y = newX m ∧ er = 0)
theorem new_ex (m : Int) : ∃ y er, NewOut m y er := by
  cases h : sizeB m
  · exact ⟨_, _, .inl ⟨h, rfl, rfl⟩⟩
  · exact ⟨_, _, .inr ⟨h, rfl, rfl⟩⟩
theorem new_uniq {m : Int} {y y' : Xs} {er er' : Int} (h : NewOut m y er) (h' : NewOut m y' er') : y' = y ∧ er' = er := by
  rcases h with ⟨a, rfl, rfl⟩ | ⟨a, rfl, rfl⟩ <;> rcases h' with ⟨b, rfl, rfl⟩ | ⟨b, rfl, rfl⟩
  · exact ⟨rfl, rfl⟩
  · rw [a] at b; cases b
  · rw [a] at b; cases b
  · exact ⟨rfl, rfl⟩
theorem new_fixO {m : Int} {y : Xs} {er : Int} (ht : NewOut m y er) (w : World) :
    Calls Try.prog 17 #[.int .i64 m] w fun e w' => ∃ A c, e = .returned (.tuple #[.agg #[.int .i64 y.size, .slice A y.free.length c], .int .i64 er]) ∧ XsR w.heap.size w'.heap.size w' (.agg #[.int .i64 y.size, .slice A y.free.length c]) y ∧ Below w.heap.size w w' :=
  (new_any m w).mono fun e w' ⟨A, c, y', er', he, ho, hy, hb⟩ => by
    obtain ⟨rfl, rfl⟩ := new_uniq ht ho
    exact ⟨A, c, he, hy, hb⟩
theorem rnew_fixO {m : Int} {y : Xs} {er : Int} (ht : NewOut m y er) (w : World) :
    Calls Try.prog 18 #[.int .i64 m] w fun e w' => ∃ A c, e = .returned (.tuple #[.agg #[.int .i64 y.size, .slice A y.free.length c], .int .i64 er]) ∧ XsR w.heap.size w'.heap.size w' (.agg #[.int .i64 y.size, .slice A y.free.length c]) y ∧ Below w.heap.size w w' :=
  (refnew_any m w).mono fun e w' ⟨A, c, y', he, ho, hy, hb⟩ => by
    have : y' = y ∧ badE (decide (0 ≤ m) && decide (m ≤ 8192)) = er := by
      rcases ht with ⟨a, rfl, rfl⟩ | ⟨a, rfl, rfl⟩
      · have a' : (decide (0 ≤ m) && decide (m ≤ 8192)) = false := a
        rw [a', ho, if_neg (by simp at a'; omega)]
        exact ⟨rfl, rfl⟩
      · have a' : (decide (0 ≤ m) && decide (m ≤ 8192)) = true := a
        rw [a', ho, if_pos (by simpa using a'), ref_new a]
        exact ⟨rfl, rfl⟩
    obtain ⟨rfl, h2⟩ := this
    rw [h2] at he
    exact ⟨A, c, he, ⟨_, rfl, Exs.of_own (e := 26) hy⟩, hb⟩

theorem World.size_alloc_le (w : World) (o : Obj) : w.heap.size ≤ (w.alloc o).heap.size := by simp
theorem own_cell2 {w : World} {base g n c k : Nat} {l : List Ex} (h : w.ownsRow base 26 2 (.slice (some ⟨g, 0, none⟩) n c) n (l.flatMap exv)) (hl : l.length = n) (hk : k < n) : w.cell? ⟨g, k * 2, none⟩ = some (.int .i64 (l[k]'(by omega)).at_) := by
  subst hl
  have hc := World.ownsRow.cellAt (w := w) (base := base) (e := 26) (size := 2) (g := g) (n := l.length) (cap := c) (xs := l.flatMap exv) h (k * 2) (by omega)
  rw [hc]
  exact (flat_get l k hk).1
theorem flat_set (l : List Ex) (k : Nat) (hk : k < l.length) (z : Int) : (l.flatMap exv).set (k * 2) (.int .i64 z) = (l.set k ⟨z, l[k].len⟩).flatMap exv := by
  induction l generalizing k with
  | nil => simp at hk
  | cons f r ih =>
    cases k with
    | zero => simp [exv]
    | succ k =>
      rw [List.flatMap_cons, List.set_append_right _ _ (by simp [exv]; omega), show (k + 1) * 2 - (exv f).length = k * 2 by simp [exv]; omega, ih k (by simpa using hk)]
      simp
/-- Blocks that are known whole, and rows of extents that are the call's own. -/
structure Fx (w : World) (L : List (Nat × TypeId × Array Value)) (R : List (Nat × Value × List Ex)) (Y : List (Nat × Nat × Value × Xs)) : Prop where
  blk : ∀ p ∈ L, Blk w p.1 p.2.1 p.2.2
  row : ∀ p ∈ R, w.ownsRow p.1 26 2 p.2.1 p.2.2.length (p.2.2.flatMap exv)
  xs : ∀ p ∈ Y, p.2.1 ≤ w.heap.size ∧ XsR p.1 p.2.1 w p.2.2.1 p.2.2.2
section
variable {w w' : World} {L : List (Nat × TypeId × Array Value)} {R : List (Nat × Value × List Ex)} {Y : List (Nat × Nat × Value × Xs)}
theorem Fx.below (h : Fx w L R Y) (hb : Below w.heap.size w w') : Fx w' L R Y :=
  ⟨fun p hp => (h.blk p hp).below hb (h.blk p hp).lt, fun p hp => own_below (h.row p hp) hb (Nat.le_refl _), fun p hp => ⟨Nat.le_trans (h.xs p hp).1 hb.size, (h.xs p hp).2.below hb (h.xs p hp).1⟩⟩
theorem Fx.alloc (h : Fx w L R Y) (o : Obj) : Fx (w.alloc o) L R Y := h.below ((Below.refl _ _).alloc (Nat.le_refl _) o)
theorem Fx.drew (h : Fx w L R Y) : Fx w.drew L R Y := h.below (Below.drew (Below.refl _ _))
theorem Fx.drewN (h : Fx w L R Y) (n : Nat) : Fx (w.drewN n) L R Y := h.below (below_drewN (Below.refl _ _) n)
theorem Fx.addB (h : Fx w L R Y) {g : Nat} {t : TypeId} {cs : Array Value} (hk : Blk w g t cs) : Fx w (L ++ [(g, t, cs)]) R Y :=
  ⟨fun p hp => by rcases List.mem_append.1 hp with hp | hp; exact h.blk p hp; rw [List.mem_singleton.1 hp]; exact hk, h.row, h.xs⟩
theorem Fx.addR (h : Fx w L R Y) {b : Nat} {v : Value} {l : List Ex} (hk : w.ownsRow b 26 2 v l.length (l.flatMap exv)) : Fx w L (R ++ [(b, v, l)]) Y :=
  ⟨h.blk, fun p hp => by rcases List.mem_append.1 hp with hp | hp; exact h.row p hp; rw [List.mem_singleton.1 hp]; exact hk, h.xs⟩
theorem Fx.addX (h : Fx w L R Y) {lo hi : Nat} {v : Value} {x : Xs} (h1 : hi ≤ w.heap.size) (hk : XsR lo hi w v x) : Fx w L R (Y ++ [(lo, hi, v, x)]) :=
  ⟨h.blk, h.row, fun p hp => by rcases List.mem_append.1 hp with hp | hp; exact h.xs p hp; rw [List.mem_singleton.1 hp]; exact ⟨h1, hk⟩⟩
theorem Fx.get (h : Fx w L R Y) (i : Nat) {g : Nat} {t : TypeId} {cs : Array Value} (e : L[i]? = some (g, t, cs)) : Blk w g t cs := h.blk _ (List.mem_of_getElem? e)
theorem Fx.own (h : Fx w L R Y) (i : Nat) {b : Nat} {v : Value} {l : List Ex} (e : R[i]? = some (b, v, l)) : w.ownsRow b 26 2 v l.length (l.flatMap exv) := h.row _ (List.mem_of_getElem? e)
theorem Fx.ox (h : Fx w L R Y) (i : Nat) {b : Nat} {v : Value} {l : List Ex} (e : R[i]? = some (b, v, l)) (n : Int) : XsR b w.heap.size w (.agg #[.int .i64 n, v]) ⟨n, l⟩ := ⟨_, rfl, Exs.of_own (h.own i e)⟩
theorem Fx.xr (h : Fx w L R Y) (i : Nat) {lo hi : Nat} {v : Value} {x : Xs} (e : Y[i]? = some (lo, hi, v, x)) : XsR lo w.heap.size w v x := (h.xs _ (List.mem_of_getElem? e)).2.mono (Nat.le_refl _) (h.xs _ (List.mem_of_getElem? e)).1
/-- A cell of a row of the call's own is written: what lies elsewhere stays. -/
theorem Fx.put (h : Fx w L R Y) {g k : Nat} {u : Value} {cur : Array Value} (hk : Blk w g 26 cur) (hL : ∀ p ∈ L, p.2.1 ≠ 26) (hR : ∀ p ∈ R, g < p.1) (hY : ∀ p ∈ Y, p.2.1 ≤ g) : Fx (w.setCell ⟨g, k, none⟩ u) L R Y :=
  ⟨fun p hp => (h.blk p hp).far (p := ⟨g, k, none⟩) (Blk.ne_ (h.blk p hp) hk (hL p hp)) u, fun p hp => ownsRow_setCell_below (h.row p hp) (a := ⟨g, k, none⟩) (hR p hp) u,
    fun p hp => ⟨Nat.le_trans (h.xs p hp).1 (by simp), (h.xs p hp).2.below (Below.setCell (p := ⟨g, k, none⟩) (Below.refl _ _) (hY p hp) u) (Nat.le_refl _)⟩⟩
theorem Fx.nil (w : World) : Fx w [] [] [] := ⟨fun _ hp => (nomatch hp), fun _ hp => (nomatch hp), fun _ hp => (nomatch hp)⟩
end
end Go.Proofs.Yteokimebfbnlkaa
