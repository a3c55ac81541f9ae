import Derived.Test.YteokimebfbnlkaaW5
namespace Go.Proofs.Yteokimebfbnlkaa
open Go.RowKit

theorem firstI_none {p : Ex → Bool} {l : List Ex} {k : Nat} (h : ∀ f ∈ l, p f = false) : firstI p k l = -1 := by
  induction l generalizing k with
  | nil => rfl
  | cons f r ih =>
    rw [firstI, if_neg (by simp [h f List.mem_cons_self])]
    exact ih fun g hg => h g (List.mem_cons_of_mem _ hg)
theorem firstI_at {p : Ex → Bool} {a q : List Ex} {f : Ex} {k : Nat} (h : ∀ g ∈ a, p g = false) (hf : p f = true) : firstI p k (a ++ f :: q) = ((k + a.length : Nat) : Int) := by
  induction a generalizing k with
  | nil => rw [List.nil_append, firstI, if_pos hf]; rfl
  | cons g r ih =>
    rw [List.cons_append, firstI, if_neg (by simp [h g List.mem_cons_self]), ih fun g hg => h g (List.mem_cons_of_mem _ hg)]
    simp only [List.length_cons]; omega
/-- None is such, or there is a first one. -/
theorem firstI_cases (p : Ex → Bool) (l : List Ex) : (∀ f ∈ l, p f = false) ∨ ∃ a f q, l = a ++ f :: q ∧ (∀ g ∈ a, p g = false) ∧ p f = true := by
  induction l with
  | nil => exact .inl fun f h => by cases h
  | cons f r ih =>
    cases hf : p f with
    | true => exact .inr ⟨[], f, r, rfl, fun g h => (by cases h), hf⟩
    | false =>
      rcases ih with h | ⟨a, g, q, rfl, h1, h2⟩
      · left
        intro g hg
        rcases List.mem_cons.1 hg with rfl | h1
        · exact hf
        · exact h g h1
      · right
        refine ⟨f :: a, g, q, rfl, fun x hx => ?_, h2⟩
        rcases List.mem_cons.1 hx with rfl | h3
        · exact hf
        · exact h1 x h3

theorem okX_iff {x : Xs} : okX x = true ↔ 0 ≤ x.size ∧ x.size ≤ 8192 ∧ okF x.size (-1) x.free = true := by
  simp [okX, and_assoc]
theorem okX_each {x : Xs} (h : okX x = true) : ∀ f ∈ x.free, 0 ≤ f.at_ ∧ 1 ≤ f.len ∧ f.at_ + f.len ≤ 8192 := by
  obtain ⟨_, h2, h3⟩ := okX_iff.1 h
  intro f hf
  obtain ⟨a, q, e⟩ := List.append_of_mem hf
  rw [e] at h3
  obtain ⟨_, _, b1, b2, b3, _⟩ := okF_at h3
  exact ⟨b1, b2, by omega⟩
theorem okX_len {x : Xs} (h : okX x = true) : x.free.length ≤ 1000000 := by
  obtain ⟨h1, h2, h3⟩ := okX_iff.1 h
  have := okF_len h3 (by omega)
  omega
/-- No extents at all: what goes with an error. -/
def noX : Xs := ⟨0, []⟩

theorem noX_xs (lo hi : Nat) (w : World) : XsR lo hi w (.agg #[.int .i64 noX.size, .slice none noX.free.length 0]) noX := ⟨_, rfl, Exs.nil _ _ _⟩
theorem exs_form {lo hi : Nat} {w : World} {v : Value} {l : List Ex} (h : Exs lo hi w v l) : ∃ A c, v = .slice A l.length c ∧ True := by
  obtain ⟨A, c, rfl, _⟩ := h
  exact ⟨A, c, rfl, trivial⟩

theorem Agree.set {lo hi : Nat} {w w' : World} (h : Agree lo hi w w') {a : Addr} (ha : a.block < lo) (u : Value) : Agree lo hi w (w'.setCell a u) := fun k h1 h2 =>
  (Below.heap_setCell w' a u k (by omega)).trans (h k h1 h2)

/-- What Keep answers. -/
def KeepOut (x : Xs) (s : Ex) (y : Xs) (er : Int) : Prop :=
  (¬ (okX x = true ∧ isOfB s x.size = true) ∧ er = 1 ∧ y = noX) ∨
  (okX x = true ∧ isOfB s x.size = true ∧ ¬ (∀ i, inE s i → mem x.free i) ∧ er = 4 ∧ y = noX) ∨
  (okX x = true ∧ isOfB s x.size = true ∧ (∀ i, inE s i → mem x.free i) ∧ er = 0 ∧ y.size = x.size ∧ okX y = true ∧ ∀ i, mem y.free i ↔ mem x.free i ∧ ¬ inE s i)

set_option maxHeartbeats 2000000 in
theorem keep_any (lo : Nat) (v : Value) (x : Xs) (s : Ex) (w : World) (h : XsR lo w.heap.size w v x) (hr : Rgs x.free) (hs : s.len ≤ 9223372036854775807) :
    Calls Try.prog 13 #[v, exV s] w fun e w' => ∃ A c y er, e = .returned (.tuple #[.agg #[.int .i64 y.size, .slice A y.free.length c], .int .i64 er]) ∧ KeepOut x s y er ∧
      XsR w.heap.size w'.heap.size w' (.agg #[.int .i64 y.size, .slice A y.free.length c]) y ∧ Below w.heap.size w w' := by
  have hchk : ∀ W, Below w.heap.size w W → Calls Try.prog 22 #[v] W fun e w' => e = .returned (.int .i64 (badE (okX x))) ∧ Below W.heap.size W w' := fun W hB => check_any lo v x W (h.grow hB) hr
  have h' := h
  obtain ⟨b, rfl, hb⟩ := h'
  obtain ⟨A, c, rfl, _, _, _⟩ := hb.open
  cases hok : okX x with
  | false =>
    rw [hok] at hchk
    simp only [badE, Bool.false_eq_true, if_false] at hchk
    replace hchk := hide hchk
    have hout : KeepOut x s noX 1 := .inl ⟨by simp [hok], rfl, rfl⟩
    clear h hb hr
    replace hout := hide hout
    replace hok := hide hok
    unfold exV
    go_enter Try.func13, Try.ntmps13
    go_wp2_with (first
      | (go_at_call 22; refine (unhide hchk _ (by (repeat (first | with_reducible exact Below.refl _ _ | with_reducible assumption | with_reducible refine Below.drew ?_ | with_reducible refine bl_alloc ?_ _ | with_reducible refine bl_call ?_ (by assumption) | (focus (with_reducible refine Below.setCell ?_ ?_ _; rotate_left; focus (first | omega | (simp <;> omega)))) | fail)))).mono ?_; rintro e w1 ⟨rfl, hb1⟩; obtain ⟨hc1, hf1⟩ := bcell hb1; have hz1 := hb1.size; (try simp at hz1); have q1 : w.heap.size + 1 + 1 < w1.heap.size := (by omega); have q1' : w.heap.size + 1 < w1.heap.size := (by omega); have q1'' : w.heap.size < w1.heap.size := (by omega)))
    refine ret_xs2 rfl (w.heap.size + 1 + 1) (.int .i64 0) (.slice none 0 0) (.int .i64 1) rfl rfl (Blk.set2 (show Blk _ (w.heap.size + 1 + 1) 24 #[.int .i64 0, .slice none 0 0] by (repeat (first | with_reducible assumption | (focus (with_reducible refine Blk.new ?_; focus (simp <;> fail))) | with_reducible refine Blk.set3 (a := .slice none 0 0) (b := .slice none 0 0) (c := .int .i64 0) ?_ | with_reducible refine Blk.alloc ?_ _ | with_reducible refine Blk.drew ?_ | (focus (with_reducible refine Blk.far ?_ ?_ _; rotate_left; focus (first | omega | (simp <;> omega)))) | (focus (with_reducible refine Blk.below ?_ hb1 ?_; rotate_left; focus (first | omega | (simp <;> omega)))) | (focus (with_reducible refine Blk.below ?_ hb2 ?_; rotate_left; focus (first | omega | (simp <;> omega)))) | (focus (with_reducible refine Blk.below ?_ hb3 ?_; rotate_left; focus (first | omega | (simp <;> omega)))) | (focus (with_reducible refine Blk.below ?_ hb4 ?_; rotate_left; focus (first | omega | (simp <;> omega)))) | (focus (with_reducible refine Blk.below ?_ hb5 ?_; rotate_left; focus (first | omega | (simp <;> omega)))) | (focus (with_reducible refine Blk.below ?_ hb6 ?_; rotate_left; focus (first | omega | (simp <;> omega)))) | (focus (with_reducible refine Blk.below ?_ hb7 ?_; rotate_left; focus (first | omega | (simp <;> omega)))) | (focus (with_reducible refine Blk.below ?_ hb8 ?_; rotate_left; focus (first | omega | (simp <;> omega)))) | (focus (with_reducible refine Blk.below ?_ hb9 ?_; rotate_left; focus (first | omega | (simp <;> omega)))) | (focus (with_reducible refine Blk.below ?_ hb10 ?_; rotate_left; focus (first | omega | (simp <;> omega)))) | (focus (with_reducible refine Blk.below ?_ hb11 ?_; rotate_left; focus (first | omega | (simp <;> omega)))) | (focus (with_reducible refine Blk.below ?_ hb12 ?_; rotate_left; focus (first | omega | (simp <;> omega)))) | (focus (with_reducible refine Blk.below ?_ hb13 ?_; rotate_left; focus (first | omega | (simp <;> omega)))) | (focus (with_reducible refine Blk.below ?_ hb14 ?_; rotate_left; focus (first | omega | (simp <;> omega)))) | (focus (with_reducible refine Blk.below ?_ hb15 ?_; rotate_left; focus (first | omega | (simp <;> omega)))) | fail)))) rfl ⟨none, 0, noX, 1, rfl, unhide hout, noX_xs _ _ _, by (repeat (first | with_reducible exact Below.refl _ _ | with_reducible assumption | with_reducible refine Below.drew ?_ | with_reducible refine bl_alloc ?_ _ | with_reducible refine bl_call ?_ (by assumption) | (focus (with_reducible refine Below.setCell ?_ ?_ _; rotate_left; focus (first | omega | (simp <;> omega)))) | fail))⟩
  | true =>
    obtain ⟨x1, x2, x3⟩ := okX_iff.1 hok
    have each := okX_each hok
    rw [hok] at hchk
    simp only [badE, if_true] at hchk
    have hio := fun W => isOf_any s x.size W x1 x2 hs
    replace hchk := hide hchk
    cases hof : isOfB s x.size with
    | false =>
      have hout : KeepOut x s noX 1 := .inl ⟨by simp [hof], rfl, rfl⟩
      rw [hof] at hio
      replace hio := hide hio
      clear h hb hr each x1 x2 x3
      replace hout := hide hout
      replace hok := hide hok
      replace hof := hide hof
      unfold exV at *
      go_enter Try.func13, Try.ntmps13
      go_wp2_with (first
        | (go_at_call 22; refine (unhide hchk _ (by (repeat (first | with_reducible exact Below.refl _ _ | with_reducible assumption | with_reducible refine Below.drew ?_ | with_reducible refine bl_alloc ?_ _ | with_reducible refine bl_call ?_ (by assumption) | (focus (with_reducible refine Below.setCell ?_ ?_ _; rotate_left; focus (first | omega | (simp <;> omega)))) | fail)))).mono ?_; rintro e w1 ⟨rfl, hb1⟩; obtain ⟨hc1, hf1⟩ := bcell hb1; have hz1 := hb1.size; (try simp at hz1); have q1 : w.heap.size + 1 + 1 < w1.heap.size := (by omega); have q1' : w.heap.size + 1 < w1.heap.size := (by omega); have q1'' : w.heap.size < w1.heap.size := (by omega))
        | (go_at_call 28; refine (unhide hio _).mono ?_; rintro e w2 ⟨rfl, hb2⟩; obtain ⟨hc2, hf2⟩ := bcell hb2; have hz2 := hb2.size; (try simp at hz2); have q2 : w.heap.size + 1 + 1 < w2.heap.size := (by omega); have q2' : w.heap.size + 1 < w2.heap.size := (by omega); have q2'' : w.heap.size < w2.heap.size := (by omega)))
      refine ret_xs2 rfl (w.heap.size + 1 + 1) (.int .i64 0) (.slice none 0 0) (.int .i64 1) rfl rfl (Blk.set2 (show Blk _ (w.heap.size + 1 + 1) 24 #[.int .i64 0, .slice none 0 0] by (repeat (first | with_reducible assumption | (focus (with_reducible refine Blk.new ?_; focus (simp <;> fail))) | with_reducible refine Blk.set3 (a := .slice none 0 0) (b := .slice none 0 0) (c := .int .i64 0) ?_ | with_reducible refine Blk.alloc ?_ _ | with_reducible refine Blk.drew ?_ | (focus (with_reducible refine Blk.far ?_ ?_ _; rotate_left; focus (first | omega | (simp <;> omega)))) | (focus (with_reducible refine Blk.below ?_ hb1 ?_; rotate_left; focus (first | omega | (simp <;> omega)))) | (focus (with_reducible refine Blk.below ?_ hb2 ?_; rotate_left; focus (first | omega | (simp <;> omega)))) | (focus (with_reducible refine Blk.below ?_ hb3 ?_; rotate_left; focus (first | omega | (simp <;> omega)))) | (focus (with_reducible refine Blk.below ?_ hb4 ?_; rotate_left; focus (first | omega | (simp <;> omega)))) | (focus (with_reducible refine Blk.below ?_ hb5 ?_; rotate_left; focus (first | omega | (simp <;> omega)))) | (focus (with_reducible refine Blk.below ?_ hb6 ?_; rotate_left; focus (first | omega | (simp <;> omega)))) | (focus (with_reducible refine Blk.below ?_ hb7 ?_; rotate_left; focus (first | omega | (simp <;> omega)))) | (focus (with_reducible refine Blk.below ?_ hb8 ?_; rotate_left; focus (first | omega | (simp <;> omega)))) | (focus (with_reducible refine Blk.below ?_ hb9 ?_; rotate_left; focus (first | omega | (simp <;> omega)))) | (focus (with_reducible refine Blk.below ?_ hb10 ?_; rotate_left; focus (first | omega | (simp <;> omega)))) | (focus (with_reducible refine Blk.below ?_ hb11 ?_; rotate_left; focus (first | omega | (simp <;> omega)))) | (focus (with_reducible refine Blk.below ?_ hb12 ?_; rotate_left; focus (first | omega | (simp <;> omega)))) | (focus (with_reducible refine Blk.below ?_ hb13 ?_; rotate_left; focus (first | omega | (simp <;> omega)))) | (focus (with_reducible refine Blk.below ?_ hb14 ?_; rotate_left; focus (first | omega | (simp <;> omega)))) | (focus (with_reducible refine Blk.below ?_ hb15 ?_; rotate_left; focus (first | omega | (simp <;> omega)))) | fail)))) rfl ⟨none, 0, noX, 1, rfl, unhide hout, noX_xs _ _ _, by (repeat (first | with_reducible exact Below.refl _ _ | with_reducible assumption | with_reducible refine Below.drew ?_ | with_reducible refine bl_alloc ?_ _ | with_reducible refine bl_call ?_ (by assumption) | (focus (with_reducible refine Below.setCell ?_ ?_ _; rotate_left; focus (first | omega | (simp <;> omega)))) | fail))⟩
    | true =>
      rw [hof] at hio
      replace hio := hide hio
      obtain ⟨o1, o2, o3⟩ := isOfB_iff.1 hof
      have hs64 : In64 (s.at_ + s.len) := ⟨by omega, by omega⟩
      obtain ⟨P, hP⟩ : ∃ P : Ex → Bool, P = fun f => decide (f.at_ ≤ s.at_) && decide (s.at_ + s.len ≤ f.at_ + f.len) := ⟨_, rfl⟩
      have hidx : ∀ W, Below w.heap.size w W → Blk W (w.heap.size + 1) 26 #[.int .i64 s.at_, .int .i64 s.len] →
          Calls Try.prog 25 #[.slice A x.free.length c, .func (.func 29) #[] #[.pointer (some ⟨w.heap.size + 1, 0, none⟩)]] W fun e w' => e = .returned (.int .i64 (firstI P 0 x.free)) ∧ Below W.heap.size W w' := fun W hB hblk =>
        index29_any _ P lo _ x.free W (hb.grow hB) fun f hf W' hB' => by
          obtain ⟨a1, a2, a3⟩ := each f hf
          rw [hP]
          exact keep1_any f s _ W' (hblk.below hB' hblk.lt) hs64 ⟨by omega, by omega⟩
      rcases firstI_cases P x.free with hn | ⟨p, f, q, hpq, hp, hf⟩
      · rw [firstI_none hn] at hidx
        replace hidx := hide hidx
        have hout : KeepOut x s noX 4 := by
          refine .inr (.inl ⟨hok, hof, fun hall => ?_, rfl, rfl⟩)
          obtain ⟨f, hf, a1, a2⟩ := (within x3 o2).2 hall
          have := hn f hf
          rw [hP] at this
          simp [a1, a2] at this
        clear h hb hr each x1 x2 x3 hP hn o1 o2 o3 hs64
        replace hout := hide hout
        replace hok := hide hok
        replace hof := hide hof
        unfold exV at *
        go_enter Try.func13, Try.ntmps13
        go_wp2_with (first
          | (go_at_call 22; refine (unhide hchk _ (by (repeat (first | with_reducible exact Below.refl _ _ | with_reducible assumption | with_reducible refine Below.drew ?_ | with_reducible refine bl_alloc ?_ _ | with_reducible refine bl_call ?_ (by assumption) | (focus (with_reducible refine Below.setCell ?_ ?_ _; rotate_left; focus (first | omega | (simp <;> omega)))) | fail)))).mono ?_; rintro e w1 ⟨rfl, hb1⟩; obtain ⟨hc1, hf1⟩ := bcell hb1; have hz1 := hb1.size; (try simp at hz1); have q1 : w.heap.size + 1 + 1 < w1.heap.size := (by omega); have q1' : w.heap.size + 1 < w1.heap.size := (by omega); have q1'' : w.heap.size < w1.heap.size := (by omega))
          | (go_at_call 28; refine (unhide hio _).mono ?_; rintro e w2 ⟨rfl, hb2⟩; obtain ⟨hc2, hf2⟩ := bcell hb2; have hz2 := hb2.size; (try simp at hz2); have q2 : w.heap.size + 1 + 1 < w2.heap.size := (by omega); have q2' : w.heap.size + 1 < w2.heap.size := (by omega); have q2'' : w.heap.size < w2.heap.size := (by omega))
          | (go_at_call 25; refine (unhide hidx _ (by (repeat (first | with_reducible exact Below.refl _ _ | with_reducible assumption | with_reducible refine Below.drew ?_ | with_reducible refine bl_alloc ?_ _ | with_reducible refine bl_call ?_ (by assumption) | (focus (with_reducible refine Below.setCell ?_ ?_ _; rotate_left; focus (first | omega | (simp <;> omega)))) | fail))) (by (repeat (first | with_reducible assumption | (focus (with_reducible refine Blk.new ?_; focus (simp <;> fail))) | with_reducible refine Blk.set3 (a := .slice none 0 0) (b := .slice none 0 0) (c := .int .i64 0) ?_ | with_reducible refine Blk.alloc ?_ _ | with_reducible refine Blk.drew ?_ | (focus (with_reducible refine Blk.far ?_ ?_ _; rotate_left; focus (first | omega | (simp <;> omega)))) | (focus (with_reducible refine Blk.below ?_ hb1 ?_; rotate_left; focus (first | omega | (simp <;> omega)))) | (focus (with_reducible refine Blk.below ?_ hb2 ?_; rotate_left; focus (first | omega | (simp <;> omega)))) | (focus (with_reducible refine Blk.below ?_ hb3 ?_; rotate_left; focus (first | omega | (simp <;> omega)))) | (focus (with_reducible refine Blk.below ?_ hb4 ?_; rotate_left; focus (first | omega | (simp <;> omega)))) | (focus (with_reducible refine Blk.below ?_ hb5 ?_; rotate_left; focus (first | omega | (simp <;> omega)))) | (focus (with_reducible refine Blk.below ?_ hb6 ?_; rotate_left; focus (first | omega | (simp <;> omega)))) | (focus (with_reducible refine Blk.below ?_ hb7 ?_; rotate_left; focus (first | omega | (simp <;> omega)))) | (focus (with_reducible refine Blk.below ?_ hb8 ?_; rotate_left; focus (first | omega | (simp <;> omega)))) | (focus (with_reducible refine Blk.below ?_ hb9 ?_; rotate_left; focus (first | omega | (simp <;> omega)))) | (focus (with_reducible refine Blk.below ?_ hb10 ?_; rotate_left; focus (first | omega | (simp <;> omega)))) | (focus (with_reducible refine Blk.below ?_ hb11 ?_; rotate_left; focus (first | omega | (simp <;> omega)))) | (focus (with_reducible refine Blk.below ?_ hb12 ?_; rotate_left; focus (first | omega | (simp <;> omega)))) | (focus (with_reducible refine Blk.below ?_ hb13 ?_; rotate_left; focus (first | omega | (simp <;> omega)))) | (focus (with_reducible refine Blk.below ?_ hb14 ?_; rotate_left; focus (first | omega | (simp <;> omega)))) | (focus (with_reducible refine Blk.below ?_ hb15 ?_; rotate_left; focus (first | omega | (simp <;> omega)))) | fail)))).mono ?_; rintro e w3 ⟨rfl, hb3⟩; obtain ⟨hc3, hf3⟩ := bcell hb3; have hz3 := hb3.size; (try simp at hz3); have q3 : w.heap.size + 1 + 1 < w3.heap.size := (by omega); have q3' : w.heap.size + 1 < w3.heap.size := (by omega); have q3'' : w.heap.size < w3.heap.size := (by omega)))
        refine ret_xs2 rfl (w.heap.size + 1 + 1) (.int .i64 0) (.slice none 0 0) (.int .i64 4) rfl rfl (Blk.set2 (show Blk _ (w.heap.size + 1 + 1) 24 #[.int .i64 0, .slice none 0 0] by (repeat (first | with_reducible assumption | (focus (with_reducible refine Blk.new ?_; focus (simp <;> fail))) | with_reducible refine Blk.set3 (a := .slice none 0 0) (b := .slice none 0 0) (c := .int .i64 0) ?_ | with_reducible refine Blk.alloc ?_ _ | with_reducible refine Blk.drew ?_ | (focus (with_reducible refine Blk.far ?_ ?_ _; rotate_left; focus (first | omega | (simp <;> omega)))) | (focus (with_reducible refine Blk.below ?_ hb1 ?_; rotate_left; focus (first | omega | (simp <;> omega)))) | (focus (with_reducible refine Blk.below ?_ hb2 ?_; rotate_left; focus (first | omega | (simp <;> omega)))) | (focus (with_reducible refine Blk.below ?_ hb3 ?_; rotate_left; focus (first | omega | (simp <;> omega)))) | (focus (with_reducible refine Blk.below ?_ hb4 ?_; rotate_left; focus (first | omega | (simp <;> omega)))) | (focus (with_reducible refine Blk.below ?_ hb5 ?_; rotate_left; focus (first | omega | (simp <;> omega)))) | (focus (with_reducible refine Blk.below ?_ hb6 ?_; rotate_left; focus (first | omega | (simp <;> omega)))) | (focus (with_reducible refine Blk.below ?_ hb7 ?_; rotate_left; focus (first | omega | (simp <;> omega)))) | (focus (with_reducible refine Blk.below ?_ hb8 ?_; rotate_left; focus (first | omega | (simp <;> omega)))) | (focus (with_reducible refine Blk.below ?_ hb9 ?_; rotate_left; focus (first | omega | (simp <;> omega)))) | (focus (with_reducible refine Blk.below ?_ hb10 ?_; rotate_left; focus (first | omega | (simp <;> omega)))) | (focus (with_reducible refine Blk.below ?_ hb11 ?_; rotate_left; focus (first | omega | (simp <;> omega)))) | (focus (with_reducible refine Blk.below ?_ hb12 ?_; rotate_left; focus (first | omega | (simp <;> omega)))) | (focus (with_reducible refine Blk.below ?_ hb13 ?_; rotate_left; focus (first | omega | (simp <;> omega)))) | (focus (with_reducible refine Blk.below ?_ hb14 ?_; rotate_left; focus (first | omega | (simp <;> omega)))) | (focus (with_reducible refine Blk.below ?_ hb15 ?_; rotate_left; focus (first | omega | (simp <;> omega)))) | fail)))) rfl ⟨none, 0, noX, 4, rfl, unhide hout, noX_xs _ _ _, by (repeat (first | with_reducible exact Below.refl _ _ | with_reducible assumption | with_reducible refine Below.drew ?_ | with_reducible refine bl_alloc ?_ _ | with_reducible refine bl_call ?_ (by assumption) | (focus (with_reducible refine Below.setCell ?_ ?_ _; rotate_left; focus (first | omega | (simp <;> omega)))) | fail))⟩
      · have hj : firstI P 0 x.free = ((p.length : Nat) : Int) := by
          rw [hpq, firstI_at hp hf, Nat.zero_add]
        rw [hj] at hidx
        replace hidx := hide hidx
        have hmem : f ∈ x.free := by rw [hpq]; simp
        obtain ⟨a1, a2, a3⟩ := each f hmem
        rw [hP] at hf
        simp only [Bool.and_eq_true, decide_eq_true_eq] at hf
        obtain ⟨f1, f2⟩ := hf
        have hcut : ∀ W, Below w.heap.size w W → Calls Try.prog 27 #[.agg #[.int .i64 x.size, .slice A x.free.length c], .int .i64 (p.length : Nat), exV s] W fun e w' => ∃ v', e = .returned (.agg #[.int .i64 x.size, v']) ∧ Exs W.heap.size w'.heap.size w' v' (p ++ (pieces f s ++ q)) ∧ Below W.heap.size W w' := fun W hB =>
          cut_any lo _ x p q f s W (h.grow hB) hpq (okX_len hok) hs64 ⟨by omega, by omega⟩ ⟨by omega, by omega⟩ ⟨by omega, by omega⟩
        have x3' := x3
        rw [hpq] at x3'
        obtain ⟨g1, g2⟩ := cut_ok x3' f1 f2 o2
        have hout : KeepOut x s ⟨x.size, p ++ (pieces f s ++ q)⟩ 0 := .inr (.inr ⟨hok, hof, (within x3 o2).1 ⟨f, hmem, f1, f2⟩, rfl, rfl, okX_iff.2 ⟨x1, x2, g1⟩, fun i => by rw [g2 i, hpq]⟩)
        have hjl : 0 ≤ (p.length : Int) := by omega
        generalize p ++ (pieces f s ++ q) = L at *
        generalize p.length = m at *
        clear h hb hr each x1 x2 x3 hP hp o1 o2 o3 hs64 a1 a2 a3 f1 f2 g1 g2 hj x3' hmem
        replace hout := hide hout
        replace hok := hide hok
        replace hof := hide hof
        replace hpq := hide hpq
        replace hcut := hide hcut
        unfold exV at *
        go_enter Try.func13, Try.ntmps13
        go_wp2_with (first
          | (go_at_call 22; refine (unhide hchk _ (by (repeat (first | with_reducible exact Below.refl _ _ | with_reducible assumption | with_reducible refine Below.drew ?_ | with_reducible refine bl_alloc ?_ _ | with_reducible refine bl_call ?_ (by assumption) | (focus (with_reducible refine Below.setCell ?_ ?_ _; rotate_left; focus (first | omega | (simp <;> omega)))) | fail)))).mono ?_; rintro e w1 ⟨rfl, hb1⟩; obtain ⟨hc1, hf1⟩ := bcell hb1; have hz1 := hb1.size; (try simp at hz1); have q1 : w.heap.size + 1 + 1 < w1.heap.size := (by omega); have q1' : w.heap.size + 1 < w1.heap.size := (by omega); have q1'' : w.heap.size < w1.heap.size := (by omega))
          | (go_at_call 28; refine (unhide hio _).mono ?_; rintro e w2 ⟨rfl, hb2⟩; obtain ⟨hc2, hf2⟩ := bcell hb2; have hz2 := hb2.size; (try simp at hz2); have q2 : w.heap.size + 1 + 1 < w2.heap.size := (by omega); have q2' : w.heap.size + 1 < w2.heap.size := (by omega); have q2'' : w.heap.size < w2.heap.size := (by omega))
          | (go_at_call 25; refine (unhide hidx _ (by (repeat (first | with_reducible exact Below.refl _ _ | with_reducible assumption | with_reducible refine Below.drew ?_ | with_reducible refine bl_alloc ?_ _ | with_reducible refine bl_call ?_ (by assumption) | (focus (with_reducible refine Below.setCell ?_ ?_ _; rotate_left; focus (first | omega | (simp <;> omega)))) | fail))) (by (repeat (first | with_reducible assumption | (focus (with_reducible refine Blk.new ?_; focus (simp <;> fail))) | with_reducible refine Blk.set3 (a := .slice none 0 0) (b := .slice none 0 0) (c := .int .i64 0) ?_ | with_reducible refine Blk.alloc ?_ _ | with_reducible refine Blk.drew ?_ | (focus (with_reducible refine Blk.far ?_ ?_ _; rotate_left; focus (first | omega | (simp <;> omega)))) | (focus (with_reducible refine Blk.below ?_ hb1 ?_; rotate_left; focus (first | omega | (simp <;> omega)))) | (focus (with_reducible refine Blk.below ?_ hb2 ?_; rotate_left; focus (first | omega | (simp <;> omega)))) | (focus (with_reducible refine Blk.below ?_ hb3 ?_; rotate_left; focus (first | omega | (simp <;> omega)))) | (focus (with_reducible refine Blk.below ?_ hb4 ?_; rotate_left; focus (first | omega | (simp <;> omega)))) | (focus (with_reducible refine Blk.below ?_ hb5 ?_; rotate_left; focus (first | omega | (simp <;> omega)))) | (focus (with_reducible refine Blk.below ?_ hb6 ?_; rotate_left; focus (first | omega | (simp <;> omega)))) | (focus (with_reducible refine Blk.below ?_ hb7 ?_; rotate_left; focus (first | omega | (simp <;> omega)))) | (focus (with_reducible refine Blk.below ?_ hb8 ?_; rotate_left; focus (first | omega | (simp <;> omega)))) | (focus (with_reducible refine Blk.below ?_ hb9 ?_; rotate_left; focus (first | omega | (simp <;> omega)))) | (focus (with_reducible refine Blk.below ?_ hb10 ?_; rotate_left; focus (first | omega | (simp <;> omega)))) | (focus (with_reducible refine Blk.below ?_ hb11 ?_; rotate_left; focus (first | omega | (simp <;> omega)))) | (focus (with_reducible refine Blk.below ?_ hb12 ?_; rotate_left; focus (first | omega | (simp <;> omega)))) | (focus (with_reducible refine Blk.below ?_ hb13 ?_; rotate_left; focus (first | omega | (simp <;> omega)))) | (focus (with_reducible refine Blk.below ?_ hb14 ?_; rotate_left; focus (first | omega | (simp <;> omega)))) | (focus (with_reducible refine Blk.below ?_ hb15 ?_; rotate_left; focus (first | omega | (simp <;> omega)))) | fail)))).mono ?_; rintro e w3 ⟨rfl, hb3⟩; obtain ⟨hc3, hf3⟩ := bcell hb3; have hz3 := hb3.size; (try simp at hz3); have q3 : w.heap.size + 1 + 1 < w3.heap.size := (by omega); have q3' : w.heap.size + 1 < w3.heap.size := (by omega); have q3'' : w.heap.size < w3.heap.size := (by omega))
          | (go_at_call 27; refine (unhide hcut _ (by (repeat (first | with_reducible exact Below.refl _ _ | with_reducible assumption | with_reducible refine Below.drew ?_ | with_reducible refine bl_alloc ?_ _ | with_reducible refine bl_call ?_ (by assumption) | (focus (with_reducible refine Below.setCell ?_ ?_ _; rotate_left; focus (first | omega | (simp <;> omega)))) | fail)))).mono ?_; rintro e w4 ⟨v4, rfl, hx4, hb4⟩; obtain ⟨A4, c4, rfl, l4⟩ := exs_form hx4; obtain ⟨hc4, hf4⟩ := bcell hb4; have hz4 := hb4.size; (try simp at hz4); have q4 : w.heap.size + 1 + 1 < w4.heap.size := (by omega)))
        refine ret_xs2 rfl (w.heap.size + 1 + 1) (.int .i64 x.size) (.slice A4 L.length c4) (.int .i64 0) rfl rfl (Blk.set2 (show Blk _ (w.heap.size + 1 + 1) 24 #[.int .i64 0, .slice none 0 0] by (repeat (first | with_reducible assumption | (focus (with_reducible refine Blk.new ?_; focus (simp <;> fail))) | with_reducible refine Blk.set3 (a := .slice none 0 0) (b := .slice none 0 0) (c := .int .i64 0) ?_ | with_reducible refine Blk.alloc ?_ _ | with_reducible refine Blk.drew ?_ | (focus (with_reducible refine Blk.far ?_ ?_ _; rotate_left; focus (first | omega | (simp <;> omega)))) | (focus (with_reducible refine Blk.below ?_ hb1 ?_; rotate_left; focus (first | omega | (simp <;> omega)))) | (focus (with_reducible refine Blk.below ?_ hb2 ?_; rotate_left; focus (first | omega | (simp <;> omega)))) | (focus (with_reducible refine Blk.below ?_ hb3 ?_; rotate_left; focus (first | omega | (simp <;> omega)))) | (focus (with_reducible refine Blk.below ?_ hb4 ?_; rotate_left; focus (first | omega | (simp <;> omega)))) | (focus (with_reducible refine Blk.below ?_ hb5 ?_; rotate_left; focus (first | omega | (simp <;> omega)))) | (focus (with_reducible refine Blk.below ?_ hb6 ?_; rotate_left; focus (first | omega | (simp <;> omega)))) | (focus (with_reducible refine Blk.below ?_ hb7 ?_; rotate_left; focus (first | omega | (simp <;> omega)))) | (focus (with_reducible refine Blk.below ?_ hb8 ?_; rotate_left; focus (first | omega | (simp <;> omega)))) | (focus (with_reducible refine Blk.below ?_ hb9 ?_; rotate_left; focus (first | omega | (simp <;> omega)))) | (focus (with_reducible refine Blk.below ?_ hb10 ?_; rotate_left; focus (first | omega | (simp <;> omega)))) | (focus (with_reducible refine Blk.below ?_ hb11 ?_; rotate_left; focus (first | omega | (simp <;> omega)))) | (focus (with_reducible refine Blk.below ?_ hb12 ?_; rotate_left; focus (first | omega | (simp <;> omega)))) | (focus (with_reducible refine Blk.below ?_ hb13 ?_; rotate_left; focus (first | omega | (simp <;> omega)))) | (focus (with_reducible refine Blk.below ?_ hb14 ?_; rotate_left; focus (first | omega | (simp <;> omega)))) | (focus (with_reducible refine Blk.below ?_ hb15 ?_; rotate_left; focus (first | omega | (simp <;> omega)))) | fail)))) rfl ⟨A4, c4, ⟨x.size, L⟩, 0, rfl, unhide hout, ?_, by (repeat (first | with_reducible exact Below.refl _ _ | with_reducible assumption | with_reducible refine Below.drew ?_ | with_reducible refine bl_alloc ?_ _ | with_reducible refine bl_call ?_ (by assumption) | (focus (with_reducible refine Below.setCell ?_ ?_ _; rotate_left; focus (first | omega | (simp <;> omega)))) | fail))⟩
        have HB : Below w.heap.size w w3 := by (repeat (first | with_reducible exact Below.refl _ _ | with_reducible assumption | with_reducible refine Below.drew ?_ | with_reducible refine bl_alloc ?_ _ | with_reducible refine bl_call ?_ (by assumption) | (focus (with_reducible refine Below.setCell ?_ ?_ _; rotate_left; focus (first | omega | (simp <;> omega)))) | fail))
        exact ⟨_, rfl, (hx4.keep (((Agree.refl _ _ _).set q3 _).set q3 _)).mono HB.size (by simp)⟩
end Go.Proofs.Yteokimebfbnlkaa
