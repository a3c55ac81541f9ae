import Derived.Test.YteokimebfbnlkaaW14
namespace Go.Proofs.Yteokimebfbnlkaa
open Go.RowKit

set_option maxHeartbeats 2000000 in
theorem equal_true (lo lo' : Nat) (v v' : Value) (l : List Ex) (w : World) (h : Exs lo w.heap.size w v l) (h' : Exs lo' w.heap.size w v' l) :
    Calls Try.prog 43 #[v, v'] w fun e w' => e = .returned (.bool true) ∧ Below w.heap.size w w' := by
  obtain ⟨A, c, rfl, g1, g2, g3⟩ := h.open
  obtain ⟨A', c', rfl, g1', g2', g3'⟩ := h'.open
  clear h h'
  replace g3 := hide g3; replace g3' := hide g3'
  obtain ⟨n, hn⟩ : ∃ n, n = l.length := ⟨_, rfl⟩
  rw [← hn] at g1 g1' ⊢
  replace hn := hide hn
  go_enter Try.func43, Try.ntmps43
  go_wp2_with fail
  go_loopw [13] (fun i wr => ∃ k : Nat, k ≤ n ∧ i = .int .i64 k ∧ Hid (Below w.heap.size w wr)) (fun i _ => n - (intOf i).toNat)
  case atStart => exact ⟨0, by omega, rfl, hide (by (repeat (first | with_reducible exact Below.refl _ _ | with_reducible assumption | with_reducible refine Below.drew ?_ | with_reducible refine bl_alloc ?_ _ | with_reducible refine bl_call ?_ (by assumption) | (focus (with_reducible refine Below.setCell ?_ ?_ _; rotate_left; focus (first | omega | (simp <;> omega)))) | fail)))⟩
  case round =>
    obtain ⟨k, hk, rfl, hb⟩ := hrel
    by_cases hlt : k < n
    · have hlt' : k < l.length := by rw [← unhide hn]; exact hlt
      obtain ⟨b, off, rfl, _, l2, q0, q1⟩ := unhide g3 k hlt'
      obtain ⟨b', off', rfl, _, l2', q0', q1'⟩ := unhide g3' k hlt'
      have c0 := ((unhide hb).cell (p := ⟨b, off + k * 2, none⟩) l2).trans q0
      have c1 := ((unhide hb).cell (p := ⟨b, off + k * 2 + 1, none⟩) l2).trans q1
      have c0' := ((unhide hb).cell (p := ⟨b', off' + k * 2, none⟩) l2').trans q0'
      have c1' := ((unhide hb).cell (p := ⟨b', off' + k * 2 + 1, none⟩) l2').trans q1'
      generalize l[k] = f at *
      obtain ⟨fa, fl⟩ := f
      simp only [] at c0 c1 c0' c1'
      have kn : (k : Int) < (n : Int) := by omega
      have k0 : (0 : Int) ≤ (k : Int) := by omega
      have hb0 := unhide hb
      clear q0 q1 q0' q1'
      go_upto_region 6 with fail
      go_quiet (fail)
      go_wp2_with fail
      go_roundw
      case rel => exact ⟨k + 1, by omega, by go_num, hide (bl_drewN hb0 _)⟩
      case measure => simp [intOf]; omega
    · have hb0 := unhide hb
      go_wp2_with fail
      go_ret
      exact ⟨rfl, hb0⟩

set_option maxHeartbeats 1000000 in
theorem same_true (lo lo' : Nat) (v v' : Value) (x : Xs) (w : World) (h : XsR lo w.heap.size w v x) (h' : XsR lo' w.heap.size w v' x) :
    Calls Try.prog 24 #[v, v'] w fun e w' => e = .returned (.bool true) ∧ Below w.heap.size w w' := by
  obtain ⟨b, rfl, hb⟩ := h
  obtain ⟨b', rfl, hb'⟩ := h'
  have he := fun W hB => equal_true lo lo' b b' x.free W (hb.grow (w' := W) hB) (hb'.grow hB)
  obtain ⟨A, c, rfl, _⟩ := hb.open
  obtain ⟨A', c', rfl, _⟩ := hb'.open
  replace he := hide he
  clear hb hb'
  go_enter Try.func24, Try.ntmps24
  go_wp2_with (go_at_call 43; refine (unhide he _ (by (repeat (first | with_reducible exact Below.refl _ _ | with_reducible assumption | with_reducible refine Below.drew ?_ | with_reducible refine bl_alloc ?_ _ | with_reducible refine bl_call ?_ (by assumption) | (focus (with_reducible refine Below.setCell ?_ ?_ _; rotate_left; focus (first | omega | (simp <;> omega)))) | fail)))).mono ?_; rintro e w1 ⟨rfl, hb1⟩)
  go_ret
  exact ⟨rfl, by (repeat (first | with_reducible exact Below.refl _ _ | with_reducible assumption | with_reducible refine Below.drew ?_ | with_reducible refine bl_alloc ?_ _ | with_reducible refine bl_call ?_ (by assumption) | (focus (with_reducible refine Below.setCell ?_ ?_ _; rotate_left; focus (first | omega | (simp <;> omega)))) | fail))⟩

/-! ### what Give and Keep answer, whatever the world -/
theorem give_ex (x : Xs) (s : Ex) : ∃ y er, GiveOut x s y er := by
  by_cases h0 : okX x = true ∧ isOfB s x.size = true
  · by_cases h1 : ∀ i, inE s i → ¬ mem x.free i
    · obtain ⟨ok, hs⟩ := h0
      obtain ⟨x1, x2, x3⟩ := okX_iff.1 ok
      obtain ⟨o1, o2, o3⟩ := isOfB_iff.1 hs
      obtain ⟨p, m, q, hpq, _, _, hp, hm, hq⟩ := give_parts (s := s) x3 o2
      have x3' := x3
      rw [hpq] at x3'
      have hfr : ∀ f ∈ p ++ (m ++ q), ¬ (f.at_ < s.at_ + s.len ∧ s.at_ < f.at_ + f.len) := fun f hf hh => by
        rw [← hpq] at hf
        obtain ⟨i, hi, hfi⟩ := (meets (okX_each ok f hf).2.1 o2).1 hh
        exact h1 i hi ⟨f, hf, hfi⟩
      obtain ⟨g1, g2⟩ := give_ok x3' (Int.le_refl _) ⟨o1, o2, o3⟩ hfr hp hm hq
      exact ⟨⟨x.size, p ++ (m.foldl joinE s :: q)⟩, 0, .inr (.inr ⟨ok, hs, h1, rfl, rfl, okX_iff.2 ⟨x1, x2, g1⟩, fun i => by rw [g2 i, hpq]⟩)⟩
    · exact ⟨noX, 5, .inr (.inl ⟨h0.1, h0.2, h1, rfl, rfl⟩)⟩
  · exact ⟨noX, 1, .inl ⟨h0, rfl, rfl⟩⟩
theorem give_uniq {x y y' : Xs} {s : Ex} {er er' : Int} (h : GiveOut x s y er) (h' : GiveOut x s y' er') : y' = y ∧ er' = er := by
  rcases h with ⟨a, rfl, rfl⟩ | ⟨a1, a2, a3, rfl, rfl⟩ | ⟨a1, a2, a3, rfl, a5, a6, a7⟩ <;> rcases h' with ⟨b, rfl, rfl⟩ | ⟨b1, b2, b3, rfl, rfl⟩ | ⟨b1, b2, b3, rfl, b5, b6, b7⟩
  · exact ⟨rfl, rfl⟩
  · exact absurd ⟨b1, b2⟩ a
  · exact absurd ⟨b1, b2⟩ a
  · exact absurd ⟨a1, a2⟩ b
  · exact ⟨rfl, rfl⟩
  · exact absurd b3 a3
  · exact absurd ⟨a1, a2⟩ b
  · exact absurd a3 b3
  · exact ⟨okX_ext b6 a6 (by rw [b5, a5]) fun i => by rw [b7, a7], rfl⟩
theorem keep_ex (x : Xs) (s : Ex) : ∃ y er, KeepOut x s y er := by
  by_cases h0 : okX x = true ∧ isOfB s x.size = true
  · by_cases h1 : ∀ i, inE s i → mem x.free i
    · obtain ⟨ok, hs⟩ := h0
      obtain ⟨x1, x2, x3⟩ := okX_iff.1 ok
      obtain ⟨o1, o2, o3⟩ := isOfB_iff.1 hs
      obtain ⟨f, hf, f1, f2⟩ := (within x3 o2).2 h1
      obtain ⟨p, q, e⟩ := List.append_of_mem hf
      have x3' := x3
      rw [e] at x3'
      obtain ⟨g1, g2⟩ := cut_ok x3' f1 f2 o2
      exact ⟨⟨x.size, p ++ (pieces f s ++ q)⟩, 0, .inr (.inr ⟨ok, hs, h1, rfl, rfl, okX_iff.2 ⟨x1, x2, g1⟩, fun i => by rw [g2 i, e]⟩)⟩
    · exact ⟨noX, 4, .inr (.inl ⟨h0.1, h0.2, h1, rfl, rfl⟩)⟩
  · exact ⟨noX, 1, .inl ⟨h0, rfl, rfl⟩⟩
theorem keep_uniq {x y y' : Xs} {s : Ex} {er er' : Int} (h : KeepOut x s y er) (h' : KeepOut x s y' er') : y' = y ∧ er' = er := by
  rcases h with ⟨a, rfl, rfl⟩ | ⟨a1, a2, a3, rfl, rfl⟩ | ⟨a1, a2, a3, rfl, a5, a6, a7⟩ <;> rcases h' with ⟨b, rfl, rfl⟩ | ⟨b1, b2, b3, rfl, rfl⟩ | ⟨b1, b2, b3, rfl, b5, b6, b7⟩
  · exact ⟨rfl, rfl⟩
  · exact absurd ⟨b1, b2⟩ a
  · exact absurd ⟨b1, b2⟩ a
  · exact absurd ⟨a1, a2⟩ b
  · exact ⟨rfl, rfl⟩
  · exact absurd b3 a3
  · exact absurd ⟨a1, a2⟩ b
  · exact absurd a3 b3
  · exact ⟨okX_ext b6 a6 (by rw [b5, a5]) fun i => by rw [b7, a7], rfl⟩
theorem give_at {x y : Xs} {s : Ex} {er : Int} (h : GiveOut x s y er) (hr : Rgs x.free) (hs : s.len ≤ 9223372036854775807) : ∀ lo v W, XsR lo W.heap.size W v x → Calls Try.prog 15 #[v, exV s] W fun e w' => ∃ A c, e = .returned (.tuple #[.agg #[.int .i64 y.size, .slice A y.free.length c], .int .i64 er]) ∧
      XsR W.heap.size w'.heap.size w' (.agg #[.int .i64 y.size, .slice A y.free.length c]) y ∧ Below W.heap.size W w' := fun lo v W hx =>
  (give_any lo v x s W hx hr hs).mono fun e w' ⟨A, c, y', er', he, ho, hy, hb⟩ => by
    obtain ⟨rfl, rfl⟩ := give_uniq h ho
    exact ⟨A, c, he, hy, hb⟩
theorem keep_at {x y : Xs} {s : Ex} {er : Int} (h : KeepOut x s y er) (hr : Rgs x.free) (hs : s.len ≤ 9223372036854775807) : ∀ lo v W, XsR lo W.heap.size W v x → Calls Try.prog 13 #[v, exV s] W fun e w' => ∃ A c, e = .returned (.tuple #[.agg #[.int .i64 y.size, .slice A y.free.length c], .int .i64 er]) ∧
      XsR W.heap.size w'.heap.size w' (.agg #[.int .i64 y.size, .slice A y.free.length c]) y ∧ Below W.heap.size W w' := fun lo v W hx =>
  (keep_any lo v x s W hx hr hs).mono fun e w' ⟨A, c, y', er', he, ho, hy, hb⟩ => by
    obtain ⟨rfl, rfl⟩ := keep_uniq h ho
    exact ⟨A, c, he, hy, hb⟩
theorem rgs_ok {x : Xs} (h : okX x = true) : Rgs x.free := fun f hf => by have := okX_each h f hf; omega
theorem rgs_no : Rgs noX.free := fun f hf => by cases hf
theorem give_rgs {x y : Xs} {s : Ex} {er : Int} (h : GiveOut x s y er) : Rgs y.free := by
  rcases h with ⟨_, _, rfl⟩ | ⟨_, _, _, _, rfl⟩ | ⟨_, _, _, _, _, h, _⟩
  · exact rgs_no
  · exact rgs_no
  · exact rgs_ok h
theorem keep_rgs {x y : Xs} {s : Ex} {er : Int} (h : KeepOut x s y er) : Rgs y.free := by
  rcases h with ⟨_, _, rfl⟩ | ⟨_, _, _, _, rfl⟩ | ⟨_, _, _, _, _, h, _⟩
  · exact rgs_no
  · exact rgs_no
  · exact rgs_ok h

/-- In whatever order two are given. -/
theorem give_two {x p q s t : Xs} {a b : Ex} {e f g h : Int} (h1 : GiveOut x a p e) (h2 : GiveOut x b q f) (h3 : GiveOut p b s g) (h4 : GiveOut q a t h) (e0 : e = 0) (f0 : f = 0) :
    g = h ∧ (g = 0 ↔ (a.at_ + a.len ≤ b.at_ ∨ b.at_ + b.len ≤ a.at_)) ∧ s = t ∧ 0 ≤ a.at_ ∧ 1 ≤ a.len ∧ a.at_ + a.len ≤ 8192 ∧ 0 ≤ b.at_ ∧ 1 ≤ b.len ∧ b.at_ + b.len ≤ 8192 := by
  rcases h1 with ⟨_, r, _⟩ | ⟨_, _, _, r, _⟩ | ⟨ok, ha, fa, _, ps, pk, pm⟩
  · omega
  · omega
  rcases h2 with ⟨_, r, _⟩ | ⟨_, _, _, r, _⟩ | ⟨_, hb, fb, _, qs, qk, qm⟩
  · omega
  · omega
  obtain ⟨x1, x2, x3⟩ := okX_iff.1 ok
  obtain ⟨a1, a2, a3⟩ := isOfB_iff.1 ha
  obtain ⟨b1, b2, b3⟩ := isOfB_iff.1 hb
  have hbp : isOfB b p.size = true := by rw [ps]; exact hb
  have haq : isOfB a q.size = true := by rw [qs]; exact ha
  have key : (∀ i, inE b i → ¬ mem p.free i) ↔ (a.at_ + a.len ≤ b.at_ ∨ b.at_ + b.len ≤ a.at_) := by
    constructor
    · intro hall
      rcases Int.lt_or_le b.at_ (a.at_ + a.len) with c1 | c1
      · rcases Int.lt_or_le a.at_ (b.at_ + b.len) with c2 | c2
        · obtain ⟨i, i1, i2⟩ := (meets (f := a) (s := b) a2 b2).1 ⟨c2, c1⟩
          exact absurd ((pm i).2 (.inr i2)) (hall i i1)
        · exact .inr c2
      · exact .inl c1
    · intro hap i hi hm
      rcases (pm i).1 hm with h5 | h5
      · exact fb i hi h5
      · unfold inE at hi h5; omega
  have key' : (∀ i, inE a i → ¬ mem q.free i) ↔ (a.at_ + a.len ≤ b.at_ ∨ b.at_ + b.len ≤ a.at_) := by
    constructor
    · intro hall
      rcases Int.lt_or_le b.at_ (a.at_ + a.len) with c1 | c1
      · rcases Int.lt_or_le a.at_ (b.at_ + b.len) with c2 | c2
        · obtain ⟨i, i1, i2⟩ := (meets (f := a) (s := b) a2 b2).1 ⟨c2, c1⟩
          exact absurd ((qm i).2 (.inr i1)) (hall i i2)
        · exact .inr c2
      · exact .inl c1
    · intro hap i hi hm
      rcases (qm i).1 hm with h5 | h5
      · exact fa i hi h5
      · unfold inE at hi h5; omega
  refine ⟨?_, ?_, ?_, by omega, by omega, by omega, by omega, by omega, by omega⟩
  all_goals
    rcases h3 with ⟨r, _⟩ | ⟨_, _, r, g0, s0⟩ | ⟨_, _, r, g0, ss, sk, sm⟩
    · exact absurd ⟨pk, hbp⟩ r
    · rcases h4 with ⟨r', _⟩ | ⟨_, _, r', h0, t0⟩ | ⟨_, _, r', h0, ts, tk, tm⟩
      · exact absurd ⟨qk, haq⟩ r'
      · rw [key] at r
        first | (rw [g0, h0]; done) | exact ⟨fun h => by omega, fun h => absurd h r⟩ | rw [s0, t0]
      · rw [key] at r
        rw [key'] at r'
        exact absurd r' r
    · rcases h4 with ⟨r', _⟩ | ⟨_, _, r', h0, t0⟩ | ⟨_, _, r', h0, ts, tk, tm⟩
      · exact absurd ⟨qk, haq⟩ r'
      · rw [key] at r
        rw [key'] at r'
        exact absurd r r'
      · rw [key] at r
        first
          | (rw [g0, h0]; done)
          | exact ⟨fun _ => r, fun _ => g0⟩
          | exact okX_ext sk tk (by rw [ss, ts, ps, qs]) fun i => by rw [sm, tm, pm, qm]; exact or_right_comm
end Go.Proofs.Yteokimebfbnlkaa
