import Derived.Test.YteokimebfbnlkaaW22
namespace Go.Proofs.Yteokimebfbnlkaa
open Go.RowKit

/-- In how many of them is a sector? -/
def cnt : List Ex → Int → Nat
  | [], _ => 0
  | s :: r, i => (if s.at_ ≤ i ∧ i < s.at_ + s.len then 1 else 0) + cnt r i
theorem cnt_append (p q : List Ex) (i : Int) : cnt (p ++ q) i = cnt p i + cnt q i := by
  induction p with
  | nil => simp [cnt]
  | cons s r ih => simp only [List.cons_append, cnt, ih]; omega
theorem cnt_one {s : Ex} {i : Int} (h : inE s i) : cnt [s] i = 1 := by
  unfold inE at h
  simp only [cnt, if_pos h]
theorem cnt_none {s : Ex} {i : Int} (h : ¬ inE s i) : cnt [s] i = 0 := by
  unfold inE at h
  simp only [cnt, if_neg h]
theorem drop_at {os : List Ex} {k : Nat} (hk : k < os.length) : os = os.take k ++ ([os[k]] ++ os.drop (k + 1)) := by
  conv => lhs; rw [← List.take_append_drop k os, List.drop_eq_getElem_cons hk]
  rfl
theorem cnt_at {os : List Ex} {k : Nat} (hk : k < os.length) (i : Int) : cnt os i = cnt [os[k]] i + cnt (os.take k ++ os.drop (k + 1)) i := by
  conv => lhs; rw [drop_at hk]
  simp only [cnt_append]
  omega

/-- Those that are out, and those that are free, are all that was free, each once. -/
structure Inv (x y : Xs) (os : List Ex) : Prop where
  okx : okX x = true
  oky : okX y = true
  size : y.size = x.size
  each : ∀ s ∈ os, isOfB s x.size = true
  yes : ∀ i, mem x.free i → (mem y.free i ∧ cnt os i = 0) ∨ (¬ mem y.free i ∧ cnt os i = 1)
  no : ∀ i, ¬ mem x.free i → ¬ mem y.free i ∧ cnt os i = 0
theorem Inv.start {x : Xs} (h : okX x = true) : Inv x x [] := ⟨h, h, rfl, fun s hs => (by cases hs), fun i hi => .inl ⟨hi, rfl⟩, fun i hi => ⟨hi, rfl⟩⟩
theorem Inv.take {x y y' : Xs} {os : List Ex} {n : Int} {s : Ex} {er : Int} (h : Inv x y os) (ht : TakeOut y n s y' er) (h0 : er = 0) : Inv x y' (os ++ [s]) := by
  obtain ⟨kx, _⟩ := back_take ht h0
  rcases kx with ⟨_, r, _⟩ | ⟨_, _, _, r, _⟩ | ⟨_, hs, hm, _, ys, yk, ym⟩
  · cases r
  · cases r
  · refine ⟨h.okx, yk, ys.trans h.size, fun t ht => ?_, fun i hi => ?_, fun i hi => ?_⟩
    · rcases List.mem_append.1 ht with h1 | h1
      · exact h.each t h1
      · rw [List.mem_singleton.1 h1, ← h.size]; exact hs
    · rw [cnt_append]
      rcases h.yes i hi with ⟨a, b⟩ | ⟨a, b⟩
      · rcases Classical.em (inE s i) with c | c
        · exact .inr ⟨fun q => ((ym i).1 q).2 c, by rw [cnt_one c]; omega⟩
        · exact .inl ⟨(ym i).2 ⟨a, c⟩, by rw [cnt_none c]; omega⟩
      · have c : ¬ inE s i := fun c => a (hm i c)
        exact .inr ⟨fun q => a ((ym i).1 q).1, by rw [cnt_none c]; omega⟩
    · obtain ⟨a, b⟩ := h.no i hi
      have c : ¬ inE s i := fun c => a (hm i c)
      exact ⟨fun q => a ((ym i).1 q).1, by rw [cnt_append, cnt_none c]; omega⟩
theorem Inv.give {x y : Xs} {os : List Ex} (h : Inv x y os) {k : Nat} (hk : k < os.length) : ∃ y', GiveOut y os[k] y' 0 ∧ Inv x y' (os.take k ++ os.drop (k + 1)) ∧ os[k].len ≤ 8192 := by
  have he := h.each os[k] (List.getElem_mem _)
  have hc := fun i => cnt_at hk i
  have hfree : ∀ i, inE os[k] i → ¬ mem y.free i ∧ mem x.free i := fun i hi => by
    have h1 := hc i
    rw [cnt_one hi] at h1
    rcases Classical.em (mem x.free i) with hx | hx
    · rcases h.yes i hx with ⟨_, b⟩ | ⟨a, _⟩
      · omega
      · exact ⟨a, hx⟩
    · have := (h.no i hx).2; omega
  obtain ⟨y', er, hg⟩ := give_ex y os[k]
  have hsz : isOfB os[k] y.size = true := by rw [h.size]; exact he
  rcases hg with ⟨r, _⟩ | ⟨_, _, r, _⟩ | ⟨a1, a2, a3, rfl, ys, yk, ym⟩
  · exact absurd ⟨h.oky, hsz⟩ r
  · exact absurd (fun i hi => (hfree i hi).1) r
  · refine ⟨y', .inr (.inr ⟨a1, a2, a3, rfl, ys, yk, ym⟩), ⟨h.okx, yk, ys.trans h.size, fun t ht => ?_, fun i hi => ?_, fun i hi => ?_⟩, ?_⟩
    · rcases List.mem_append.1 ht with h1 | h1
      · exact h.each t (List.mem_of_mem_take h1)
      · exact h.each t (List.mem_of_mem_drop h1)
    · have h1 := hc i
      rcases Classical.em (inE os[k] i) with c | c
      · rw [cnt_one c] at h1
        refine .inl ⟨(ym i).2 (.inr c), ?_⟩
        rcases h.yes i hi with ⟨_, b⟩ | ⟨_, b⟩ <;> omega
      · rw [cnt_none c] at h1
        rcases h.yes i hi with ⟨a, b⟩ | ⟨a, b⟩
        · exact .inl ⟨(ym i).2 (.inl a), by omega⟩
        · refine .inr ⟨fun q => ?_, by omega⟩
          rcases (ym i).1 q with q | q
          · exact a q
          · exact c q
    · obtain ⟨a, b⟩ := h.no i hi
      have h1 := hc i
      refine ⟨fun q => ?_, by omega⟩
      rcases (ym i).1 q with q | q
      · exact a q
      · exact hi (hfree i q).2
    · obtain ⟨z1, z2, z3⟩ := isOfB_iff.1 he
      obtain ⟨z4, z5, _⟩ := okX_iff.1 h.okx
      omega
theorem Inv.done {x y : Xs} (h : Inv x y []) : y = x := okX_ext h.oky h.okx h.size fun i => by
  constructor
  · intro hy
    apply Classical.byContradiction
    intro hx
    exact (h.no i hx).1 hy
  · intro hx
    rcases h.yes i hx with ⟨a, _⟩ | ⟨_, b⟩
    · exact a
    · cases b
end Go.Proofs.Yteokimebfbnlkaa
