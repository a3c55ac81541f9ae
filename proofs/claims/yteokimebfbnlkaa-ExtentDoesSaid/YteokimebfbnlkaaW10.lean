import Derived.Test.YteokimebfbnlkaaW9
namespace Go.Proofs.Yteokimebfbnlkaa
open Go.RowKit

theorem okF_above {size a : Int} {l : List Ex} (h : okF size a l = true) : ∀ g ∈ l, a < g.at_ ∧ 1 ≤ g.len := by
  induction l generalizing a with
  | nil => intro g hg; cases hg
  | cons f r ih =>
    rw [okF_cons] at h
    intro g hg
    rcases List.mem_cons.1 hg with rfl | hg
    · exact ⟨h.2.1, h.1.2.1⟩
    · have := ih h.2.2 g hg; omega

theorem ahead_cons_neg {P : Ex → Bool} {f : Ex} {r : List Ex} (h : P f = false) : ahead P (f :: r) = ahead P r + 1 := by
  unfold ahead; rw [List.takeWhile_cons_of_pos (by simp [h])]; rfl
theorem ahead_cons_pos {P : Ex → Bool} {f : Ex} {r : List Ex} (h : P f = true) : ahead P (f :: r) = 0 := by
  unfold ahead; rw [List.takeWhile_cons_of_neg (by simp [h])]; rfl

/-- The extents ahead of 's', those that touch it, and those behind it. -/
theorem give_parts {size a : Int} {l : List Ex} {s : Ex} (h : okF size a l = true) (hs : 1 ≤ s.len) :
    ∃ p m q, l = p ++ (m ++ q) ∧ ahead (fun f => decide (s.at_ ≤ f.at_ + f.len)) l = p.length ∧ ahead (fun f => decide (s.at_ + s.len < f.at_)) l = p.length + m.length ∧
      (∀ f ∈ p, f.at_ + f.len < s.at_) ∧ (∀ f ∈ m, s.at_ ≤ f.at_ + f.len ∧ f.at_ ≤ s.at_ + s.len) ∧ (∀ f ∈ q, s.at_ + s.len < f.at_) := by
  induction l generalizing a with
  | nil => exact ⟨[], [], [], rfl, rfl, rfl, by simp, by simp, by simp⟩
  | cons f r ih =>
    rw [okF_cons] at h
    obtain ⟨⟨a1, a2, a3⟩, a4, a5⟩ := h
    obtain ⟨p, m, q, e, h1, h2, h3, h4, h5⟩ := ih a5
    have hab := okF_above a5
    by_cases c1 : f.at_ + f.len < s.at_
    · refine ⟨f :: p, m, q, by rw [e]; rfl, ?_, ?_, fun g hg => ?_, h4, h5⟩
      · rw [ahead_cons_neg (by simp; omega), h1]; rfl
      · rw [ahead_cons_neg (by simp; omega), h2]; simp; omega
      · rcases List.mem_cons.1 hg with rfl | hg
        · exact c1
        · exact h3 g hg
    · by_cases c2 : f.at_ ≤ s.at_ + s.len
      · have hp : p = [] := by
          rcases p with _ | ⟨g, p'⟩
          · rfl
          · have h6 := h3 g List.mem_cons_self
            have h7 := hab g (by rw [e]; simp)
            omega
        subst hp
        refine ⟨[], f :: m, q, by rw [e]; rfl, ?_, ?_, by simp, fun g hg => ?_, h5⟩
        · rw [ahead_cons_pos (by simp; omega)]; rfl
        · rw [ahead_cons_neg (by simp; omega), h2]; simp
        · rcases List.mem_cons.1 hg with rfl | hg
          · omega
          · exact h4 g hg
      · refine ⟨[], [], f :: r, rfl, ?_, ?_, by simp, by simp, fun g hg => ?_⟩
        · rw [ahead_cons_pos (by simp; omega)]; rfl
        · rw [ahead_cons_pos (by simp; omega)]; rfl
        · rcases List.mem_cons.1 hg with rfl | hg
          · omega
          · have h7 := hab g hg; omega

/-- What Give answers. -/
def GiveOut (x : Xs) (s : Ex) (y : Xs) (er : Int) : Prop :=
  (¬ (okX x = true ∧ isOfB s x.size = true) ∧ er = 1 ∧ y = noX) ∨
  (okX x = true ∧ isOfB s x.size = true ∧ ¬ (∀ i, inE s i → ¬ mem x.free i) ∧ er = 5 ∧ y = noX) ∨
  (okX x = true ∧ isOfB s x.size = true ∧ (∀ i, inE s i → ¬ mem x.free i) ∧ er = 0 ∧ y.size = x.size ∧ okX y = true ∧ ∀ i, mem y.free i ↔ mem x.free i ∨ inE s i)

theorem meets {f s : Ex} (hf : 1 ≤ f.len) (hs : 1 ≤ s.len) : (f.at_ < s.at_ + s.len ∧ s.at_ < f.at_ + f.len) ↔ ∃ i, inE s i ∧ inE f i := by
  constructor
  · rintro ⟨h1, h2⟩
    rcases Int.lt_or_le f.at_ s.at_ with h | h
    · exact ⟨s.at_, by unfold inE; omega, by unfold inE; omega⟩
    · exact ⟨f.at_, by unfold inE; omega, by unfold inE; omega⟩
  · rintro ⟨i, h1, h2⟩
    unfold inE at h1 h2
    omega

/-- The length of what is joined. -/
theorem join_len (l : List Ex) (s : Ex) (hl : ∀ f ∈ l, 0 ≤ f.len ∧ f.len ≤ 8192) (hs : 0 ≤ s.len) : 0 ≤ (l.foldl joinE s).len ∧ (l.foldl joinE s).len ≤ s.len + 8192 * l.length := by
  induction l generalizing s with
  | nil => simp; omega
  | cons f r ih =>
    have h1 := hl f List.mem_cons_self
    have h2 := ih (joinE s f) (fun g hg => hl g (List.mem_cons_of_mem _ hg)) (by simp only [joinE]; omega)
    simp only [joinE] at h2
    simp only [List.foldl_cons, List.length_cons, joinE]
    omega

/-- What the first 'k' have made of 's'. -/
def accE (m : List Ex) (s : Ex) (k : Nat) : Ex := (m.take k).foldl joinE s
theorem accE_succ {m : List Ex} {s : Ex} {k : Nat} (hk : k < m.length) : accE m s (k + 1) = joinE (accE m s k) m[k] := by
  have h : m.take (k + 1) = m.take k ++ [m[k]] := by
    rw [List.take_add_one, List.getElem?_eq_getElem hk]; rfl
  unfold accE
  rw [h, List.foldl_append]; rfl
theorem accE_len {m : List Ex} {s : Ex} (k : Nat) (hl : ∀ f ∈ m, 0 ≤ f.len ∧ f.len ≤ 8192) (hs : 0 ≤ s.len) (hm : m.length ≤ 1000000) : 0 ≤ (accE m s k).len ∧ (accE m s k).len ≤ s.len + 8192000000 := by
  have h := join_len (m.take k) s (fun f hf => hl f (List.mem_of_mem_take hf)) hs
  have h2 : (m.take k).length ≤ m.length := by rw [List.length_take]; omega
  unfold accE
  omega

/-- A part of a slice of extents, whatever its address. -/
theorem Exs.part {lo hi : Nat} {w : World} {A : Option Addr} {n c : Nat} {l : List Ex} (h : Exs lo hi w (.slice A n c) l) (i j : Nat) (hij : i ≤ j) (hj : j ≤ l.length) :
    ∃ A', sliced A i j c 2 = .slice A' (j - i) (c - i) ∧ Exs lo hi w (.slice A' (j - i) (c - i)) ((l.drop i).take (j - i)) := by
  obtain ⟨A', c', e, h1, h2, h3⟩ := h.open
  injection e with e1 e2 e3
  subst e1 e2 e3
  refine ⟨if c = i then A else A.map (·.add (i * 2)), rfl, ?_⟩
  have hlen : ((l.drop i).take (j - i)).length = j - i := by rw [List.length_take, List.length_drop]; omega
  rcases Nat.eq_or_lt_of_le hij with heq | hlt
  · have h0 : (l.drop i).take (j - i) = [] := by rw [← List.length_eq_zero_iff]; omega
    rw [h0]
    exact ⟨_, c - i, by rw [show j - i = 0 by omega]; rfl, by simp, by omega, fun h => absurd h (by simp), fun _ _ _ k hk => absurd hk (by simp)⟩
  · obtain ⟨b, off, rfl, _⟩ := h3 0 (by omega)
    rw [if_neg (by omega)]
    have hs := h.sub i j hij hj (c - i) (by omega) (by omega)
    have ha : (some (⟨b, off, none⟩ : Addr)).map (·.add (i * 2)) = some ⟨b, off + i * 2, none⟩ := by
      simp only [Option.map_some, Addr.add]
      split
      · rename_i h0
        have : i = 0 := by omega
        subst this; rfl
      · rfl
    rw [ha]
    exact hs

theorem elem22 : Try.prog.underlying 22 = some (.slice (Try.prog.elem 22)) := by kernel_rfl
theorem size26 : ∀ W, (sizeOf (Try.prog.elem 22)).run Try.prog W = .ok 2 W := fun W => by kernel_rfl

theorem slice_lh (A : Option Addr) (n c i j : Nat) (hij : i ≤ j) (hj : j ≤ c) (W : World) :
    (Instr.slice 22 (.slice A n c) (some (.int .i64 (i : Int))) (some (.int .i64 (j : Int))) none).run Try.prog W = .ok (sliced A i j c 2) W := by
  rw [run_slice_lh (P := Try.prog) W 22 A n c elem22 .i64 .i64 i j (by omega) (by omega) (by omega), size26]
  simp [Result.andThen]
theorem slice_h (A : Option Addr) (n c j : Nat) (hj : j ≤ c) (W : World) :
    (Instr.slice 22 (.slice A n c) none (some (.int .i64 (j : Int))) none).run Try.prog W = .ok (sliced A 0 j c 2) W := by
  rw [run_slice_h (P := Try.prog) W 22 A n c elem22 .i64 j (by omega) (by omega), size26]
  simp [Result.andThen]
theorem slice_l (A : Option Addr) (n c i : Nat) (hi : i ≤ n) (W : World) :
    (Instr.slice 22 (.slice A n c) (some (.int .i64 (i : Int))) none none).run Try.prog W = .ok (sliced A i n c 2) W := by
  rw [run_slice_l (P := Try.prog) W 22 A n c elem22 .i64 i (by omega) (by omega), size26]
  simp [Result.andThen]

theorem lists3 {W : World} {g g1 : Nat} {p q : List Ex} {S : Ex} {A0 A2 : Option Addr} {c0 c2 : Nat} (b0 : W.cell? ⟨g, 0, none⟩ = some (.slice A0 p.length c0)) (z0 : Exs 0 W.heap.size W (.slice A0 p.length c0) p)
    (b1 : W.cell? ⟨g, 1, none⟩ = some (.slice (some ⟨g1, 0, none⟩) 1 1)) (b3 : W.cell? ⟨g1, 0, none⟩ = some (.int .i64 S.at_)) (b4 : W.cell? ⟨g1, 1, none⟩ = some (.int .i64 S.len))
    (b2 : W.cell? ⟨g, 2, none⟩ = some (.slice A2 q.length c2)) (z2 : Exs 0 W.heap.size W (.slice A2 q.length c2) q) : Lists 0 W g [p, [S], q] := by
  intro k hk
  match k, hk with
  | 0, _ => exact ⟨A0, c0, b0, z0⟩
  | 1, _ =>
    refine ⟨some ⟨g1, 0, none⟩, 1, b1, Exs.make (l := [S]) (by simp) (by omega) (Nat.zero_le _) (World.block_lt_of_cell? W _ b3) fun k hk => ?_⟩
    obtain rfl : k = 0 := by simpa using hk
    exact ⟨by simpa using b3, by simpa using b4⟩
  | 2, _ => exact ⟨A2, c2, b2, z2⟩
theorem concat3 {W : World} {g : Nat} {p q : List Ex} {S : Ex} (h : Lists 0 W g [p, [S], q]) (hg : g < W.heap.size) (hn : p.length + (1 + q.length) ≤ 1000000) :
    Calls Try.prog 39 #[.slice (some ⟨g, 0, none⟩) 3 3] W fun e w' => ∃ A c, e = .returned (.slice A (p ++ S :: q).length c) ∧ Exs W.heap.size w'.heap.size w' (.slice A (p ++ S :: q).length c) (p ++ S :: q) ∧ Below W.heap.size W w' := by
  have hc : cat [p, [S], q] [p, [S], q].length = p ++ S :: q := by simp [cat]
  have hu : upto [p, [S], q] [p, [S], q].length = (p ++ S :: q).length := by rw [← upto_cat, hc]
  have hl : (p ++ S :: q).length = p.length + (1 + q.length) := by simp; omega
  have := concat_any 0 g [p, [S], q] W h hg (by simp) (by rw [hu, hl]; omega) (by rw [hu, hl]; exact hn)
  rw [hu, hc] at this
  exact this
end Go.Proofs.Yteokimebfbnlkaa
