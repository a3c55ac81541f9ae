namespace Go.Proofs.Yteokimebfbnlkaa

/-- An extent: where it is, how long. -/
structure Ex where
  at_ : Int
  len : Int

/-- Extents: how many sectors, and the free ones. -/
structure Xs where
  size : Int
  free : List Ex

theorem Ex.eq {f g : Ex} (h1 : f.at_ = g.at_) (h2 : f.len = g.len) : f = g := by
  cases f; cases g; simp_all

/-- The end of an extent. -/
def Ex.to (f : Ex) : Int := f.at_ + f.len
/-- Is a sector in an extent? -/
def inE (s : Ex) (i : Int) : Prop := s.at_ ≤ i ∧ i < s.at_ + s.len
/-- Is it one of so many sectors? -/
def isOfB (s : Ex) (size : Int) : Bool := decide (0 ≤ s.at_) && decide (1 ≤ s.len) && decide (s.at_ ≤ size - s.len)
theorem isOfB_iff {s : Ex} {size : Int} : isOfB s size = true ↔ 0 ≤ s.at_ ∧ 1 ≤ s.len ∧ s.at_ + s.len ≤ size := by
  simp [isOfB]; omega

/-- Does a list of extents rise, not touching, from behind 'last' on? -/
def okF (size : Int) : Int → List Ex → Bool
  | _, [] => true
  | last, f :: r => isOfB f size && decide (last < f.at_) && okF size (f.at_ + f.len) r
theorem okF_cons {size last : Int} {f : Ex} {r : List Ex} : okF size last (f :: r) = true ↔ (0 ≤ f.at_ ∧ 1 ≤ f.len ∧ f.at_ + f.len ≤ size) ∧ last < f.at_ ∧ okF size (f.at_ + f.len) r = true := by
  simp [okF, isOfB_iff, and_assoc]

/-- The end of the last one. -/
def lastE : Int → List Ex → Int
  | a, [] => a
  | _, f :: r => lastE (f.at_ + f.len) r
theorem okF_append {size a : Int} {p q : List Ex} : okF size a (p ++ q) = true ↔ okF size a p = true ∧ okF size (lastE a p) q = true := by
  induction p generalizing a with
  | nil => simp [okF, lastE]
  | cons f r ih => simp [okF_cons, lastE, ih, and_assoc]
theorem okF_mono {size a b : Int} {l : List Ex} (h : okF size a l = true) (hab : b ≤ a) : okF size b l = true := by
  cases l with
  | nil => rfl
  | cons f r => rw [okF_cons] at h ⊢; exact ⟨h.1, by omega, h.2.2⟩
theorem lastE_ge {size a : Int} {l : List Ex} (h : okF size a l = true) : a ≤ lastE a l := by
  induction l generalizing a with
  | nil => exact Int.le_refl _
  | cons f r ih =>
    rw [okF_cons] at h
    have := ih h.2.2
    simp only [lastE]; omega
theorem lastE_le {size a : Int} {l : List Ex} (h : okF size a l = true) (ha : a ≤ size) : lastE a l ≤ size := by
  induction l generalizing a with
  | nil => exact ha
  | cons f r ih =>
    rw [okF_cons] at h
    exact ih h.2.2 h.1.2.2

/-- Is a sector in one of them? -/
def mem (l : List Ex) (i : Int) : Prop := ∃ f ∈ l, inE f i
theorem mem_nil {i : Int} : ¬ mem [] i := by rintro ⟨f, h, _⟩; cases h
theorem mem_cons {f : Ex} {r : List Ex} {i : Int} : mem (f :: r) i ↔ inE f i ∨ mem r i := by
  simp [mem]
theorem mem_append {p q : List Ex} {i : Int} : mem (p ++ q) i ↔ mem p i ∨ mem q i := by
  induction p with
  | nil => simp [mem_nil]
  | cons f r ih => simp [mem_cons, ih, or_assoc]
theorem mem_low {size a : Int} {l : List Ex} (h : okF size a l = true) {i : Int} (hi : mem l i) : a < i := by
  induction l generalizing a with
  | nil => exact absurd hi mem_nil
  | cons f r ih =>
    rw [okF_cons] at h
    rcases mem_cons.1 hi with h1 | h1
    · unfold inE at h1; omega
    · have := ih h.2.2 h1; omega
theorem mem_hi {size a : Int} {l : List Ex} (h : okF size a l = true) {i : Int} (hi : mem l i) : 0 ≤ i ∧ i < size := by
  induction l generalizing a with
  | nil => exact absurd hi mem_nil
  | cons f r ih =>
    rw [okF_cons] at h
    rcases mem_cons.1 hi with h1 | h1
    · unfold inE at h1; omega
    · exact ih h.2.2 h1
theorem mem_last {size a : Int} {l : List Ex} (h : okF size a l = true) {i : Int} (hi : mem l i) : i < lastE a l := by
  induction l generalizing a with
  | nil => exact absurd hi mem_nil
  | cons f r ih =>
    rw [okF_cons] at h
    rcases mem_cons.1 hi with h1 | h1
    · have := lastE_ge h.2.2
      unfold inE at h1; simp only [lastE]; omega
    · exact ih h.2.2 h1
theorem okF_at {size a : Int} {p q : List Ex} {f : Ex} (h : okF size a (p ++ f :: q) = true) : okF size a p = true ∧ lastE a p < f.at_ ∧ 0 ≤ f.at_ ∧ 1 ≤ f.len ∧ f.at_ + f.len ≤ size ∧ okF size (f.at_ + f.len) q = true := by
  rw [okF_append, okF_cons] at h
  exact ⟨h.1, h.2.2.1, h.2.1.1, h.2.1.2.1, h.2.1.2.2, h.2.2.2⟩

/-- Two that may be, with the same sectors, are the same. -/
theorem okF_ext {size : Int} {l m : List Ex} : ∀ {a b : Int}, okF size a l = true → okF size b m = true → (∀ i, mem l i ↔ mem m i) → l = m := by
  induction l generalizing m with
  | nil =>
    intro a b _ hm h
    cases m with
    | nil => rfl
    | cons g s =>
      rw [okF_cons] at hm
      exact absurd ((h g.at_).2 (mem_cons.2 (.inl (by unfold inE; omega)))) mem_nil
  | cons f r ih =>
    intro a b hl hm h
    cases m with
    | nil =>
      rw [okF_cons] at hl
      exact absurd ((h f.at_).1 (mem_cons.2 (.inl (by unfold inE; omega)))) mem_nil
    | cons g s =>
      rw [okF_cons] at hl hm
      have f1 : ∀ i, mem r i → f.at_ + f.len < i := fun i hi => mem_low hl.2.2 hi
      have g1 : ∀ i, mem s i → g.at_ + g.len < i := fun i hi => mem_low hm.2.2 hi
      have e1 : f.at_ = g.at_ := by
        have h1 := (h f.at_).1 (mem_cons.2 (.inl (by unfold inE; omega)))
        have h2 := (h g.at_).2 (mem_cons.2 (.inl (by unfold inE; omega)))
        rw [mem_cons] at h1 h2
        have a1 : g.at_ ≤ f.at_ := by
          rcases h1 with h1 | h1
          · unfold inE at h1; omega
          · have := g1 _ h1; omega
        have a2 : f.at_ ≤ g.at_ := by
          rcases h2 with h2 | h2
          · unfold inE at h2; omega
          · have := f1 _ h2; omega
        omega
      have e2 : f.len = g.len := by
        rcases Int.lt_trichotomy f.len g.len with hlt | he | hlt
        · have h1 := (h (f.at_ + f.len)).2 (mem_cons.2 (.inl (by unfold inE; omega)))
          rw [mem_cons] at h1
          rcases h1 with h1 | h1
          · unfold inE at h1; omega
          · have := f1 _ h1; omega
        · exact he
        · have h1 := (h (g.at_ + g.len)).1 (mem_cons.2 (.inl (by unfold inE; omega)))
          rw [mem_cons] at h1
          rcases h1 with h1 | h1
          · unfold inE at h1; omega
          · have := g1 _ h1; omega
      have e3 := Ex.eq e1 e2
      subst e3
      congr 1
      refine ih hl.2.2 hm.2.2 fun i => ⟨fun hi => ?_, fun hi => ?_⟩
      · have h1 := (h i).1 (mem_cons.2 (.inr hi))
        have := f1 i hi
        rcases mem_cons.1 h1 with h2 | h2
        · unfold inE at h2; omega
        · exact h2
      · have h1 := (h i).2 (mem_cons.2 (.inr hi))
        have := g1 i hi
        rcases mem_cons.1 h1 with h2 | h2
        · unfold inE at h2; omega
        · exact h2

/-! ### cut -/
/-- One left piece, if it has sectors. -/
def piece (a n : Int) : List Ex := if 0 < n then [⟨a, n⟩] else []
/-- What is left of 'f' without 's'. -/
def pieces (f s : Ex) : List Ex := piece f.at_ (s.at_ - f.at_) ++ piece (s.at_ + s.len) (f.at_ + f.len - (s.at_ + s.len))
theorem mem_piece {a n i : Int} : mem (piece a n) i ↔ a ≤ i ∧ i < a + n := by
  unfold piece
  split
  · simp [mem_cons, mem_nil, inE]
  · constructor
    · intro h; exact absurd h mem_nil
    · intro h; omega
theorem mem_pieces {f s : Ex} {i : Int} (h1 : f.at_ ≤ s.at_) (h2 : s.at_ + s.len ≤ f.at_ + f.len) (h3 : 1 ≤ s.len) : mem (pieces f s) i ↔ inE f i ∧ ¬ inE s i := by
  unfold pieces inE
  rw [mem_append, mem_piece, mem_piece]
  omega
theorem okF_pieces {size a : Int} {f s : Ex} {q : List Ex} (h : okF size a (f :: q) = true) (h1 : f.at_ ≤ s.at_) (h2 : s.at_ + s.len ≤ f.at_ + f.len) (h3 : 1 ≤ s.len) : okF size a (pieces f s ++ q) = true := by
  rw [okF_cons] at h
  obtain ⟨⟨a1, a2, a3⟩, a4, a5⟩ := h
  unfold pieces piece
  split <;> split <;> simp only [List.nil_append, List.cons_append, okF_cons]
  · exact ⟨⟨by omega, by omega, by omega⟩, by omega, ⟨by omega, by omega, by omega⟩, by omega, okF_mono a5 (by omega)⟩
  · exact ⟨⟨by omega, by omega, by omega⟩, by omega, okF_mono a5 (by omega)⟩
  · exact ⟨⟨by omega, by omega, by omega⟩, by omega, okF_mono a5 (by omega)⟩
  · exact okF_mono a5 (by omega)
theorem cut_ok {size a : Int} {p q : List Ex} {f s : Ex} (h : okF size a (p ++ f :: q) = true) (h1 : f.at_ ≤ s.at_) (h2 : s.at_ + s.len ≤ f.at_ + f.len) (h3 : 1 ≤ s.len) :
    okF size a (p ++ (pieces f s ++ q)) = true ∧ ∀ i, mem (p ++ (pieces f s ++ q)) i ↔ mem (p ++ f :: q) i ∧ ¬ inE s i := by
  have hall := okF_at h
  refine ⟨?_, fun i => ?_⟩
  · rw [okF_append] at h ⊢
    exact ⟨h.1, okF_pieces h.2 h1 h2 h3⟩
  · obtain ⟨b1, b2, b3, b4, b5, b6⟩ := hall
    simp only [mem_append, mem_cons, mem_pieces h1 h2 h3]
    constructor
    · rintro (hp | hf | hq)
      · have := mem_last b1 hp
        exact ⟨.inl hp, by unfold inE; omega⟩
      · exact ⟨.inr (.inl hf.1), hf.2⟩
      · have := mem_low b6 hq
        exact ⟨.inr (.inr hq), by unfold inE; omega⟩
    · rintro ⟨hp | hf | hq, hn⟩
      · exact .inl hp
      · exact .inr (.inl ⟨hf, hn⟩)
      · exact .inr (.inr hq)

/-- 's' is free as a whole just if it lies in one of them. -/
theorem within {size a : Int} {l : List Ex} {s : Ex} (h : okF size a l = true) (h3 : 1 ≤ s.len) :
    (∃ f ∈ l, f.at_ ≤ s.at_ ∧ s.at_ + s.len ≤ f.at_ + f.len) ↔ ∀ i, inE s i → mem l i := by
  constructor
  · rintro ⟨f, hf, a1, a2⟩ i hi
    exact ⟨f, hf, by unfold inE at hi ⊢; omega⟩
  · intro hall
    induction l generalizing a with
    | nil => exact absurd (hall s.at_ (by unfold inE; omega)) mem_nil
    | cons f r ih =>
      rw [okF_cons] at h
      obtain ⟨⟨a1, a2, a3⟩, a4, a5⟩ := h
      by_cases hs : f.at_ ≤ s.at_ ∧ s.at_ < f.at_ + f.len
      · refine ⟨f, List.mem_cons_self, hs.1, ?_⟩
        rcases Int.lt_or_le (f.at_ + f.len) (s.at_ + s.len) with hlt | hle
        · rcases mem_cons.1 (hall (f.at_ + f.len) (by unfold inE; omega)) with h1 | h1
          · unfold inE at h1; omega
          · have := mem_low a5 h1; omega
        · exact hle
      · rcases mem_cons.1 (hall s.at_ (by unfold inE; omega)) with h1 | h1
        · unfold inE at h1; omega
        · have hlow := mem_low a5 h1
          obtain ⟨g, hg, b1, b2⟩ := ih a5 fun i hi => by
            rcases mem_cons.1 (hall i hi) with h2 | h2
            · unfold inE at h2 hi; omega
            · exact h2
          exact ⟨g, List.mem_cons_of_mem _ hg, b1, b2⟩

/-! ### give -/
/-- Two that touch, as one. -/
def joinE (a b : Ex) : Ex := ⟨if b.at_ < a.at_ then b.at_ else a.at_, a.len + b.len⟩
/-- Behind the ones that end ahead of 's', those that touch it, and those behind it. -/
theorem give_ok {size a : Int} {p m q : List Ex} {s : Ex} (h : okF size a (p ++ (m ++ q)) = true) (ha : a ≤ -1) (hs : 0 ≤ s.at_ ∧ 1 ≤ s.len ∧ s.at_ + s.len ≤ size)
    (hfree : ∀ f ∈ p ++ (m ++ q), ¬ (f.at_ < s.at_ + s.len ∧ s.at_ < f.at_ + f.len))
    (hp : ∀ f ∈ p, f.at_ + f.len < s.at_) (hm : ∀ f ∈ m, s.at_ ≤ f.at_ + f.len ∧ f.at_ ≤ s.at_ + s.len) (hq : ∀ f ∈ q, s.at_ + s.len < f.at_) :
    okF size a (p ++ m.foldl joinE s :: q) = true ∧ (∀ i, mem (p ++ m.foldl joinE s :: q) i ↔ mem (p ++ (m ++ q)) i ∨ inE s i) := by
  have hlast : ∀ (b : Int) (l : List Ex), b < s.at_ → (∀ f ∈ l, f.at_ + f.len < s.at_) → lastE b l < s.at_ := by
    intro b l
    induction l generalizing b with
    | nil => intro hb _; exact hb
    | cons f r ih =>
      intro _ hl
      exact ih _ (hl f List.mem_cons_self) fun g hg => hl g (List.mem_cons_of_mem _ hg)
  have hq' : ∀ b, okF size b q = true → ∀ c, c ≤ s.at_ + s.len → okF size c q = true := by
    intro b hb c hc
    cases q with
    | nil => rfl
    | cons g r =>
      have := hq g List.mem_cons_self
      rw [okF_cons] at hb ⊢
      exact ⟨hb.1, by omega, hb.2.2⟩
  rw [okF_append] at h
  have hl := hlast a p (by omega) hp
  generalize hL : lastE a p = L at *
  obtain ⟨hpp, hmq⟩ := h
  suffices hsuff : okF size L (m.foldl joinE s :: q) = true ∧ ∀ i, mem (m.foldl joinE s :: q) i ↔ mem (m ++ q) i ∨ inE s i by
    refine ⟨by rw [okF_append, hL]; exact ⟨hpp, hsuff.1⟩, fun i => ?_⟩
    rw [mem_append, mem_append, hsuff.2 i, or_assoc]
  have hfm : ∀ f ∈ m, f.at_ + f.len = s.at_ ∨ f.at_ = s.at_ + s.len := fun f hf => by
    have h1 := hm f hf
    have h2 := hfree f (by simp [hf])
    omega
  rcases m with _ | ⟨f, _ | ⟨g, _ | ⟨k, r⟩⟩⟩
  · refine ⟨?_, fun i => ?_⟩
    · rw [List.foldl_nil, okF_cons]
      exact ⟨hs, hl, hq' _ hmq _ (Int.le_refl _)⟩
    · simp only [List.foldl_nil, List.nil_append, mem_cons]
      exact or_comm
  · have f1 := hfm f (by simp)
    simp only [List.cons_append, List.nil_append, okF_cons] at hmq
    obtain ⟨⟨b1, b2, b3⟩, b4, b5⟩ := hmq
    refine ⟨?_, fun i => ?_⟩
    · simp only [List.foldl_cons, List.foldl_nil, okF_cons, joinE]
      rcases f1 with f1 | f1
      · rw [if_pos (by omega)]
        exact ⟨⟨by omega, by omega, by omega⟩, by omega, hq' _ b5 _ (by omega)⟩
      · rw [if_neg (by omega)]
        exact ⟨⟨by omega, by omega, by omega⟩, by omega, okF_mono b5 (by omega)⟩
    · simp only [List.foldl_cons, List.foldl_nil, List.cons_append, List.nil_append, mem_cons, joinE, inE]
      rcases f1 with f1 | f1
      · rw [if_pos (by omega)]
        by_cases hqi : mem q i
        · simp [hqi]
        · simp only [hqi, or_false]; omega
      · rw [if_neg (by omega)]
        by_cases hqi : mem q i
        · simp [hqi]
        · simp only [hqi, or_false]; omega
  · have f1 := hfm f (by simp)
    have g1 := hfm g (by simp)
    simp only [List.cons_append, List.nil_append, okF_cons] at hmq
    obtain ⟨⟨b1, b2, b3⟩, b4, ⟨c1, c2, c3⟩, c4, c5⟩ := hmq
    have f2 : f.at_ + f.len = s.at_ := by omega
    have g2 : g.at_ = s.at_ + s.len := by omega
    refine ⟨?_, fun i => ?_⟩
    · simp only [List.foldl_cons, List.foldl_nil, okF_cons, joinE]
      rw [if_pos (show f.at_ < s.at_ by omega), if_neg (show ¬ g.at_ < f.at_ by omega)]
      exact ⟨⟨by omega, by omega, by omega⟩, by omega, okF_mono c5 (by omega)⟩
    · simp only [List.foldl_cons, List.foldl_nil, List.cons_append, List.nil_append, mem_cons, joinE, inE]
      rw [if_pos (show f.at_ < s.at_ by omega), if_neg (show ¬ g.at_ < f.at_ by omega)]
      by_cases hqi : mem q i
      · simp [hqi]
      · simp only [hqi, or_false]; omega
  · have f1 := hfm f (by simp)
    have g1 := hfm g (by simp)
    have k1 := hfm k (by simp)
    simp only [List.cons_append, okF_cons] at hmq
    omega
end Go.Proofs.Yteokimebfbnlkaa
