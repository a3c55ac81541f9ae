import Derived.Test.YtkgfmiicfegnlaaS0
namespace Go.Proofs.Ytkgfmiicfegnlaa

/-- Half the places are searched for the first one's place: those ahead of 'x' are below what stands at 'p', those from 'y' on not. -/
structure BF (d : Array Fl) (p s e x y : Nat) : Prop where
  lo : ∀ k, s ≤ k → k < x → ky d k < ky d p
  hi : ∀ k, y ≤ k → k < e → ky d p ≤ ky d k
theorem BF.start (d : Array Fl) (p s e : Nat) : BF d p s e s e := ⟨fun k h1 h2 => by omega, fun k h1 h2 => by omega⟩
theorem BF.up {d : Array Fl} {p s e x y h : Nat} (b : BF d p s e x y) (hs : Srt d s e) (h2 : h < e) (hk : ky d h < ky d p) : BF d p s e (h + 1) y :=
  ⟨fun k g1 g2 => by
    rcases Nat.lt_or_ge k h with g3 | g3
    · exact Nat.lt_of_le_of_lt (hs k h g1 g3 h2) hk
    · rw [show k = h by omega]; exact hk, b.hi⟩
theorem BF.down {d : Array Fl} {p s e x y h : Nat} (b : BF d p s e x y) (hs : Srt d s e) (h1 : s ≤ h) (hk : ky d p ≤ ky d h) : BF d p s e x h :=
  ⟨b.lo, fun k g1 g2 => by
    rcases Nat.lt_or_ge h k with g3 | g3
    · exact Nat.le_trans hk (hs h k h1 g3 g2)
    · rw [show k = h by omega]; exact hk⟩
/-- .. for the last one's: those ahead of 'x' are not above it, those from 'y' on are. -/
structure BL (d : Array Fl) (p s e x y : Nat) : Prop where
  lo : ∀ k, s ≤ k → k < x → ky d k ≤ ky d p
  hi : ∀ k, y ≤ k → k < e → ky d p < ky d k
theorem BL.start (d : Array Fl) (p s e : Nat) : BL d p s e s e := ⟨fun k h1 h2 => by omega, fun k h1 h2 => by omega⟩
theorem BL.up {d : Array Fl} {p s e x y h : Nat} (b : BL d p s e x y) (hs : Srt d s e) (h2 : h < e) (hk : ky d h ≤ ky d p) : BL d p s e (h + 1) y :=
  ⟨fun k g1 g2 => by
    rcases Nat.lt_or_ge k h with g3 | g3
    · exact Nat.le_trans (hs k h g1 g3 h2) hk
    · rw [show k = h by omega]; exact hk, b.hi⟩
theorem BL.down {d : Array Fl} {p s e x y h : Nat} (b : BL d p s e x y) (hs : Srt d s e) (h1 : s ≤ h) (hk : ky d p < ky d h) : BL d p s e x h :=
  ⟨b.lo, fun k g1 g2 => by
    rcases Nat.lt_or_ge h k with g3 | g3
    · exact Nat.lt_of_lt_of_le hk (hs h k h1 g3 g2)
    · rw [show k = h by omega]; exact hk⟩
/-- What stood at 'a' has come to 'k', what was between one place ahead. -/
def pfI (a k q : Nat) : Nat := if a ≤ q ∧ q < k then q + 1 else if q = k then a else q
def plI (k m q : Nat) : Nat := if k < q ∧ q ≤ m then q - 1 else if q = k then m else q
theorem pf_start (d : Array Fl) (a : Nat) : By (pfI a a) d d := ⟨rfl, .refl _, fun q => by congr 1; unfold pfI; (repeat' split) <;> omega⟩
theorem pl_start (d : Array Fl) (m : Nat) : By (plI m m) d d := ⟨rfl, .refl _, fun q => by congr 1; unfold plI; (repeat' split) <;> omega⟩
theorem pf_step {d e : Array Fl} {a k : Nat} (h : By (pfI a k) d e) (ha : a ≤ k) (hk : k + 1 < d.size) : By (pfI a (k + 1)) d (swp e k (k + 1)) := by
  have hl := h.len
  refine ⟨(swp_len _ _ _).trans h.len, (swp_perm (by omega) (by omega)).trans h.perm, fun q => ?_⟩
  rw [nt_swp (by omega) (by omega), h.at_, h.at_, h.at_]
  unfold pfI
  by_cases h1 : q = k + 1
  · rw [if_pos h1]; congr 1; (repeat' split) <;> omega
  · rw [if_neg h1]
    by_cases h2 : q = k
    · rw [if_pos h2]; congr 1; (repeat' split) <;> omega
    · rw [if_neg h2]; congr 1; (repeat' split) <;> omega
theorem pl_step {d e : Array Fl} {k m : Nat} (h : By (plI k m) d e) (hk : k ≤ m) (h0 : 0 < k) (hm : m < d.size) : By (plI (k - 1) m) d (swp e k (k - 1)) := by
  have hl := h.len
  refine ⟨(swp_len _ _ _).trans h.len, (swp_perm (by omega) (by omega)).trans h.perm, fun q => ?_⟩
  rw [nt_swp (by omega) (by omega), h.at_, h.at_, h.at_]
  unfold plI
  by_cases h1 : q = k - 1
  · rw [if_pos h1]; congr 1; (repeat' split) <;> omega
  · rw [if_neg h1]
    by_cases h2 : q = k
    · rw [if_pos h2]; congr 1; (repeat' split) <;> omega
    · rw [if_neg h2]; congr 1; (repeat' split) <;> omega
theorem pf_done {d e : Array Fl} {a b i : Nat} (hab : a < b) (hbd : b ≤ d.size) (hs : Srt d (a + 1) b) (h1 : a + 1 ≤ i) (h2 : i ≤ b) (hb : BF d a (a + 1) b i i) (he : By (pfI a (i - 1)) d e) : Mix a b d e ∧ Srt e a b :=
  put_first hab hs h1 h2 hbd (fun k g1 g2 => hb.lo k (by omega) g2) hb.hi he
theorem pl_done {d e : Array Fl} {a m i : Nat} (ham : a ≤ m) (hbd : m < d.size) (hs : Srt d a m) (h1 : a ≤ i) (h2 : i ≤ m) (hb : BL d m a m i i) (he : By (plI i m) d e) : Mix a (m + 1) d e ∧ Srt e a (m + 1) :=
  put_last ham hs h1 h2 hbd hb.lo hb.hi he
/-- Where two halves are turned about: what is sought, and what is known of the places from 's0' to 'r0'. -/
structure SM (d : Array Fl) (nn s0 r0 x y : Nat) : Prop where
  lo : x = s0 ∨ ky d (x - 1) ≤ ky d (nn - x)
  hi : y = r0 ∨ ky d (nn - 1 - y) < ky d y
theorem SM.start (d : Array Fl) (nn s0 r0 : Nat) : SM d nn s0 r0 s0 r0 := ⟨.inl rfl, .inl rfl⟩
theorem SM.up {d : Array Fl} {nn s0 r0 x y c : Nat} (h : SM d nn s0 r0 x y) (hk : ky d c ≤ ky d (nn - 1 - c)) : SM d nn s0 r0 (c + 1) y :=
  ⟨.inr (by rw [show c + 1 - 1 = c by omega, show nn - (c + 1) = nn - 1 - c by omega]; exact hk), h.hi⟩
theorem SM.down {d : Array Fl} {nn s0 r0 x y c : Nat} (h : SM d nn s0 r0 x y) (hk : ky d (nn - 1 - c) < ky d c) : SM d nn s0 r0 x c := ⟨h.lo, .inr hk⟩
/-- From where, and to where, halves are turned about. -/
def Ends (a m b mid s0 r0 : Nat) : Prop := (mid < m ∧ s0 = mid + m - b ∧ r0 = mid) ∨ (m ≤ mid ∧ s0 = a ∧ r0 = m)
theorem merge_all {d e f g : Array Fl} {a m b mid s0 r0 s : Nat} (hbd : b ≤ d.size) (hE : Ends a m b mid s0 r0) (ham : a < m) (hmb : m < b) (hm : mid = (a + b) / 2) (h1 : Srt d a m) (h2 : Srt d m b)
    (hs0 : s0 ≤ s) (hr0 : s ≤ r0) (h : SM d (mid + m) s0 r0 s s) (he : By (roI s m (mid + m - s)) d e) (m1 : Mix a mid e f) (s1 : Srt f a mid) (m2 : Mix mid b f g) (s2 : Srt g mid b) : Mix a b d g ∧ Srt g a b := by
  unfold Ends at hE
  refine merge_ok (mid := mid) (s := s) (t := mid + m - s) (by omega) (by omega) h1 h2 (by omega) (by omega) (by omega) (by omega) (by omega) ?_ hbd ?_ he m1 s1 m2 s2
  · rcases h.lo with h | h
    · rcases hE with ⟨_, e1, e2⟩ | ⟨_, e1, e2⟩ <;> omega
    · exact .inr (.inr h)
  · rcases h.hi with h | h
    · rcases hE with ⟨_, e1, e2⟩ | ⟨_, e1, e2⟩ <;> omega
    · exact .inr (.inr (by rwa [show mid + m - 1 - s = mid + m - s - 1 by omega] at h))
theorem ends_lo {d e : Array Fl} {a m b mid s0 r0 s : Nat} (hE : Ends a m b mid s0 r0) (ham : a < m) (hmb : m < b) (hm : mid = (a + b) / 2) (h1 : Srt d a m) (h2 : Srt d m b) (hs0 : s0 ≤ s) (hr0 : s ≤ r0)
    (he : By (roI s m (mid + m - s)) d e) (h : ¬ (a < s ∧ s < mid)) : Srt e a mid := by
  unfold Ends at hE
  exact half_lo (mid := mid) (s := s) (t := mid + m - s) h1 h2 (by omega) (by omega) (by omega) (by omega) he (by omega)
theorem ends_hi {d e : Array Fl} {a m b mid s0 r0 s : Nat} (hE : Ends a m b mid s0 r0) (ham : a < m) (hmb : m < b) (hm : mid = (a + b) / 2) (h1 : Srt d a m) (h2 : Srt d m b) (hs0 : s0 ≤ s) (hr0 : s ≤ r0)
    (he : By (roI s m (mid + m - s)) d e) (h : ¬ (mid < mid + m - s ∧ mid + m - s < b)) : Srt e mid b := by
  unfold Ends at hE
  exact half_hi (mid := mid) (s := s) (t := mid + m - s) h1 h2 (by omega) (by omega) (by omega) he (by omega)
theorem half_self {d e : Array Fl} {a m b mid s0 r0 s : Nat} (hE : Ends a m b mid s0 r0) (ham : a < m) (hmb : m < b) (hm : mid = (a + b) / 2) (hr0 : s ≤ r0) (h : ¬ (s < m ∧ m < mid + m - s)) (q : d = e) : By (roI s m (mid + m - s)) d e := by
  subst q
  unfold Ends at hE
  exact By.none d (by omega) (by omega) (by omega)
end Go.Proofs.Ytkgfmiicfegnlaa
