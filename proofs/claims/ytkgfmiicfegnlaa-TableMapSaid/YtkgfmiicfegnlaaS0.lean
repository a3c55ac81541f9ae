import Derived.Test.YtkgfmiicfegnlaaA2
import Derived.Sort.Lot0
import Derived.Sort.LotA
namespace Go.Proofs.Ytkgfmiicfegnlaa

/-- The greatest rank first. -/
def rkey (f : Fl) : Nat := 18446744073709551615 - keyF f.rk
def nt (d : Array Fl) (i : Nat) : Fl := d[i]!
def ky (d : Array Fl) (i : Nat) : Nat := rkey (nt d i)
def swp (d : Array Fl) (i j : Nat) : Array Fl := (d.setIfInBounds i (nt d j)).setIfInBounds j (nt d i)
theorem nt_get {d : Array Fl} {i : Nat} (h : i < d.size) : nt d i = d[i] := by unfold nt; exact getElem!_pos d i h
theorem swp_len (d : Array Fl) (i j : Nat) : (swp d i j).size = d.size := by unfold swp; simp
theorem swp_perm {d : Array Fl} {i j : Nat} (hi : i < d.size) (hj : j < d.size) : (swp d i j).toList.Perm d.toList := by
  unfold swp
  rw [nt_get hi, nt_get hj, Array.toList_setIfInBounds, Array.toList_setIfInBounds]
  have := List.set_set_perm (as := d.toList) (i := i) (j := j) (by simpa using hi) (by simpa using hj)
  simpa using this
theorem nt_swp {d : Array Fl} {i j : Nat} (hi : i < d.size) (hj : j < d.size) (k : Nat) : nt (swp d i j) k = if k = j then nt d i else if k = i then nt d j else nt d k := by
  unfold swp nt
  simp only [getElem!_def, Array.getElem?_setIfInBounds, Array.size_setIfInBounds]
  by_cases h1 : k = j
  · subst h1; simp [hj]
  · by_cases h2 : k = i
    · subst h2; simp [h1, hi, Ne.symm h1]
    · simp [h1, h2, Ne.symm h1, Ne.symm h2]
/-- Those of one rank stand as their names do. -/
def Stb (d : Array Fl) : Prop := ∀ i j, i < j → j < d.size → ky d i = ky d j → ltN (nt d i).nm (nt d j).nm = true

/-- The places from 'a' and below 'b' go up. -/
def Srt (d : Array Fl) (a b : Nat) : Prop := ∀ i j, a ≤ i → i < j → j < b → ky d i ≤ ky d j
/-- The places from 'a' and below 'b' are mixed, no other. -/
structure Mix (a b : Nat) (d d' : Array Fl) : Prop where
  len : d'.size = d.size
  perm : d'.toList.Perm d.toList
  out : ∀ k, k < a ∨ b ≤ k → nt d' k = nt d k
  ins : ∀ k, a ≤ k → k < b → ∃ k', a ≤ k' ∧ k' < b ∧ nt d' k = nt d k'
  stb : Stb d → Stb d'
theorem Mix.refl (a b : Nat) (d : Array Fl) : Mix a b d d := ⟨rfl, .refl _, fun _ _ => rfl, fun k h h' => ⟨k, h, h', rfl⟩, fun h => h⟩
theorem Mix.trans {a b : Nat} {d e f : Array Fl} (h : Mix a b d e) (h' : Mix a b e f) : Mix a b d f :=
  ⟨h'.len.trans h.len, h'.perm.trans h.perm, fun k hk => (h'.out k hk).trans (h.out k hk), fun k h1 h2 => by
    obtain ⟨k', a1, a2, a3⟩ := h'.ins k h1 h2
    obtain ⟨k'', b1, b2, b3⟩ := h.ins k' a1 a2
    exact ⟨k'', b1, b2, a3.trans b3⟩, fun hs => h'.stb (h.stb hs)⟩
theorem Mix.wide {a b a' b' : Nat} {d e : Array Fl} (h : Mix a b d e) (h1 : a' ≤ a) (h2 : b ≤ b') : Mix a' b' d e :=
  ⟨h.len, h.perm, fun k hk => h.out k (by omega), fun k g1 g2 => by
    by_cases hk : a ≤ k ∧ k < b
    · obtain ⟨k', a1, a2, a3⟩ := h.ins k hk.1 hk.2
      exact ⟨k', by omega, by omega, a3⟩
    · exact ⟨k, g1, g2, h.out k (by omega)⟩, h.stb⟩
/-- What has each place's thing from place 'p': stable, if only things of other keys have changed their order. -/
theorem stb_by {p : Nat → Nat} {d e : Array Fl} (hl : e.size = d.size) (ha : ∀ k, nt e k = nt d (p k)) (hp : ∀ i j, i < j → j < d.size → (p i < p j ∧ p j < d.size) ∨ ky d (p i) ≠ ky d (p j)) (h : Stb d) : Stb e := fun i j hij hj hk => by
  rw [hl] at hj
  unfold ky at hk
  rw [ha, ha] at hk ⊢
  rcases hp i j hij hj with ⟨h1, h2⟩ | h1
  · exact h _ _ h1 h2 hk
  · exact absurd hk h1
theorem Mix.swp {a b : Nat} {d : Array Fl} {i : Nat} (hi : i + 1 < d.size) (h1 : a ≤ i) (h4 : i + 1 < b) (hlt : ky d (i + 1) < ky d i) : Mix a b d (swp d (i + 1) i) :=
  ⟨swp_len d _ _, swp_perm hi (by omega), fun k hk => by rw [nt_swp hi (by omega), if_neg (by omega), if_neg (by omega)], fun k g1 g2 => by
    rw [nt_swp hi (by omega)]
    split
    · exact ⟨i + 1, by omega, h4, rfl⟩
    · split
      · exact ⟨i, h1, by omega, rfl⟩
      · exact ⟨k, g1, g2, rfl⟩,
   stb_by (p := fun k => if k = i then i + 1 else if k = i + 1 then i else k) (swp_len d _ _) (fun k => by rw [nt_swp hi (by omega)]; (repeat' split) <;> rfl) (fun x y hxy hy => by
     by_cases e1 : x = i ∧ y = i + 1
     · obtain ⟨rfl, rfl⟩ := e1
       right
       rw [if_pos rfl, if_neg (by omega), if_pos rfl]; omega
     · left
       constructor
       · (repeat' split) <;> omega
       · (repeat' split) <;> omega)⟩
theorem Srt.out {a b x y : Nat} {d e : Array Fl} (h : Srt d x y) (hm : Mix a b d e) (ho : y ≤ a ∨ b ≤ x) : Srt e x y := fun i j h1 h2 h3 => by
  unfold ky
  rw [hm.out i (by omega), hm.out j (by omega)]
  exact h i j h1 h2 h3
theorem Srt.sub {d : Array Fl} {a b x y : Nat} (h : Srt d a b) (h1 : a ≤ x) (h2 : y ≤ b) : Srt d x y := fun i j g1 g2 g3 => h i j (by omega) g2 (by omega)
theorem Srt.short (d : Array Fl) {a b : Nat} (h : b ≤ a + 1) : Srt d a b := fun i j h1 h2 h3 => by omega

/-! ### insertion -/
/-- All from 'a' and below 'i + 1' goes up but for what stands at 'j', which is ahead of what is behind it. -/
structure Ins (a i j : Nat) (d : Array Fl) : Prop where
  rest : ∀ p q, a ≤ p → p < q → q < i + 1 → p ≠ j → q ≠ j → ky d p ≤ ky d q
  ahead : ∀ q, j < q → q < i + 1 → ky d j ≤ ky d q
theorem Ins.start {a i : Nat} {d : Array Fl} (h : Srt d a i) : Ins a i i d := ⟨fun p q h1 h2 h3 h4 h5 => h p q h1 h2 (by omega), fun q h1 h2 => by omega⟩
theorem Ins.done {a i j : Nat} {d : Array Fl} (h : Ins a i j d) (hj : j ≤ i) (ha : a ≤ j) (hd : j = a ∨ ky d (j - 1) ≤ ky d j) : Srt d a (i + 1) := fun p q h1 h2 h3 => by
  by_cases hq : q = j
  · subst hq
    rcases hd with hd | hd
    · omega
    · by_cases hp : p = q - 1
      · subst hp; exact hd
      · exact Nat.le_trans (h.rest p (q - 1) h1 (by omega) (by omega) (by omega) (by omega)) hd
  · by_cases hp : p = j
    · subst hp; exact h.ahead q h2 h3
    · exact h.rest p q h1 h2 h3 hp hq
theorem Ins.step {a i j : Nat} {d : Array Fl} (h : Ins a i j d) (ha : a < j) (hj : j ≤ i) (hi : i < d.size) (hlt : ky d j < ky d (j - 1)) : Ins a i (j - 1) (swp d j (j - 1)) := by
  have e : ∀ k, ky (swp d j (j - 1)) k = if k = j - 1 then ky d j else if k = j then ky d (j - 1) else ky d k := fun k => by
    unfold ky; rw [nt_swp (by omega) (by omega)]; split; (· rfl); split <;> rfl
  constructor
  · intro p q h1 h2 h3 h4 h5
    rw [e, e, if_neg h4, if_neg h5]
    by_cases hp : p = j
    · rw [if_pos hp, if_neg (by omega)]
      exact h.rest (j - 1) q (by omega) (by omega) h3 (by omega) (by omega)
    · rw [if_neg hp]
      by_cases hq : q = j
      · rw [if_pos hq]; exact h.rest p (j - 1) h1 (by omega) (by omega) (by omega) (by omega)
      · rw [if_neg hq]; exact h.rest p q h1 h2 h3 hp hq
  · intro q h1 h2
    rw [e, e, if_pos rfl, if_neg (by omega)]
    by_cases hq : q = j
    · rw [if_pos hq]; omega
    · rw [if_neg hq]; exact h.ahead q (by omega) h2

/-! ### blocks swapped, turned about -/
def swI (a b n k : Nat) : Nat := if a ≤ k ∧ k < a + n then k - a + b else if b ≤ k ∧ k < b + n then k - b + a else k
def roI (a m b k : Nat) : Nat := if a ≤ k ∧ k < a + (b - m) then k - a + m else if a + (b - m) ≤ k ∧ k < b then k - (b - m) else k
/-- 'd'' has at each place what 'd' has at place 'p' of it. -/
structure By (p : Nat → Nat) (d d' : Array Fl) : Prop where
  len : d'.size = d.size
  perm : d'.toList.Perm d.toList
  at_ : ∀ k, nt d' k = nt d (p k)
theorem By.id (d : Array Fl) (a b : Nat) : By (swI a b 0) d d := ⟨rfl, .refl _, fun k => by unfold swI; rw [if_neg (by omega), if_neg (by omega)]⟩
theorem By.swap_step {a b n : Nat} {d e : Array Fl} (h : By (swI a b n) d e) (hab : a + n < b) (hl : b + n < d.size) : By (swI a b (n + 1)) d (swp e (a + n) (b + n)) := by
  have hl' := h.len
  refine ⟨(swp_len _ _ _).trans h.len, (swp_perm (by omega) (by omega)).trans h.perm, fun k => ?_⟩
  rw [nt_swp (by omega) (by omega), h.at_, h.at_, h.at_]
  unfold swI
  by_cases h1 : k = b + n
  · rw [if_pos h1]; congr 1; (repeat' split) <;> omega
  · rw [if_neg h1]
    by_cases h2 : k = a + n
    · rw [if_pos h2]; congr 1; (repeat' split) <;> omega
    · rw [if_neg h2]; congr 1; (repeat' split) <;> omega
/-- What is left to turn about: 'd' turned about so is 'd0' turned about. -/
structure Left (a m b i j : Nat) (d0 d : Array Fl) : Prop where
  len : d.size = d0.size
  perm : d.toList.Perm d0.toList
  at_ : ∀ k, nt d (roI (m - i) m (m + j) k) = nt d0 (roI a m b k)
theorem Left.start (a m b : Nat) (d : Array Fl) (h1 : a ≤ m) (h2 : m ≤ b) : Left a m b (m - a) (b - m) d d :=
  ⟨rfl, .refl _, fun k => by rw [show m - (m - a) = a by omega, show m + (b - m) = b by omega]⟩
theorem roI_gt {m i j k : Nat} (h : j < i) (hi : i ≤ m) : swI (m - i) m j (roI (m - (i - j)) m (m + j) k) = roI (m - i) m (m + j) k := by
  unfold swI roI
  repeat' split
  all_goals omega
theorem roI_lt {m i j k : Nat} (h : i < j) (hi : i ≤ m) : swI (m - i) (m + j - i) i (roI (m - i) m (m + (j - i)) k) = roI (m - i) m (m + j) k := by
  unfold swI roI
  repeat' split
  all_goals omega
theorem roI_eq {m i k : Nat} (hi : i ≤ m) : swI (m - i) m i k = roI (m - i) m (m + i) k := by
  unfold swI roI
  repeat' split
  all_goals omega
theorem Left.gt {a m b i j : Nat} {d0 d e : Array Fl} (h : Left a m b i j d0 d) (hs : By (swI (m - i) m j) d e) (hij : j < i) (hi : i ≤ m) : Left a m b (i - j) j d0 e :=
  ⟨hs.len.trans h.len, hs.perm.trans h.perm, fun k => by rw [hs.at_, roI_gt hij hi, h.at_]⟩
theorem Left.lt {a m b i j : Nat} {d0 d e : Array Fl} (h : Left a m b i j d0 d) (hs : By (swI (m - i) (m + j - i) i) d e) (hij : i < j) (hi : i ≤ m) : Left a m b i (j - i) d0 e :=
  ⟨hs.len.trans h.len, hs.perm.trans h.perm, fun k => by rw [hs.at_, roI_lt hij hi, h.at_]⟩
theorem Left.eq {a m b i : Nat} {d0 d e : Array Fl} (h : Left a m b i i d0 d) (hs : By (swI (m - i) m i) d e) (hi : i ≤ m) : By (roI a m b) d0 e :=
  ⟨hs.len.trans h.len, hs.perm.trans h.perm, fun k => by rw [hs.at_, roI_eq hi, h.at_]⟩
theorem By.none {a m b : Nat} (d : Array Fl) (h : a = m ∨ m = b) (h1 : a ≤ m) (h2 : m ≤ b) : By (roI a m b) d d := ⟨rfl, .refl _, fun k => by
  congr 1; unfold roI; repeat' split
  all_goals omega⟩
theorem By.mix {a m b : Nat} {d e : Array Fl} (h : By (roI a m b) d e) (h1 : a ≤ m) (h2 : m ≤ b) (hst : Stb d → Stb e) : Mix a b d e :=
  ⟨h.len, h.perm, fun k hk => by rw [h.at_]; congr 1; unfold roI; (repeat' split) <;> omega, fun k g1 g2 => ⟨roI a m b k, by unfold roI; (repeat' split) <;> omega, by unfold roI; (repeat' split) <;> omega, h.at_ k⟩, hst⟩
/-- Two blocks are turned about, whose keys all differ. -/
theorem ro_stb {a m b : Nat} {d e : Array Fl} (h : By (roI a m b) d e) (h1 : a ≤ m) (h2 : m ≤ b) (hb : b ≤ d.size) (hk : ∀ x y, a ≤ x → x < m → m ≤ y → y < b → ky d y < ky d x) : Stb d → Stb e :=
  stb_by h.len h.at_ (fun i j hij hj => by
    have e1 : roI a m b i = if a ≤ i ∧ i < a + (b - m) then i - a + m else if a + (b - m) ≤ i ∧ i < b then i - (b - m) else i := rfl
    have e2 : roI a m b j = if a ≤ j ∧ j < a + (b - m) then j - a + m else if a + (b - m) ≤ j ∧ j < b then j - (b - m) else j := rfl
    by_cases c : (a ≤ i ∧ i < a + (b - m)) ∧ (a + (b - m) ≤ j ∧ j < b)
    · right
      have := hk (roI a m b j) (roI a m b i) (by rw [e2]; (repeat' split) <;> omega) (by rw [e2]; (repeat' split) <;> omega) (by rw [e1]; (repeat' split) <;> omega) (by rw [e1]; (repeat' split) <;> omega)
      omega
    · left
      rw [e1, e2]
      constructor
      · (repeat' split) <;> omega
      · (repeat' split) <;> omega)

/-! ### merging -/
/-- One thing put to its place: it was at 'a', all ahead of place 'i' of the rest is below it. -/
theorem put_first {d : Array Fl} {a b i : Nat} (hab : a < b) (hs : Srt d (a + 1) b) (h1 : a + 1 ≤ i) (h2 : i ≤ b) (hb : b ≤ d.size) (hlo' : ∀ k, a < k → k < i → ky d k < ky d a) (hhi : ∀ k, i ≤ k → k < b → ky d a ≤ ky d k)
    {e : Array Fl} (he : By (fun k => if a ≤ k ∧ k < i - 1 then k + 1 else if k = i - 1 then a else k) d e) : Mix a b d e ∧ Srt e a b := by
  have hlo : ∀ k, a < k → k < i → ky d k ≤ ky d a := fun k h h' => Nat.le_of_lt (hlo' k h h')
  refine ⟨⟨he.len, he.perm, fun k hk => ?_, fun k g1 g2 => ⟨_, ?_, ?_, he.at_ k⟩, stb_by he.len he.at_ (fun x y hxy hy => ?_)⟩, fun p q g1 g2 g3 => ?_⟩
  · rw [he.at_]; congr 1; (repeat' split) <;> omega
  · (repeat' split) <;> omega
  · (repeat' split) <;> omega
  · by_cases c : (a ≤ x ∧ x < i - 1) ∧ y = i - 1
    · right
      rw [if_pos c.1, if_neg (by omega), if_pos c.2]
      have := hlo' (x + 1) (by omega) (by omega)
      omega
    · left
      constructor
      · (repeat' split) <;> omega
      · (repeat' split) <;> omega
  · unfold ky
    rw [he.at_, he.at_]
    change ky d _ ≤ ky d _
    by_cases p1 : p < i - 1
    · rw [if_pos ⟨g1, p1⟩]
      by_cases q1 : q < i - 1
      · rw [if_pos ⟨by omega, q1⟩]; exact hs _ _ (by omega) (by omega) (by omega)
      · rw [if_neg (by omega)]
        by_cases q2 : q = i - 1
        · rw [if_pos q2]; exact hlo _ (by omega) (by omega)
        · rw [if_neg q2]; exact hs _ _ (by omega) (by omega) (by omega)
    · rw [if_neg (by omega)]
      rw [if_neg (c := a ≤ q ∧ q < i - 1) (by omega), if_neg (c := q = i - 1) (by omega)]
      by_cases p2 : p = i - 1
      · rw [if_pos p2]; exact hhi _ (by omega) g3
      · rw [if_neg p2]; exact hs _ _ (by omega) (by omega) (by omega)
theorem put_last {d : Array Fl} {a m i : Nat} (ham : a ≤ m) (hs : Srt d a m) (h1 : a ≤ i) (h2 : i ≤ m) (hb : m < d.size) (hlo : ∀ k, a ≤ k → k < i → ky d k ≤ ky d m) (hhi' : ∀ k, i ≤ k → k < m → ky d m < ky d k)
    {e : Array Fl} (he : By (fun k => if i < k ∧ k ≤ m then k - 1 else if k = i then m else k) d e) : Mix a (m + 1) d e ∧ Srt e a (m + 1) := by
  have hhi : ∀ k, i ≤ k → k < m → ky d m ≤ ky d k := fun k h h' => Nat.le_of_lt (hhi' k h h')
  refine ⟨⟨he.len, he.perm, fun k hk => ?_, fun k g1 g2 => ⟨_, ?_, ?_, he.at_ k⟩, stb_by he.len he.at_ (fun x y hxy hy => ?_)⟩, fun p q g1 g2 g3 => ?_⟩
  · rw [he.at_]; congr 1; (repeat' split) <;> omega
  · (repeat' split) <;> omega
  · (repeat' split) <;> omega
  · by_cases c : x = i ∧ (i < y ∧ y ≤ m)
    · right
      rw [if_neg (by omega), if_pos c.1, if_pos c.2]
      have := hhi' (y - 1) (by omega) (by omega)
      omega
    · left
      constructor
      · (repeat' split) <;> omega
      · (repeat' split) <;> omega
  · unfold ky
    rw [he.at_, he.at_]
    change ky d _ ≤ ky d _
    by_cases q1 : i < q
    · rw [if_pos (c := i < q ∧ q ≤ m) ⟨q1, by omega⟩]
      by_cases p1 : i < p
      · rw [if_pos ⟨p1, by omega⟩]; exact hs _ _ (by omega) (by omega) (by omega)
      · rw [if_neg (by omega)]
        by_cases p2 : p = i
        · rw [if_pos p2]; exact hhi _ (by omega) (by omega)
        · rw [if_neg p2]; exact hs _ _ (by omega) (by omega) (by omega)
    · rw [if_neg (c := i < q ∧ q ≤ m) (by omega), if_neg (c := i < p ∧ p ≤ m) (by omega), if_neg (c := p = i) (by omega)]
      by_cases q2 : q = i
      · rw [if_pos q2]; exact hlo _ (by omega) (by omega)
      · rw [if_neg q2]; exact hs _ _ (by omega) (by omega) (by omega)
/-- The great step: from where to where the halves are turned about. -/
theorem merge_ok {d e f g : Array Fl} {a m b mid s t : Nat} (hmid : a ≤ mid) (hmid' : mid ≤ b) (h1 : Srt d a m) (h2 : Srt d m b)
    (hst : s + t = mid + m) (hs1 : a ≤ s) (hs2 : s ≤ m) (hs3 : s ≤ mid) (ht : t ≤ b)
    (hlo : s = a ∨ t = b ∨ ky d (s - 1) ≤ ky d t) (hbd : b ≤ d.size) (hhi' : t = m ∨ s = m ∨ ky d (t - 1) < ky d s)
    (he : By (roI s m t) d e) (m1 : Mix a mid e f) (s1 : Srt f a mid) (m2 : Mix mid b f g) (s2 : Srt g mid b) : Mix a b d g ∧ Srt g a b := by
  have hmt : m ≤ t := by omega
  have hhi : t = m ∨ s = m ∨ ky d (t - 1) ≤ ky d s := by
    rcases hhi' with h | h | h
    · exact .inl h
    · exact .inr (.inl h)
    · exact .inr (.inr (Nat.le_of_lt h))
  have k1 : ∀ x, a ≤ x → x < mid → ∃ y, nt g x = nt d y ∧ (a ≤ y ∧ y < s ∨ m ≤ y ∧ y < t) := fun x g1 g2 => by
    obtain ⟨y, y1, y2, y3⟩ := m1.ins x g1 g2
    rw [m2.out x (by omega), y3, he.at_]
    refine ⟨_, rfl, ?_⟩
    unfold roI; (repeat' split) <;> omega
  have k2 : ∀ x, mid ≤ x → x < b → ∃ y, nt g x = nt d y ∧ (s ≤ y ∧ y < m ∨ t ≤ y ∧ y < b) := fun x g1 g2 => by
    obtain ⟨y, y1, y2, y3⟩ := m2.ins x g1 g2
    rw [y3, m1.out y (by omega), he.at_]
    refine ⟨_, rfl, ?_⟩
    unfold roI; (repeat' split) <;> omega
  have up1 : ∀ x y, a ≤ x → x ≤ y → y < m → ky d x ≤ ky d y := fun x y g1 g2 g3 => by
    rcases Nat.lt_or_ge x y with h | h
    · exact h1 x y g1 h g3
    · rw [show x = y by omega]; exact Nat.le_refl _
  have up2 : ∀ x y, m ≤ x → x ≤ y → y < b → ky d x ≤ ky d y := fun x y g1 g2 g3 => by
    rcases Nat.lt_or_ge x y with h | h
    · exact h2 x y g1 h g3
    · rw [show x = y by omega]; exact Nat.le_refl _
  have hst : Stb d → Stb e := ro_stb he hs2 hmt (by omega) (fun x y g1 g2 g3 g4 => by
    rcases hhi' with h | h | h
    · omega
    · omega
    · exact Nat.lt_of_le_of_lt (up2 y (t - 1) g3 (by omega) (by omega)) (Nat.lt_of_lt_of_le h (up1 s x (by omega) g1 g2)))
  refine ⟨(((he.mix hs2 hmt hst).wide hs1 ht).trans (m1.wide (Nat.le_refl _) hmid')).trans (m2.wide hmid (Nat.le_refl _)), fun p q g1 g2 g3 => ?_⟩
  rcases Nat.lt_or_ge q mid with q1 | q1
  · have := s1 p q g1 g2 q1
    unfold ky at *
    rw [m2.out p (by omega), m2.out q (by omega)]; exact this
  · rcases Nat.lt_or_ge p mid with p1 | p1
    · obtain ⟨x, ex, hx⟩ := k1 p g1 p1
      obtain ⟨y, ey, hy⟩ := k2 q q1 g3
      unfold ky
      rw [ex, ey]
      change ky d x ≤ ky d y
      rcases hx with ⟨x1, x2⟩ | ⟨x1, x2⟩
      · rcases hy with ⟨y1, y2⟩ | ⟨y1, y2⟩
        · exact up1 x y x1 (by omega) y2
        · rcases hlo with h | h | h
          · omega
          · omega
          · exact Nat.le_trans (up1 x (s - 1) x1 (by omega) (by omega)) (Nat.le_trans h (up2 t y (by omega) y1 y2))
      · rcases hy with ⟨y1, y2⟩ | ⟨y1, y2⟩
        · rcases hhi with h | h | h
          · omega
          · omega
          · exact Nat.le_trans (up2 x (t - 1) x1 (by omega) (by omega)) (Nat.le_trans h (up1 s y (by omega) y1 y2))
        · exact up2 x y x1 (by omega) y2
    · exact s2 p q p1 g2 g3
/-- A half that need not be merged goes up as it is. -/
theorem half_lo {d e : Array Fl} {a m b mid s t : Nat} (h1 : Srt d a m) (h2 : Srt d m b) (hst : s + t = mid + m) (hs2 : s ≤ m) (hs3 : s ≤ mid) (ht : t ≤ b) (he : By (roI s m t) d e) (h : a = s ∨ s = mid) : Srt e a mid := fun p q g1 g2 g3 => by
  unfold ky
  rw [he.at_, he.at_]
  change ky d _ ≤ ky d _
  rcases h with h | h
  · have ep : roI s m t p = p - s + m := by unfold roI; (repeat' split) <;> omega
    have eq : roI s m t q = q - s + m := by unfold roI; (repeat' split) <;> omega
    rw [ep, eq]; exact h2 _ _ (by omega) (by omega) (by omega)
  · have ep : roI s m t p = p := by unfold roI; (repeat' split) <;> omega
    have eq : roI s m t q = q := by unfold roI; (repeat' split) <;> omega
    rw [ep, eq]; exact h1 _ _ (by omega) (by omega) (by omega)
theorem half_hi {d e : Array Fl} {a m b mid s t : Nat} (h1 : Srt d a m) (h2 : Srt d m b) (hst : s + t = mid + m) (hs1 : a ≤ s) (hs3 : s ≤ mid) (he : By (roI s m t) d e) (h : mid = t ∨ t = b) : Srt e mid b := fun p q g1 g2 g3 => by
  unfold ky
  rw [he.at_, he.at_]
  change ky d _ ≤ ky d _
  rcases h with h | h
  · have ep : roI s m t p = p := by unfold roI; (repeat' split) <;> omega
    have eq : roI s m t q = q := by unfold roI; (repeat' split) <;> omega
    rw [ep, eq]; exact h2 _ _ (by omega) (by omega) (by omega)
  · have ep : roI s m t p = p - (t - m) := by unfold roI; (repeat' split) <;> omega
    have eq : roI s m t q = q - (t - m) := by unfold roI; (repeat' split) <;> omega
    rw [ep, eq]; exact h1 _ _ (by omega) (by omega) (by omega)

end Go.Proofs.Ytkgfmiicfegnlaa
