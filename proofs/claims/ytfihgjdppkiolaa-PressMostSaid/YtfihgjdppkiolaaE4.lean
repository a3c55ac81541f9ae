import Derived.Test.YtfihgjdppkiolaaE3
namespace Go.Proofs.Ytfihgjdppkiolaa.E

/-! ### octets that are all the same -/
theorem rep_get (n : Nat) (c : UInt8) (i : Nat) (h : i < n) : (List.replicate n c).getD i 0 = c := by
  rw [List.getD_eq_getElem?_getD, List.getElem?_replicate, if_pos h]; rfl
theorem alkF_rep (n : Nat) (c : UInt8) (f a k : Nat) (h : f ≤ a) (ha : a ≤ n) : alkF (List.replicate n c) f a k = min k (n - a) := by
  induction k generalizing f a with
  | zero => simp [alkF]
  | succ k ih =>
    rw [alkF, List.length_replicate]
    split
    · rename_i h1
      rw [ih (f + 1) (a + 1) (by omega) (by omega)]; omega
    · rename_i h1
      have : ¬ a < n := fun h2 => h1 ⟨h2, by rw [rep_get n c f (by omega), rep_get n c a h2]⟩
      omega
theorem bestF_rep (n : Nat) (c : UInt8) (a D : Nat) (ha : a ≤ n) : bestF (List.replicate n c) a D = if D = 0 ∨ min 18 (n - a) < 3 then (2, 0) else (min 18 (n - a), 1) := by
  induction D with
  | zero => simp [bestF]
  | succ D ih =>
    rw [bestF, ih, alkF_rep n c _ a 18 (by omega) ha]
    generalize min 18 (n - a) = m
    by_cases h : m < 3
    · simp [h]; omega
    · by_cases hD : D = 0
      · subst hD
        simp [h]; omega
      · simp [h, hD]
/-- What is left, by tokens. -/
def wantF (c : UInt8) : Nat → Nat → List Tok
  | 0, _ => []
  | k + 1, left => if left = 0 then [] else if min left 18 < 3 then ⟨c, 0, 0⟩ :: wantF c k (left - 1) else ⟨0, (min left 18 : Nat), 1⟩ :: wantF c k (left - min left 18)
theorem nextT_rep (n : Nat) (c : UInt8) (a : Nat) (h0 : 1 ≤ a) (ha : a < n) : nextT (List.replicate n c) a = if min (n - a) 18 < 3 then ⟨c, 0, 0⟩ else ⟨0, (min (n - a) 18 : Nat), 1⟩ := by
  unfold nextT
  rw [bestF_rep n c a _ (by omega)]
  by_cases h : min 18 (n - a) < 3
  · rw [if_pos (Or.inr h), if_pos rfl, if_pos (by omega), rep_get n c a ha]
  · rw [show (if min a 256 = 0 ∨ min 18 (n - a) < 3 then ((2 : Nat), (0 : Nat)) else (min 18 (n - a), 1)) = (min 18 (n - a), 1) from if_neg (by omega), if_neg (by simp), if_neg (by omega), Nat.min_comm]; rfl
theorem toksF_rep (n : Nat) (c : UInt8) (k a : Nat) (h0 : 1 ≤ a) (ha : a ≤ n) : toksF (List.replicate n c) k a = wantF c k (n - a) := by
  induction k generalizing a with
  | zero => rfl
  | succ k ih =>
    rw [toksF, wantF, List.length_replicate]
    by_cases h : a < n
    · rw [if_pos h, if_neg (by omega), nextT_rep n c a h0 h]
      by_cases h3 : min (n - a) 18 < 3
      · rw [if_pos h3, if_pos h3, show a + (sizeT ⟨c, 0, 0⟩).toNat = a + 1 from rfl, ih (a + 1) (by omega) (by omega), show n - (a + 1) = n - a - 1 by omega]
      · rw [if_neg h3, if_neg h3]
        have hs : (sizeT ⟨0, (min (n - a) 18 : Nat), 1⟩).toNat = min (n - a) 18 := by
          unfold sizeT
          simp only []
          rw [if_neg (by omega)]
          exact Int.toNat_natCast _
        rw [hs, ih _ (by omega) (by omega), show n - (a + min (n - a) 18) = n - a - min (n - a) 18 by omega]
    · rw [if_neg h, if_pos (by omega)]
theorem toksB_rep (n : Nat) (c : UInt8) (h : 1 ≤ n) : toksB (List.replicate n c) = [⟨c, 0, 0⟩] ++ wantF c (n - 1) (n - 1) := by
  unfold toksB
  rw [List.length_replicate]
  obtain ⟨m, rfl⟩ : ∃ m, n = m + 1 := ⟨n - 1, by omega⟩
  rw [toksF, if_pos (by simp)]
  have hn : nextT (List.replicate (m + 1) c) 0 = ⟨c, 0, 0⟩ := by
    unfold nextT
    rw [show min 0 256 = 0 from rfl, bestF]
    rw [if_pos rfl, rep_get (m + 1) c 0 (by omega)]
  rw [hn, show 0 + (sizeT ⟨c, 0, 0⟩).toNat = 1 from rfl, toksF_rep (m + 1) c m 1 (by omega) (by omega)]
  rfl
theorem wantF_lit {c : UInt8} {k left : Nat} (h : left ≤ k) (h1 : 1 ≤ left) (h3 : left < 3) : ∃ k', left - 1 ≤ k' ∧ wantF c k left = [⟨c, 0, 0⟩] ++ wantF c k' (left - 1) := by
  obtain ⟨k', rfl⟩ : ∃ k', k = k' + 1 := ⟨k - 1, by omega⟩
  exact ⟨k', by omega, by rw [wantF, if_neg (by omega), if_pos (by omega)]; rfl⟩
theorem wantF_rep {c : UInt8} {k left m : Nat} (h : left ≤ k) (h1 : 3 ≤ left) (hm : m = min left 18) : ∃ k', left - m ≤ k' ∧ wantF c k left = [⟨0, (m : Nat), 1⟩] ++ wantF c k' (left - m) := by
  subst hm
  obtain ⟨k', rfl⟩ : ∃ k', k = k' + 1 := ⟨k - 1, by omega⟩
  exact ⟨k', by omega, by rw [wantF, if_neg (by omega), if_neg (by omega)]; rfl⟩
theorem wantF_zero (c : UInt8) (k : Nat) : wantF c k 0 = [] := by cases k <;> rfl


/-- What 18 again, from one behind, is. -/
def t18 : Tok := ⟨0, 18, 1⟩
theorem wantF_form (c : UInt8) (f left : Nat) (h : left ≤ f) : ∃ k rest, wantF c f left = List.replicate k t18 ++ rest ∧ 18 * k ≤ left ∧ (bitsF rest).length ≤ 18 := by
  induction f using Nat.strongRecOn generalizing left with
  | ind f ih =>
    by_cases h18 : 18 ≤ left
    · obtain ⟨f', rfl⟩ : ∃ f', f = f' + 1 := ⟨f - 1, by omega⟩
      obtain ⟨k, rest, e1, e2, e3⟩ := ih f' (by omega) (left - 18) (by omega)
      refine ⟨k + 1, rest, ?_, by omega, e3⟩
      have hm : min left 18 = 18 := by omega
      rw [wantF, if_neg (by omega), hm, if_neg (by omega), e1]
      rfl
    · refine ⟨0, wantF c f left, by simp, by omega, ?_⟩
      rcases Nat.eq_zero_or_pos left with h0 | h0
      · subst h0; rw [wantF_zero]; simp [bitsF]
      · by_cases h3 : left < 3
        · obtain ⟨k', g1, g2⟩ := wantF_lit (c := c) h h0 h3
          rw [g2]
          have hb : ∀ l, (bitsF ([⟨c, 0, 0⟩] ++ l)).length = 9 + (bitsF l).length := fun l => by
            rw [bitsF_append, List.length_append]
            have : (bitsF [⟨c, 0, 0⟩]).length = 9 := by simp [bitsF, tokB, numB]
            omega
          rw [hb]
          rcases (show left = 1 ∨ left = 2 by omega) with rfl | rfl
          · rw [wantF_zero]; simp [bitsF]
          · obtain ⟨k'', _, g4⟩ := wantF_lit (c := c) (k := k') (left := 1) g1 (by omega) (by omega)
            rw [g4, hb, wantF_zero]; simp [bitsF]
        · obtain ⟨k', g1, g2⟩ := wantF_rep (c := c) (m := left) h (by omega) (by omega)
          rw [g2, Nat.sub_self, wantF_zero, bitsF_append, List.length_append]
          have hok : okT ⟨0, (left : Nat), 1⟩ = true := by
            unfold okT
            rw [if_neg (by show ¬ ((left : Nat) : Int) = 0; omega)]
            simp; omega
          have : (bitsF [⟨0, (left : Nat), 1⟩]).length = 13 := by
            have := tokB_len hok
            rw [if_pos (by show (0 : Int) < (left : Nat); omega)] at this
            simp [bitsF, this]
          rw [this]; simp [bitsF]

/-! ### what bits cost -/
/-- Is a bit likely? -/
def good (c : List Int) (x : Bit) : Prop := if x.b then c.getD x.at_.toNat 0 ≤ 1024 else 1024 ≤ c.getD x.at_.toNat 0
theorem put_good {s : Enc} {x : Bit} (h : InvE s) (hx : inB s.c.length x = true) (hg : good s.c x) : ∃ d, (put s x).text.length = s.text.length + d ∧ s.span * 256 ^ d ≤ 4 * (put s x).span := by
  obtain ⟨h0, h1⟩ := inB_iff.1 hx
  have hp := part_ok h.c h0 h1 h.span
  have hs := h.span
  have e : s.span ≤ 4 * (put1 s x).span := by
    have e0 : (put1 s x).span = if x.b then s.span - partP s.span s.c x.at_ else partP s.span s.c x.at_ := rfl
    rw [e0]
    unfold good at hg
    unfold partP at *
    generalize s.c.getD x.at_.toNat 0 = p at *
    have hq : s.span / 2048 * 2048 ≤ s.span ∧ s.span < s.span / 2048 * 2048 + 2048 := by omega
    generalize s.span / 2048 = q at *
    split at hg
    · rename_i hb
      rw [if_pos hb]
      have : q * p ≤ q * 1024 := Int.mul_le_mul_of_nonneg_left hg (by omega)
      omega
    · rename_i hb
      rw [if_neg hb]
      have : q * 1024 ≤ q * p := Int.mul_le_mul_of_nonneg_left hg (by omega)
      omega
  have hl := put1_len s x
  unfold put
  split
  · exact ⟨1, by simp [shf, hl], by simp only [shf]; omega⟩
  · exact ⟨0, by omega, by omega⟩
/-- Places whose bits are set, and whose are not, in 18 again, from one behind. -/
def setP : List Int := [257, 259, 263, 271]
def offP : List Int := [273, 274, 276, 280, 288, 304, 336, 400]
/-- Such bits are likely. -/
def Gd (c : List Int) : Prop := okC c = true ∧ c.length = 528 ∧ (∀ i ∈ setP, c.getD i.toNat 0 ≤ 1024) ∧ (∀ i ∈ offP, 1024 ≤ c.getD i.toNat 0)
/-- A bit that keeps them so. -/
def friend (x : Bit) : Prop := inB 528 x = true ∧ (x.at_ ∈ setP → x.b = true) ∧ (x.at_ ∈ offP → x.b = false)
def likely (x : Bit) : Bool := decide (x.at_ ∈ setP) || decide (x.at_ ∈ offP)
theorem stepA_get {c : List Int} {x : Bit} {i : Int} (h0 : 0 ≤ i) (hx : inB c.length x = true) : (stepA c x).getD i.toNat 0 = if i = x.at_ then lrn (c.getD i.toNat 0) x.b else c.getD i.toNat 0 := by
  obtain ⟨a0, a1⟩ := inB_iff.1 hx
  unfold stepA
  rw [List.getD_eq_getElem?_getD, List.getElem?_set]
  by_cases h : i = x.at_
  · subst h
    rw [if_pos rfl, if_pos rfl, if_pos (by omega)]
    rfl
  · rw [if_neg (by omega), if_neg h, ← List.getD_eq_getElem?_getD]
theorem Gd.step {c : List Int} {x : Bit} (h : Gd c) (hx : friend x) : Gd (stepA c x) := by
  obtain ⟨h1, h2, h3, h4⟩ := h
  obtain ⟨f1, f2, f3⟩ := hx
  have hin : inB c.length x = true := by rw [h2]; exact f1
  have hC : ∀ i : Int, 0 ≤ i → i < 528 → isC (c.getD i.toNat 0) = true := fun i a b => getD_ok h1 a (by omega)
  refine ⟨stepA_ok h1, by rw [stepA_len]; exact h2, fun i hi => ?_, fun i hi => ?_⟩
  · have hb : 0 ≤ i ∧ i < 528 := by simp [setP] at hi; omega
    rw [stepA_get hb.1 hin]
    split
    · rename_i e
      subst e
      rw [f2 hi]
      exact Int.le_trans (lrn_down (hC _ hb.1 hb.2)) (h3 _ hi)
    · exact h3 i hi
  · have hb : 0 ≤ i ∧ i < 528 := by simp [offP] at hi; omega
    rw [stepA_get hb.1 hin]
    split
    · rename_i e
      subst e
      rw [f3 hi]
      exact Int.le_trans (h4 _ hi) (lrn_up (hC _ hb.1 hb.2))
    · exact h4 i hi
theorem Gd.good {c : List Int} {x : Bit} (h : Gd c) (hx : friend x) (hl : likely x = true) : good c x := by
  obtain ⟨h1, h2, h3, h4⟩ := h
  obtain ⟨f1, f2, f3⟩ := hx
  simp only [likely, Bool.or_eq_true, decide_eq_true_eq] at hl
  unfold E.good
  rcases hl with hl | hl
  · rw [f2 hl, if_pos rfl]; exact h3 _ hl
  · rw [f3 hl, if_neg (by simp)]; exact h4 _ hl
def cost (xs : List Bit) : Int := (xs.map fun x => if likely x then (4 : Int) else 100).prod
theorem putAll_cost {s : Enc} {xs : List Bit} (h : InvE s) (hg : Gd s.c) (hx : ∀ x ∈ xs, friend x) :
    ∃ d, (putAll s xs).text.length = s.text.length + d ∧ s.span * 256 ^ d ≤ cost xs * (putAll s xs).span ∧ InvE (putAll s xs) ∧ Gd (putAll s xs).c := by
  induction xs generalizing s with
  | nil => exact ⟨0, rfl, by simp [putAll, cost], h, hg⟩
  | cons x r ih =>
    have hf := hx x (by simp)
    have hin : inB s.c.length x = true := by rw [hg.2.1]; exact hf.1
    obtain ⟨g, _⟩ := put_ok h hin
    have hc : (put s x).c = stepA s.c x := by unfold put; split <;> rfl
    obtain ⟨d, d1, d2⟩ : ∃ d, (put s x).text.length = s.text.length + d ∧ s.span * 256 ^ d ≤ (if likely x then (4 : Int) else 100) * (put s x).span := by
      split
      · rename_i hl; exact put_good h hin (hg.good hf hl)
      · exact put_more h hin
    obtain ⟨e, e1, e2, e3, e4⟩ := ih g (by rw [hc]; exact hg.step hf) fun y hy => hx y (by simp [hy])
    have hd : (0 : Int) ≤ 256 ^ e := Int.pow_nonneg (by omega)
    have hk : (0 : Int) ≤ (if likely x then (4 : Int) else 100) := by split <;> omega
    refine ⟨d + e, ?_, ?_, e3, e4⟩
    · show (putAll (put s x) r).text.length = _
      omega
    · show _ ≤ _ * (putAll (put s x) r).span
      have hcost : cost (x :: r) = (if likely x then (4 : Int) else 100) * cost r := by simp [cost]
      rw [hcost]
      generalize (if likely x then (4 : Int) else 100) = K at *
      rw [Int.pow_add, ← Int.mul_assoc]
      have h3 := Int.mul_le_mul_of_nonneg_right d2 hd
      rw [Int.mul_assoc K] at h3
      rw [Int.mul_assoc K]
      exact Int.le_trans h3 (Int.mul_le_mul_of_nonneg_left e2 hk)
theorem cost_append (p q : List Bit) : cost (p ++ q) = cost p * cost q := by simp [cost]

theorem t18_bits : tokB t18 = [⟨0, true⟩, ⟨257, true⟩, ⟨259, true⟩, ⟨263, true⟩, ⟨271, true⟩, ⟨273, false⟩, ⟨274, false⟩, ⟨276, false⟩, ⟨280, false⟩, ⟨288, false⟩, ⟨304, false⟩, ⟨336, false⟩, ⟨400, false⟩] := rfl
theorem t18_friend : ∀ x ∈ tokB t18, friend x := by
  intro x hx
  refine ⟨tokB_in _ x hx, ?_⟩
  rw [t18_bits] at hx
  simp only [List.mem_cons, List.not_mem_nil, or_false] at hx
  rcases hx with rfl | rfl | rfl | rfl | rfl | rfl | rfl | rfl | rfl | rfl | rfl | rfl | rfl <;> decide
theorem t18_cost : cost (tokB t18) = 100 * 4 ^ 12 := by rw [t18_bits]; decide
theorem rep_cost (k : Nat) : cost (bitsF (List.replicate k t18)) = (100 * 4 ^ 12) ^ k := by
  induction k with
  | zero => rfl
  | succ k ih =>
    have : bitsF (List.replicate (k + 1) t18) = tokB t18 ++ bitsF (List.replicate k t18) := by simp [bitsF, List.replicate_succ]
    rw [this, cost_append, ih, t18_cost]
    generalize (100 * 4 ^ 12 : Int) = K
    rw [Int.pow_succ, Int.mul_comm]
theorem lit_friend (c : UInt8) : ∀ x ∈ tokB ⟨c, 0, 0⟩, friend x := by
  intro x hx
  refine ⟨tokB_in _ x hx, ?_⟩
  have hb : x.at_ < 256 := by
    unfold tokB at hx
    rw [List.mem_cons] at hx
    rcases hx with rfl | hx
    · simp
    · rw [if_pos rfl] at hx
      have := numB_in (W := 8) (by omega) (by decide) x hx
      simp at this; omega
  constructor
  · intro h; simp [setP] at h; omega
  · intro h; simp [offP] at h; omega
theorem cost_le (xs : List Bit) : 0 ≤ cost xs ∧ cost xs ≤ 100 ^ xs.length := by
  induction xs with
  | nil => simp [cost]
  | cons x r ih =>
    have hcost : cost (x :: r) = (if likely x then (4 : Int) else 100) * cost r := by simp [cost]
    rw [hcost, List.length_cons, Int.pow_succ, Int.mul_comm _ 100]
    have hk : (0 : Int) ≤ (if likely x then (4 : Int) else 100) ∧ (if likely x then (4 : Int) else 100) ≤ 100 := by split <;> omega
    generalize (if likely x then (4 : Int) else 100) = K at *
    exact ⟨Int.mul_nonneg hk.1 ih.1, Int.le_trans (Int.mul_le_mul_of_nonneg_right hk.2 ih.1) (Int.mul_le_mul_of_nonneg_left ih.2 (by omega))⟩
theorem Gd.start : Gd (List.replicate 528 1024) := by
  refine ⟨okC_iff.2 ⟨by rw [List.length_replicate]; decide, fun p hp => by rw [(List.mem_replicate.1 hp).2]; decide⟩, List.length_replicate, fun i hi => ?_, fun i hi => ?_⟩
  · have : 0 ≤ i ∧ i < 528 := by simp [setP] at hi; omega
    rw [List.getD_eq_getElem?_getD, List.getElem?_replicate, if_pos (by omega)]; simp
  · have : 0 ≤ i ∧ i < 528 := by simp [offP] at hi; omega
    rw [List.getD_eq_getElem?_getD, List.getElem?_replicate, if_pos (by omega)]; simp
/-- P7.5: octets that are all the same are packed into few. -/
theorem same_len (n : Nat) (c : UInt8) (hn : n ≤ 300) : (packT (List.replicate n c)).length ≤ 60 + n / 6 := by
  have hb : (List.replicate n c).length ≤ 65536 := by simp; omega
  have he := toksB_bits hb
  have hl := (packT_len hb).1
  rcases Nat.eq_zero_or_pos n with h0 | h0
  · subst h0
    have : bitsF (toksB (List.replicate 0 c)) = [] := rfl
    have hs := (short_len he).2
    rw [this] at hs hl
    simp at hs
    omega
  obtain ⟨k, rest, e1, e2, e3⟩ := wantF_form c (n - 1) (n - 1) (Nat.le_refl _)
  have ht : bitsF (toksB (List.replicate n c)) = (tokB ⟨c, 0, 0⟩ ++ bitsF (List.replicate k t18)) ++ bitsF rest := by
    rw [toksB_rep n c h0, e1, bitsF_append, bitsF_append]
    simp [bitsF]
  have hin := (encE_ok he).2.2
  have hel := encT_len he
  rw [ht] at hin hel hl
  have hfr : ∀ x ∈ tokB ⟨c, 0, 0⟩ ++ bitsF (List.replicate k t18), friend x := by
    intro x hx
    rcases List.mem_append.1 hx with hx | hx
    · exact lit_friend c x hx
    · obtain ⟨t, h1, h2⟩ := List.mem_flatMap.1 hx
      rw [(List.mem_replicate.1 h1).2] at h2
      exact t18_friend x h2
  obtain ⟨d, d1, d2, d3, d4⟩ := putAll_cost (start_ok (n := 528) (by omega)) (show Gd (start0 528).c from Gd.start) hfr
  have happ : putAll (start0 528) ((tokB ⟨c, 0, 0⟩ ++ bitsF (List.replicate k t18)) ++ bitsF rest) = putAll (putAll (start0 528) (tokB ⟨c, 0, 0⟩ ++ bitsF (List.replicate k t18))) (bitsF rest) := by simp [putAll]
  rw [happ] at hel
  obtain ⟨e, f1, f2⟩ := putAll_more (xs := bitsF rest) d3 (fun x hx => by rw [d4.2.1]; exact hin x (List.mem_append_right _ hx))
  have hinv : InvE (putAll (putAll (start0 528) (tokB ⟨c, 0, 0⟩ ++ bitsF (List.replicate k t18))) (bitsF rest)) := by rw [← happ, ← ht]; exact (enc_inv he).1
  have hsp := hinv.span
  have h0' : (start0 528).span = 4294967295 := rfl
  have ht0 : (start0 528).text.length = 1 := rfl
  rw [h0'] at d2
  rw [ht0] at d1
  generalize putAll (putAll (start0 528) (tokB ⟨c, 0, 0⟩ ++ bitsF (List.replicate k t18))) (bitsF rest) = S2 at *
  generalize putAll (start0 528) (tokB ⟨c, 0, 0⟩ ++ bitsF (List.replicate k t18)) = S1 at *
  have hcost : cost (tokB ⟨c, 0, 0⟩ ++ bitsF (List.replicate k t18)) ≤ 100 ^ 9 * (100 * 4 ^ 12) ^ k := by
    rw [cost_append, rep_cost]
    have := cost_le (tokB ⟨c, 0, 0⟩)
    rw [tokB_len (by simp [okT])] at this
    exact Int.mul_le_mul_of_nonneg_right this.2 (Int.pow_nonneg (by omega))
  have hrest : (100 : Int) ^ (bitsF rest).length ≤ 100 ^ 18 := by
    have h := Nat.pow_le_pow_right (show 0 < 100 by omega) e3
    exact_mod_cast h
  -- 256 ^ (d + e) ≤ 100 ^ 27 * (100 * 4 ^ 12) ^ k
  have hall : (4294967295 : Int) * 256 ^ (d + e) ≤ (100 ^ 9 * (100 * 4 ^ 12) ^ k * 100 ^ 18) * 4294967295 := by
    have hd : (0 : Int) ≤ 256 ^ e := Int.pow_nonneg (by omega)
    have hc0 : (0 : Int) ≤ 100 ^ 9 * (100 * 4 ^ 12) ^ k := Int.mul_nonneg (by omega) (Int.pow_nonneg (by omega))
    have hs1 : 0 ≤ S1.span := by have := d3.span; omega
    rw [Int.pow_add, ← Int.mul_assoc]
    refine Int.le_trans (Int.mul_le_mul_of_nonneg_right (Int.le_trans d2 (Int.mul_le_mul_of_nonneg_right hcost hs1)) hd) ?_
    rw [Int.mul_assoc, Int.mul_assoc (100 ^ 9 * (100 * 4 ^ 12) ^ k)]
    refine Int.mul_le_mul_of_nonneg_left (Int.le_trans f2 ?_) hc0
    refine Int.le_trans (Int.mul_le_mul_of_nonneg_right hrest (by omega)) ?_
    exact Int.mul_le_mul_of_nonneg_left (by omega) (by omega)
  have hnat : (256 : Nat) ^ (d + e) ≤ 100 ^ 9 * (100 * 4 ^ 12) ^ k * 100 ^ 18 := by
    have : ((256 ^ (d + e) : Nat) : Int) ≤ ((100 ^ 9 * (100 * 4 ^ 12) ^ k * 100 ^ 18 : Nat) : Int) := by
      simp only [Int.natCast_mul, Int.natCast_pow] at *
      have := hall
      simp only [Int.cast_ofNat_Int]
      generalize (256 : Int) ^ (d + e) = A at *
      generalize (100 : Int) ^ 9 * (100 * 4 ^ 12) ^ k * 100 ^ 18 = B at *
      omega
    omega
  have h2 : (256 : Nat) ^ (d + e) ≤ 2 ^ (189 + 31 * k) := by
    refine Nat.le_trans hnat ?_
    have g1 : (100 * 4 ^ 12 : Nat) ^ k ≤ (2 ^ 31) ^ k := Nat.pow_le_pow_left (by decide) k
    rw [Nat.pow_add, Nat.pow_mul]
    have g2 : (100 : Nat) ^ 9 * 100 ^ 18 ≤ 2 ^ 189 := by decide
    calc 100 ^ 9 * (100 * 4 ^ 12) ^ k * 100 ^ 18 = (100 ^ 9 * 100 ^ 18) * (100 * 4 ^ 12) ^ k := by rw [Nat.mul_right_comm]
      _ ≤ 2 ^ 189 * (2 ^ 31) ^ k := Nat.mul_le_mul g2 g1
  have h3 : 8 * (d + e) ≤ 189 + 31 * k := by
    have : (256 : Nat) = 2 ^ 8 := by decide
    rw [this, ← Nat.pow_mul] at h2
    exact (Nat.pow_le_pow_iff_right (by omega)).1 h2
  omega
/-- P7.5: no text into more than 16, and nine for each octet. -/
theorem pack_len {b : List UInt8} (hb : b.length ≤ 65536) : (packT b).length ≤ 16 + 9 * b.length := by
  have h1 := bitsF_len (toksB_text b).2
  rw [toksB_sum] at h1
  have h2 := (short_len (toksB_bits hb)).2
  have h3 := (packT_len hb).1
  omega
end Go.Proofs.Ytfihgjdppkiolaa.E
