/- Registers and sums, plain: nothing of the program. -/
namespace Go.Proofs.YtplnnlepjooeoaaDoor

abbrev Reg := BitVec 32
/-- What a register is exclusive or, if it was odd. -/
def oddC : Reg := 3988292384#32
/-- A register halved once. -/
def half1 (r : Reg) : Reg := (r >>> 1) ^^^ (oddC &&& -(r &&& 1#32))
def halfN : Nat → Reg → Reg
  | 0, r => r
  | n + 1, r => half1 (halfN n r)
/-- An octet as a register. -/
def oct (c : UInt8) : Reg := c.toBitVec.setWidth 32
def step1 (r : Reg) (c : UInt8) : Reg := halfN 8 (r ^^^ oct c)
def stepR (r : Reg) (l : List UInt8) : Reg := l.foldl step1 r
def sumR (l : List UInt8) : Reg := ~~~ stepR 4294967295#32 l
/-- A sum's octets. -/
def octs (s : Reg) : List UInt8 := [⟨s.setWidth 8⟩, ⟨(s >>> 8).setWidth 8⟩, ⟨(s >>> 16).setWidth 8⟩, ⟨(s >>> 24).setWidth 8⟩]

theorem neg_lsb (r : Reg) : -(r &&& 1#32) = if r.getLsbD 0 then BitVec.allOnes 32 else 0#32 := by
  have h : r &&& 1#32 = if r.getLsbD 0 then 1#32 else 0#32 := by
    ext i hi
    simp only [BitVec.getElem_and, BitVec.getElem_one]
    rcases Nat.eq_zero_or_pos i with h0 | h0
    · subst h0
      by_cases hb : r.getLsbD 0
      · rw [if_pos hb]; simpa using hb
      · rw [if_neg hb]; simpa using hb
    · have : ¬ i = 0 := by omega
      by_cases hb : r.getLsbD 0
      · rw [if_pos hb]; simp [BitVec.getElem_one, this]
      · rw [if_neg hb]; simp [this]
  rw [h]
  by_cases hb : r.getLsbD 0
  · rw [if_pos hb, if_pos hb]; decide
  · rw [if_neg hb, if_neg hb]; decide
theorem half1_if (r : Reg) : half1 r = (r >>> 1) ^^^ (if r.getLsbD 0 then oddC else 0#32) := by
  unfold half1
  rw [neg_lsb]
  by_cases hb : r.getLsbD 0
  · rw [if_pos hb, if_pos hb, BitVec.and_allOnes]
  · rw [if_neg hb, if_neg hb, BitVec.and_zero]
theorem half1_xor (a b : Reg) : half1 (a ^^^ b) = half1 a ^^^ half1 b := by
  rw [half1_if, half1_if, half1_if, BitVec.ushiftRight_xor_distrib, BitVec.getLsbD_xor]
  cases a.getLsbD 0 <;> cases b.getLsbD 0 <;> simp
  · exact (BitVec.xor_assoc _ _ _)
  · rw [BitVec.xor_assoc, BitVec.xor_assoc, BitVec.xor_comm oddC]
  · rw [BitVec.xor_assoc, BitVec.xor_comm oddC, BitVec.xor_assoc, BitVec.xor_self, BitVec.xor_zero]
theorem halfN_xor (n : Nat) (a b : Reg) : halfN n (a ^^^ b) = halfN n a ^^^ halfN n b := by
  induction n with
  | zero => rfl
  | succ n ih => simp only [halfN]; rw [ih, half1_xor]
theorem half1_zero {d : Reg} (h : half1 d = 0#32) : d = 0#32 := by
  rw [half1_if] at h
  cases hb : d.getLsbD 0 with
  | true =>
    rw [hb, if_pos rfl] at h
    have := congrArg (fun x : Reg => x.getLsbD 31) h
    simp [oddC] at this
  | false =>
    rw [hb] at h
    simp at h
    ext i hi
    rcases Nat.eq_zero_or_pos i with h0 | h0
    · subst h0; simpa using hb
    · have := congrArg (fun x : Reg => x.getLsbD (i - 1)) h
      simp [BitVec.getLsbD_ushiftRight] at this
      rw [show 1 + (i - 1) = i by omega] at this
      simpa [BitVec.getLsbD_eq_getElem hi] using this
theorem halfN_zero {n : Nat} {d : Reg} (h : halfN n d = 0#32) : d = 0#32 := by
  induction n with
  | zero => exact h
  | succ n ih => exact ih (half1_zero h)
theorem xor_eq_zero {a b : Reg} (h : a ^^^ b = 0#32) : a = b := by
  have : a ^^^ b ^^^ b = 0#32 ^^^ b := by rw [h]
  rwa [BitVec.xor_assoc, BitVec.xor_self, BitVec.xor_zero, BitVec.zero_xor] at this
theorem halfN_inj {n : Nat} {a b : Reg} (h : halfN n a = halfN n b) : a = b := by
  apply xor_eq_zero
  apply halfN_zero (n := n)
  rw [halfN_xor, h, BitVec.xor_self]
theorem oct_inj {a b : UInt8} (h : oct a = oct b) : a = b := by
  unfold oct at h
  have h2 := congrArg (fun x : Reg => x.setWidth 8) h
  simp at h2
  exact UInt8.toBitVec_inj.1 h2
theorem step1_inj {a b : Reg} {c : UInt8} (h : step1 a c = step1 b c) : a = b := by
  have := halfN_inj h
  have h2 : a ^^^ oct c ^^^ oct c = b ^^^ oct c ^^^ oct c := by rw [this]
  rwa [BitVec.xor_assoc, BitVec.xor_self, BitVec.xor_zero, BitVec.xor_assoc, BitVec.xor_self, BitVec.xor_zero] at h2
theorem step1_inj' {a : Reg} {c d : UInt8} (h : step1 a c = step1 a d) : c = d := by
  have := halfN_inj h
  have h2 : a ^^^ (a ^^^ oct c) = a ^^^ (a ^^^ oct d) := by rw [this]
  rw [← BitVec.xor_assoc, ← BitVec.xor_assoc, BitVec.xor_self, BitVec.zero_xor, BitVec.zero_xor] at h2
  exact oct_inj h2
theorem stepR_cons (r : Reg) (c : UInt8) (l : List UInt8) : stepR r (c :: l) = stepR (step1 r c) l := rfl
theorem stepR_append (r : Reg) (l m : List UInt8) : stepR r (l ++ m) = stepR (stepR r l) m := List.foldl_append
theorem stepR_snoc (r : Reg) (l : List UInt8) (c : UInt8) : stepR r (l ++ [c]) = step1 (stepR r l) c := stepR_append r l [c]
theorem stepR_inj {l : List UInt8} : ∀ {a b : Reg}, stepR a l = stepR b l → a = b := by
  induction l with
  | nil => intro a b h; exact h
  | cons c l ih => intro a b h; exact step1_inj (ih h)
theorem stepR_iff (l : List UInt8) (a b : Reg) : stepR a l = stepR b l ↔ a = b := ⟨stepR_inj, fun h => by rw [h]⟩
theorem not_inj {a b : Reg} (h : ~~~ a = ~~~ b) : a = b := by
  have := congrArg (fun x : Reg => ~~~ x) h
  simpa using this
/-- With one octet another one the sum is another one. -/
theorem sumR_set {l : List UInt8} {i : Nat} (hi : i < l.length) {c : UInt8} (h : l[i] ≠ c) : sumR (l.set i c) ≠ sumR l := by
  intro he
  have he := not_inj he
  have h1 : l = l.take i ++ l[i] :: l.drop (i + 1) := by rw [List.getElem_cons_drop, List.take_append_drop]
  have h2 : l.set i c = l.take i ++ c :: l.drop (i + 1) := by rw [List.set_eq_take_append_cons_drop, if_pos hi]
  rw [h2] at he
  conv at he => rhs; rw [h1]
  rw [stepR_append, stepR_append, stepR_cons, stepR_cons] at he
  exact h (step1_inj' (stepR_inj he)).symm
/-- Halved without being odd. -/
theorem halfN_shift (x : Reg) : ∀ k, (∀ i, i < k → x.getLsbD i = false) → halfN k x = x >>> k := by
  intro k
  induction k with
  | zero => intro _; simp [halfN]
  | succ k ih =>
    intro h
    rw [halfN, ih fun i hi => h i (by omega), half1_if, BitVec.getLsbD_ushiftRight, Nat.add_zero, h k (by omega)]
    simp [BitVec.shiftRight_add]
/-- What is above the lowest octet comes down by it. -/
theorem halfN_low (y x : Reg) : halfN 8 (y ^^^ x) = halfN 8 (y ^^^ oct ⟨x.setWidth 8⟩) ^^^ (x >>> 8) := by
  have h : x = oct ⟨x.setWidth 8⟩ ^^^ ((x >>> 8) <<< 8) := by
    ext i hi
    simp only [oct, BitVec.getElem_xor, BitVec.getElem_shiftLeft, BitVec.getElem_setWidth, BitVec.getLsbD_setWidth]
    by_cases h8 : i < 8
    · simp [h8, BitVec.getLsbD_eq_getElem hi]
    · simp [h8, BitVec.getElem_ushiftRight, BitVec.getLsbD_eq_getElem, show 8 + (i - 8) = i by omega, hi]
  have h2 : halfN 8 ((x >>> 8) <<< 8) = x >>> 8 := by
    rw [halfN_shift _ 8 (by intro i hi; simp [BitVec.getLsbD_shiftLeft, hi])]
    ext i hi
    simp only [BitVec.getElem_ushiftRight, BitVec.getLsbD_shiftLeft, BitVec.getLsbD_ushiftRight]
    by_cases h8 : 8 + i < 32
    · simp [h8]
    · simp [h8, BitVec.getLsbD_of_ge x (8 + i) (by omega)]
  conv => lhs; rw [h]
  rw [← BitVec.xor_assoc, halfN_xor, h2]
/-- Four octets are stepped by as a register is halved. -/
theorem stepR_octs (r x : Reg) : stepR r (octs x) = halfN 8 (halfN 8 (halfN 8 (halfN 8 (r ^^^ x)))) := by
  have e1 : (x >>> 8) >>> 8 = x >>> 16 := by rw [← BitVec.shiftRight_add]
  have e2 : (x >>> 16) >>> 8 = x >>> 24 := by rw [← BitVec.shiftRight_add]
  have e3 : (x >>> 24) >>> 8 = 0#32 := by
    rw [← BitVec.shiftRight_add]
    ext i hi
    simp [BitVec.getElem_ushiftRight]
  rw [halfN_low r x, halfN_low _ (x >>> 8), e1, halfN_low _ (x >>> 16), e2, halfN_low _ (x >>> 24), e3, BitVec.xor_zero]
  rfl
theorem not_xor (s : Reg) : s ^^^ ~~~ s = 4294967295#32 := by
  have : (4294967295#32 : Reg) = BitVec.allOnes 32 := by decide
  rw [this]
  ext i hi
  simp only [BitVec.getElem_xor, BitVec.getElem_not, BitVec.getElem_allOnes]
  cases s[i] <;> rfl
theorem tail_const : ~~~ halfN 8 (halfN 8 (halfN 8 (halfN 8 4294967295#32))) = 558161692#32 := by decide +kernel
/-- A text, its sum behind it, has one sum. -/
theorem sumR_sealed (l : List UInt8) : sumR (l ++ octs (sumR l)) = 558161692#32 := by
  unfold sumR
  rw [stepR_append, stepR_octs, not_xor]
  exact tail_const
theorem octs_inj {a b : Reg} (h : octs a = octs b) : a = b := by
  have h0 : stepR 0#32 (octs a) = stepR 0#32 (octs b) := by rw [h]
  rw [stepR_octs, stepR_octs] at h0
  have := halfN_inj (halfN_inj (halfN_inj (halfN_inj h0)))
  rwa [BitVec.zero_xor, BitVec.zero_xor] at this
theorem octs_len (s : Reg) : (octs s).length = 4 := rfl
theorem swap3 (r s t x y z : Reg) : r ^^^ x ^^^ (s ^^^ y) ^^^ (t ^^^ z) = r ^^^ s ^^^ t ^^^ (x ^^^ y ^^^ z) := by
  ext i hi
  simp only [BitVec.getElem_xor]
  cases r[i] <;> cases s[i] <;> cases t[i] <;> cases x[i] <;> cases y[i] <;> cases z[i] <;> rfl
/-- Three texts of one length. -/
theorem stepR_xor3 : ∀ (a b c : List UInt8) (r s t : Reg), a.length = b.length → a.length = c.length →
    stepR (r ^^^ s ^^^ t) (List.zipWith (fun x y => x ^^^ y) (List.zipWith (fun x y => x ^^^ y) a b) c) = stepR r a ^^^ stepR s b ^^^ stepR t c := by
  intro a
  induction a with
  | nil =>
    intro b c r s t hb hc
    obtain rfl : b = [] := List.eq_nil_of_length_eq_zero hb.symm
    obtain rfl : c = [] := List.eq_nil_of_length_eq_zero hc.symm
    rfl
  | cons x a ih =>
    intro b c r s t hb hc
    match b, c, hb, hc with
    | y :: b, z :: c, hb, hc =>
      simp only [List.zipWith_cons_cons, stepR_cons]
      rw [← ih b c _ _ _ (by simpa using hb) (by simpa using hc)]
      congr 1
      unfold step1
      rw [← halfN_xor, ← halfN_xor]
      congr 1
      have : oct (x ^^^ y ^^^ z) = oct x ^^^ oct y ^^^ oct z := by
        ext i hi
        simp [oct]
      rw [this]
      exact (swap3 r s t (oct x) (oct y) (oct z)).symm
theorem not3 (a b c : Reg) : ~~~ (a ^^^ b ^^^ c) = ~~~ a ^^^ ~~~ b ^^^ ~~~ c := by
  ext i hi
  simp
theorem sumR_xor3 (a b c : List UInt8) (hb : a.length = b.length) (hc : a.length = c.length) :
    sumR (List.zipWith (fun x y => x ^^^ y) (List.zipWith (fun x y => x ^^^ y) a b) c) = sumR a ^^^ sumR b ^^^ sumR c := by
  unfold sumR
  rw [← not3, ← stepR_xor3 a b c _ _ _ hb hc, BitVec.xor_self, BitVec.zero_xor]
theorem live_sum : sumR [49, 50, 51, 52, 53, 54, 55, 56, 57] = 3421780262#32 := by decide +kernel
end Go.Proofs.YtplnnlepjooeoaaDoor
