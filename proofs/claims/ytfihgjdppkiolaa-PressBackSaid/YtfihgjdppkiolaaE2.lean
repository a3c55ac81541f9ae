import Derived.Test.YtfihgjdppkiolaaE01
namespace Go.Proofs.Ytfihgjdppkiolaa

/-- A number's bits by a tree at 'c', the node 'm' being next. -/
def numB (c : Int) (n : Nat) : Nat → Nat → List Bit
  | 0, _ => []
  | k + 1, m => ⟨c + m, n / 2 ^ k % 2 == 1⟩ :: numB c n k (2 * m + n / 2 ^ k % 2)
/-- A token's bits. -/
def tokB (t : Tok) : List Bit := ⟨0, decide (0 < t.len)⟩ :: (if t.len = 0 then numB 0 t.lit.toNat 8 1 else numB 256 (t.len - 3).toNat 4 1 ++ numB 272 (t.dist - 1).toNat 8 1)
def bitsF (l : List Tok) : List Bit := l.flatMap tokB
/-- What Bits answers. -/
def bitsR (l : List Tok) : List Bit × Int := if okL 0 l then (bitsF l, 0) else ([], 1)

theorem numB_len (c : Int) (n k m : Nat) : (numB c n k m).length = k := by
  induction k generalizing m with
  | zero => rfl
  | succ k ih => simp [numB, ih]
theorem tokB_len {t : Tok} (h : okT t = true) : (tokB t).length = 9 + (if 0 < t.len then 4 else 0) := by
  unfold tokB
  by_cases h0 : t.len = 0
  · rw [if_pos h0, if_neg (by omega)]; simp [numB_len]
  · have := okT_len h h0
    rw [if_neg h0, if_pos (by omega)]; simp [numB_len]
theorem numB_in {c : Int} {n k m W : Nat} (hm : 1 ≤ m) (h : (m + 1) * 2 ^ k ≤ 2 ^ (W + 1)) : ∀ x ∈ numB c n k m, c + 1 ≤ x.at_ ∧ x.at_ < c + 2 ^ W := by
  induction k generalizing m with
  | zero => intro x hx; simp [numB] at hx
  | succ k ih =>
    intro x hx
    rw [numB, List.mem_cons] at hx
    have h1 : (m + 1) * 2 ≤ 2 ^ (W + 1) := Nat.le_trans (Nat.mul_le_mul_left _ (by rw [Nat.pow_succ]; have := Nat.one_le_two_pow (n := k); omega)) h
    rw [Nat.pow_succ] at h1
    have h2 : m < 2 ^ W := by omega
    have h2' : ((m : Nat) : Int) < 2 ^ W := by
      have : ((m : Nat) : Int) < ((2 ^ W : Nat) : Int) := by omega
      simpa using this
    rcases hx with rfl | hx
    · simp only []; omega
    · refine ih (by omega) ?_ x hx
      refine Nat.le_trans ?_ h
      rw [Nat.pow_succ, Nat.mul_comm (2 ^ k) 2, ← Nat.mul_assoc]
      exact Nat.mul_le_mul_right _ (by have := Nat.mod_lt (n / 2 ^ k) (show 0 < 2 by omega); omega)
theorem tokB_in (t : Tok) : ∀ x ∈ tokB t, inB 528 x = true := by
  intro x hx
  rw [inB_iff]
  unfold tokB at hx
  rw [List.mem_cons] at hx
  rcases hx with rfl | hx
  · simp
  · split at hx
    · have := numB_in (W := 8) (by omega) (by decide) x hx
      simp at this; omega
    · rcases List.mem_append.1 hx with hx | hx
      · have := numB_in (W := 4) (by omega) (by decide) x hx
        simp at this; omega
      · have := numB_in (W := 8) (by omega) (by decide) x hx
        simp at this; omega
theorem bitsF_in (l : List Tok) : ∀ x ∈ bitsF l, inB 528 x = true := by
  intro x hx
  obtain ⟨t, _, h⟩ := List.mem_flatMap.1 hx
  exact tokB_in t x h
theorem bitsF_append (p q : List Tok) : bitsF (p ++ q) = bitsF p ++ bitsF q := by simp [bitsF]
/-- Nine bits for an octet, at the most. -/
theorem bitsF_len {n : Int} {l : List Tok} (h : okL n l = true) : ((bitsF l).length : Int) ≤ 9 * sumT l := by
  induction l generalizing n with
  | nil => simp [bitsF, sumT]
  | cons t r ih =>
    obtain ⟨h1, h2, h3⟩ := okL_cons.1 h
    have := ih h3
    have e : (bitsF (t :: r)).length = (tokB t).length + (bitsF r).length := by simp [bitsF]
    have hs : sumT (t :: r) = sizeT t + sumT r := rfl
    rw [e, hs, tokB_len h1]
    by_cases h0 : t.len = 0
    · rw [if_neg (by omega)]
      have : sizeT t = 1 := by unfold sizeT; rw [if_pos h0]
      omega
    · have ho := okT_len h1 h0
      rw [if_pos (by omega)]
      have : sizeT t = t.len := by unfold sizeT; rw [if_neg h0]
      omega
/-- How many bits tokens have. -/
theorem bitsF_cnt {n : Int} {l : List Tok} (h : okL n l = true) : (bitsF l).length = (l.map fun t => 9 + (if 0 < t.len then 4 else 0)).sum := by
  induction l generalizing n with
  | nil => simp [bitsF]
  | cons t r ih =>
    obtain ⟨h1, h2, h3⟩ := okL_cons.1 h
    have e : (bitsF (t :: r)).length = (tokB t).length + (bitsF r).length := by simp [bitsF]
    rw [e, tokB_len h1, ih h3]; simp

/-! ### reading -/
/-- A number read by a tree. -/
def treeR (t : List Int) (c : Int) : Nat → Nat → Rdr → Option (Nat × Rdr)
  | 0, m, r => some (m, r)
  | k + 1, m, r => if (nextR t r (c + m)).2.2 = 0 then treeR t c k (2 * m + (if (nextR t r (c + m)).1 then 1 else 0)) (nextR t r (c + m)).2.1 else none
/-- The next token. -/
def tokR (t : List Int) (r : Rdr) : Option (Tok × Rdr) :=
  if (nextR t r 0).2.2 = 0 then
    if (nextR t r 0).1 then
      match treeR t 256 4 1 (nextR t r 0).2.1 with
      | none => none
      | some (m, r1) => match treeR t 272 8 1 r1 with
        | none => none
        | some (q, r2) => some (⟨0, (m : Int) - 16 + 3, (q : Int) - 256 + 1⟩, r2)
    else match treeR t 0 8 1 (nextR t r 0).2.1 with
      | none => none
      | some (m, r1) => some (⟨UInt8.ofNat (m - 256), 0, 0⟩, r1)
  else none
/-- All tokens, as long as they tell less than 'n'. -/
def toksR (t : List Int) (n : Int) : Nat → Int → Rdr → List Tok → Option (List Tok × Rdr)
  | 0, _, r, acc => some (acc, r)
  | f + 1, told, r, acc => if told < n then (match tokR t r with | none => none | some (x, r') => toksR t n f (told + sizeT x) r' (acc ++ [x])) else some (acc, r)

theorem tree_ties {t : List Int} {c : Int} {n : Nat} (ht : okB t) (k m : Nat) {s : Enc} {r : Rdr} {ys : List Bit} (h : InvE s) (hx : ∀ y ∈ numB c n k m ++ ys, inB s.c.length y = true) (hr : Ties t s r)
    (hlen : (putAll s (numB c n k m ++ ys)).text.length + 4 ≤ t.length) (hnum : num (t.take ((putAll s (numB c n k m ++ ys)).text.length + 4)) = numE (putAll s (numB c n k m ++ ys))) :
    ∃ r', treeR t c k m r = some (m * 2 ^ k + n % 2 ^ k, r') ∧ Ties t (putAll s (numB c n k m)) r' ∧ InvE (putAll s (numB c n k m)) := by
  induction k generalizing m s r with
  | zero => exact ⟨r, by simp [treeR, Nat.mod_one], by simpa [numB, putAll] using hr, by simpa [numB, putAll] using h⟩
  | succ k ih =>
    have hh : numB c n (k + 1) m = ⟨c + m, n / 2 ^ k % 2 == 1⟩ :: numB c n k (2 * m + n / 2 ^ k % 2) := rfl
    rw [hh] at hx hlen hnum ⊢
    obtain ⟨b1, b2, b3⟩ := ties_next (ys := numB c n k (2 * m + n / 2 ^ k % 2) ++ ys) ht h (by simpa using hx) hr (by simpa using hlen) (by simpa using hnum)
    simp only [] at b1 b2 b3
    obtain ⟨g, _⟩ := put_ok h (hx ⟨c + m, n / 2 ^ k % 2 == 1⟩ (by simp))
    have hbit : (if (nextR t r (c + m)).1 then 1 else 0) = n / 2 ^ k % 2 := by
      rw [b1]
      rcases Nat.mod_two_eq_zero_or_one (n / 2 ^ k) with e | e <;> rw [e] <;> rfl
    obtain ⟨r', e1, e2, e3⟩ := ih (2 * m + n / 2 ^ k % 2) g (fun y hy => by rw [put_c]; exact hx y (by rw [List.cons_append]; exact List.mem_cons_of_mem _ hy)) b3 (by simpa [putAll] using hlen) (by simpa [putAll] using hnum)
    refine ⟨r', ?_, by simpa [putAll] using e2, by simpa [putAll] using e3⟩
    rw [treeR, if_pos b2, hbit, e1, Nat.mod_pow_succ]
    congr 2
    rw [Nat.add_mul, Nat.pow_succ]
    generalize n / 2 ^ k % 2 = q
    generalize 2 ^ k = P
    generalize n % P = z
    have : 2 * m * P = m * (P * 2) := by rw [Nat.mul_comm 2 m, Nat.mul_assoc, Nat.mul_comm 2 P]
    have : q * P = P * q := Nat.mul_comm _ _
    omega

theorem tok_ties {t : List Int} {x : Tok} (ht : okB t) (hok : okT x = true) {s : Enc} {r : Rdr} {ys : List Bit} (h : InvE s) (hc : s.c.length = 528) (hy : ∀ y ∈ ys, inB 528 y = true) (hr : Ties t s r)
    (hlen : (putAll s (tokB x ++ ys)).text.length + 4 ≤ t.length) (hnum : num (t.take ((putAll s (tokB x ++ ys)).text.length + 4)) = numE (putAll s (tokB x ++ ys))) :
    ∃ r', tokR t r = some (x, r') ∧ Ties t (putAll s (tokB x)) r' ∧ InvE (putAll s (tokB x)) := by
  have hin : ∀ y ∈ tokB x ++ ys, inB s.c.length y = true := by
    rw [hc]; intro y h1
    rcases List.mem_append.1 h1 with h1 | h1
    · exact tokB_in x y h1
    · exact hy y h1
  have hd : ∃ zs, tokB x = ⟨0, decide (0 < x.len)⟩ :: zs ∧ zs = (if x.len = 0 then numB 0 x.lit.toNat 8 1 else numB 256 (x.len - 3).toNat 4 1 ++ numB 272 (x.dist - 1).toNat 8 1) := ⟨_, rfl, rfl⟩
  obtain ⟨zs, e0, hz⟩ := hd
  rw [e0] at hlen hnum hin ⊢
  obtain ⟨b1, b2, b3⟩ := ties_next (ys := zs ++ ys) ht h (by simpa using hin) hr (by simpa using hlen) (by simpa using hnum)
  simp only [] at b1 b2 b3
  obtain ⟨g, _⟩ := put_ok h (hin ⟨0, decide (0 < x.len)⟩ (by simp))
  have hlen' : (putAll (put s ⟨0, decide (0 < x.len)⟩) (zs ++ ys)).text.length + 4 ≤ t.length := by simpa [putAll] using hlen
  have hnum' : num (t.take ((putAll (put s ⟨0, decide (0 < x.len)⟩) (zs ++ ys)).text.length + 4)) = numE (putAll (put s ⟨0, decide (0 < x.len)⟩) (zs ++ ys)) := by simpa [putAll] using hnum
  have hin' : ∀ y ∈ zs ++ ys, inB (put s ⟨0, decide (0 < x.len)⟩).c.length y = true := fun y h1 => by rw [put_c]; exact hin y (by rw [List.cons_append]; exact List.mem_cons_of_mem _ h1)
  have hcons : putAll s (⟨0, decide (0 < x.len)⟩ :: zs) = putAll (put s ⟨0, decide (0 < x.len)⟩) zs := rfl
  rw [hcons]
  generalize put s ⟨0, decide (0 < x.len)⟩ = s1 at *
  by_cases h0 : x.len = 0
  · rw [if_pos h0] at hz
    subst hz
    obtain ⟨r', e1, e2, e3⟩ := tree_ties ht 8 1 g hin' b3 hlen' hnum'
    refine ⟨r', ?_, e2, e3⟩
    unfold tokR
    have hb : (nextR t r 0).1 = false := by rw [b1, h0]; rfl
    rw [if_pos b2, hb]
    simp only [Bool.false_eq_true, if_false]
    rw [e1]
    simp only [Option.some.injEq, Prod.mk.injEq, and_true]
    have hx8 : x.lit.toNat < 256 := x.lit.toNat_lt
    refine Tok.eq ?_ h0.symm ?_
    · simp only []
      rw [show 1 * 2 ^ 8 + x.lit.toNat % 2 ^ 8 - 256 = x.lit.toNat by omega]
      simp
    · unfold okT at hok; rw [if_pos h0] at hok; exact (of_decide_eq_true hok).symm
  · rw [if_neg h0] at hz
    subst hz
    obtain ⟨l0, l1, l2, l3, l4⟩ := okT_len hok h0
    obtain ⟨r1, e1, e2, e3⟩ := tree_ties (ys := numB 272 (x.dist - 1).toNat 8 1 ++ ys) ht 4 1 g (by simpa using hin') b3 (by simpa using hlen') (by simpa using hnum')
    have happ : ∀ zs, putAll s1 (numB 256 (x.len - 3).toNat 4 1 ++ zs) = putAll (putAll s1 (numB 256 (x.len - 3).toNat 4 1)) zs := fun zs => by simp [putAll]
    rw [List.append_assoc, happ] at hlen' hnum'
    obtain ⟨r2, f1, f2, f3⟩ := tree_ties (ys := ys) ht 8 1 e3 (fun y h1 => by rw [putAll_c]; exact hin' y (by rw [List.append_assoc]; exact List.mem_append_right _ h1)) e2 hlen' hnum'
    rw [happ]
    refine ⟨r2, ?_, f2, f3⟩
    unfold tokR
    have hb : (nextR t r 0).1 = true := by rw [b1]; exact decide_eq_true (by omega)
    rw [if_pos b2, hb]
    simp only [if_true]
    rw [e1]
    simp only []
    rw [f1]
    simp only [Option.some.injEq, Prod.mk.injEq, and_true]
    refine Tok.eq l0.symm ?_ ?_
    · simp only []
      rw [show ((1 * 2 ^ 4 + (x.len - 3).toNat % 2 ^ 4 : Nat) : Int) - 16 + 3 = x.len by omega]
    · simp only []
      rw [show ((1 * 2 ^ 8 + (x.dist - 1).toNat % 2 ^ 8 : Nat) : Int) - 256 + 1 = x.dist by omega]

/-- Tokens behind 'acc' are read till 'n' is told. -/
theorem toks_ties {t : List Int} (ht : okB t) {n told : Int} (l acc : List Tok) (f : Nat) (hok : okL told l = true) (hn : told + sumT l = n) (hf : l.length ≤ f) {s : Enc} {r : Rdr} (h : InvE s) (hc : s.c.length = 528) (hr : Ties t s r)
    (hlen : (putAll s (bitsF l)).text.length + 4 ≤ t.length) (hnum : num (t.take ((putAll s (bitsF l)).text.length + 4)) = numE (putAll s (bitsF l))) :
    ∃ r', toksR t n f told r acc = some (acc ++ l, r') ∧ Ties t (putAll s (bitsF l)) r' := by
  induction l generalizing told acc f s r with
  | nil =>
    refine ⟨r, ?_, by simpa [bitsF, putAll] using hr⟩
    have : told = n := by simpa [sumT] using hn
    cases f with
    | zero => simp [toksR]
    | succ f => rw [toksR, if_neg (by omega)]; simp
  | cons x l ih =>
    obtain ⟨h1, h2, h3⟩ := okL_cons.1 hok
    have hs := okT_size h1
    have hsum := (okL_sum h3).1
    have hb : bitsF (x :: l) = tokB x ++ bitsF l := by simp [bitsF]
    have hn' : told + (sizeT x + sumT l) = n := hn
    rw [hb] at hlen hnum ⊢
    obtain ⟨r1, e1, e2, e3⟩ := tok_ties ht h1 h hc (bitsF_in l) hr hlen hnum
    have happ : ∀ zs, putAll s (tokB x ++ zs) = putAll (putAll s (tokB x)) zs := fun zs => by simp [putAll]
    rw [happ] at hlen hnum ⊢
    cases f with
    | zero => simp at hf
    | succ f =>
      obtain ⟨r2, f1, f2⟩ := ih (told := told + sizeT x) (acc ++ [x]) f h3 (by omega) (by simpa using hf) e3 (by rw [putAll_c]; exact hc) e2 hlen hnum
      refine ⟨r2, ?_, f2⟩
      rw [toksR, if_pos (by omega), e1]
      simp only []
      rw [f1, List.append_assoc]
      rfl

/-! ### packed texts -/
/-- An octet's number. -/
def octs (b : List UInt8) : List Int := b.map fun x => (x.toNat : Int)
theorem octs_ok (b : List UInt8) : okB (octs b) := fun x hx => by
  obtain ⟨y, _, rfl⟩ := List.mem_map.1 hx
  have := y.toNat_lt
  omega
/-- Four octets of a number, the lowest one first. -/
def le4 (n : Int) : List Int := [n % 256, n / 256 % 256, n / 65536 % 256, n / 16777216 % 256]
def packT (b : List UInt8) : List Int := le4 b.length ++ encT 528 (bitsF (toksB b))
/-- What Pack answers. -/
def packR (b : List UInt8) : List Int × Int := if b.length ≤ 65536 then (packT b, 0) else ([], 3)
/-- How long a text tells that it is. -/
def longN (t : List Int) : Int := t.getD 0 0 + 256 * t.getD 1 0 + 65536 * t.getD 2 0 + 16777216 * t.getD 3 0
def longR (t : List Int) : Int × Int := if t.length < 9 ∨ 65536 < longN t then (0, 2) else (longN t, 0)
/-- What Unpack answers. -/
def unpackR (t : List Int) (most : Int) : List UInt8 × Int :=
  if most < 0 then ([], 1)
  else if (longR t).2 ≠ 0 then ([], 2)
  else if most < longN t then ([], 3)
  else if startE 528 (t.drop 4) ≠ 0 then ([], 2)
  else match toksR (t.drop 4) (longN t) (longN t).toNat 0 (startR 528 (t.drop 4)) [] with
    | none => ([], 2)
    | some (l, r) => if okL 0 l && decide (sumT l ≤ longN t) && decide (r.used = (t.drop 4).length) then (textF [] l, 0) else ([], 2)

theorem toksB_bits {b : List UInt8} (hb : b.length ≤ 65536) : encE 528 (bitsF (toksB b)) = 0 := by
  have h1 := bitsF_len (toksB_text b).2
  rw [toksB_sum] at h1
  have hx : (bitsF (toksB b)).all (inB 528) = true := List.all_eq_true.2 (bitsF_in _)
  unfold encE
  rw [if_neg (by simp [newN]), if_neg (by omega), if_neg (by simpa using hx)]
theorem le4_long {n : Int} (h0 : 0 ≤ n) (h : n ≤ 65536) (more : List Int) : longN (le4 n ++ more) = n := by
  simp [longN, le4]; omega
theorem packT_drop (b : List UInt8) (more : List Int) : (packT b ++ more).drop 4 = encT 528 (bitsF (toksB b)) ++ more := by simp [packT, le4]
theorem packT_long {b : List UInt8} (hb : b.length ≤ 65536) (more : List Int) : longN (packT b ++ more) = b.length := by
  rw [packT, List.append_assoc]; exact le4_long (by omega) (by omega) _
theorem packT_len {b : List UInt8} (hb : b.length ≤ 65536) : (packT b).length = 4 + (encT 528 (bitsF (toksB b))).length ∧ 9 ≤ (packT b).length := by
  have := (short_len (toksB_bits hb)).1
  simp only [packT, List.length_append]
  have : (le4 (b.length : Int)).length = 4 := rfl
  omega
/-- P7.5: what was packed is unpacked, and all of it. -/
theorem unpack_pack {b : List UInt8} (hb : b.length ≤ 65536) {most : Int} (hm : (b.length : Int) ≤ most) (more : List Int) (hmo : okB more) :
    unpackR (packT b ++ more) most = if more = [] then (b, 0) else ([], 2) := by
  have he := toksB_bits hb
  have hl := packT_len hb
  obtain ⟨a1, a2⟩ := ties_start he more hmo
  obtain ⟨e1, e2, e3⟩ := encE_ok he
  obtain ⟨t1, t2⟩ := toksB_text b
  have ts := toksB_sum b
  have hel := encT_len he
  unfold unpackR
  rw [if_neg (by omega), packT_drop, packT_long hb]
  have hlr : longR (packT b ++ more) = ((b.length : Int), 0) := by
    unfold longR
    rw [packT_long hb, if_neg (by rw [List.length_append]; omega)]
  rw [hlr, if_neg (by simp), if_neg (by omega), if_neg (by simp [a1])]
  obtain ⟨r', f1, f2⟩ := toks_ties (okB_app (encT_okB he) hmo) (n := (b.length : Int)) (told := 0) (toksB b) [] ((b.length : Int)).toNat t2 (by omega) (by have := toksB_len b; omega) (start_ok (by omega)) (by rw [start_c]; rfl) a2
    (by rw [List.length_append]; omega)
    (by rw [← hel, List.take_append_of_le_length (Nat.le_refl _), List.take_length, encT_ok he]; exact endT_num _)
  rw [f1]
  simp only [List.nil_append]
  have hu : r'.used = (encT 528 (bitsF (toksB b))).length := by rw [f2.used, hel]
  rw [t2, decide_eq_true (by omega : sumT (toksB b) ≤ (b.length : Int)), hu]
  by_cases hmore : more = []
  · subst hmore; simp [t1]
  · rw [if_neg hmore, if_neg]
    have : 0 < more.length := by cases more; exact absurd rfl hmore; simp
    simp; exact hmore
end Go.Proofs.Ytfihgjdppkiolaa
