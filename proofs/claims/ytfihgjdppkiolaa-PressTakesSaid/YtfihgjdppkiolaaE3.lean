import Derived.Test.YtfihgjdppkiolaaE2
namespace Go.Proofs.Ytfihgjdppkiolaa

/-! ### a text without its end -/
theorem nextR_pre {t : List Int} {k : Nat} {r : Rdr} {i : Int} (hk : k ≤ t.length) (hu : r.used ≤ k) (h : (nextR (t.take k) r i).2.2 = 0) : nextR t r i = nextR (t.take k) r i ∧ (nextR (t.take k) r i).2.1.used ≤ k := by
  have hl : (t.take k).length = k := by rw [List.length_take]; omega
  unfold nextR at *
  by_cases h1 : ¬ (0 ≤ i ∧ i < r.c.length)
  · rw [if_pos h1] at h; simp at h
  · rw [if_neg h1] at h ⊢
    rw [if_neg h1]
    by_cases h2 : spanR r i < 16777216
    · rw [if_pos h2] at h ⊢
      rw [if_pos h2, hl]
      rw [hl] at h
      by_cases h3 : r.used < k
      · rw [if_pos h3, if_pos (by omega)]
        have : (t.take k).getD r.used 0 = t.getD r.used 0 := by
          rw [List.getD_eq_getElem?_getD, List.getD_eq_getElem?_getD, List.getElem?_take, if_pos h3]
        rw [this]
        exact ⟨rfl, by simp only []; omega⟩
      · rw [if_neg h3] at h; simp at h
    · rw [if_neg h2] at h ⊢
      rw [if_neg h2]
      exact ⟨rfl, hu⟩
theorem treeR_pre {t : List Int} {k : Nat} {c : Int} (hk : k ≤ t.length) (n m : Nat) {r : Rdr} {x : Nat × Rdr} (hu : r.used ≤ k) (h : treeR (t.take k) c n m r = some x) : treeR t c n m r = some x ∧ x.2.used ≤ k := by
  induction n generalizing m r with
  | zero => rw [treeR] at h ⊢; injection h with h; subst h; exact ⟨rfl, hu⟩
  | succ n ih =>
    rw [treeR] at h ⊢
    split at h
    · rename_i h1
      obtain ⟨e1, e2⟩ := nextR_pre hk hu h1
      rw [e1, if_pos h1]
      exact ih _ e2 h
    · cases h
theorem tokR_pre {t : List Int} {k : Nat} (hk : k ≤ t.length) {r : Rdr} {x : Tok × Rdr} (hu : r.used ≤ k) (h : tokR (t.take k) r = some x) : tokR t r = some x ∧ x.2.used ≤ k := by
  unfold tokR at h ⊢
  split at h
  · rename_i h1
    obtain ⟨e1, e2⟩ := nextR_pre hk hu h1
    rw [e1, if_pos h1]
    split at h
    · rename_i h2
      rw [if_pos h2]
      split at h
      · cases h
      · rename_i m r1 h3
        obtain ⟨f1, f2⟩ := treeR_pre hk _ _ e2 h3
        rw [f1]
        simp only []
        split at h
        · cases h
        · rename_i q r2 h4
          obtain ⟨g1, g2⟩ := treeR_pre hk _ _ f2 h4
          rw [g1]
          simp only []
          injection h with h
          subst h
          exact ⟨rfl, g2⟩
    · rename_i h2
      rw [if_neg h2]
      split at h
      · cases h
      · rename_i m r1 h3
        obtain ⟨f1, f2⟩ := treeR_pre hk _ _ e2 h3
        rw [f1]
        simp only []
        injection h with h
        subst h
        exact ⟨rfl, f2⟩
  · cases h
theorem toksR_pre {t : List Int} {k : Nat} (hk : k ≤ t.length) {n : Int} (f : Nat) {told : Int} {r : Rdr} {acc : List Tok} {x : List Tok × Rdr} (hu : r.used ≤ k) (h : toksR (t.take k) n f told r acc = some x) : toksR t n f told r acc = some x ∧ x.2.used ≤ k := by
  induction f generalizing told r acc with
  | zero => rw [toksR] at h ⊢; injection h with h; subst h; exact ⟨rfl, hu⟩
  | succ f ih =>
    rw [toksR] at h ⊢
    split at h
    · rename_i h1
      rw [if_pos h1]
      split at h
      · cases h
      · rename_i y r' h2
        obtain ⟨e1, e2⟩ := tokR_pre hk hu h2
        rw [e1]
        simp only []
        exact ih e2 h
    · rename_i h1
      rw [if_neg h1]
      injection h with h
      subst h
      exact ⟨rfl, hu⟩

/-- P7.5: one octet less is not enough. -/
theorem unpack_short {b : List UInt8} (hb : b.length ≤ 65536) {most : Int} (hm : (b.length : Int) ≤ most) : unpackR ((packT b).take ((packT b).length - 1)) most = ([], 2) := by
  have he := toksB_bits hb
  obtain ⟨hl, hl9⟩ := packT_len hb
  obtain ⟨a1, a2⟩ := ties_start he [] (fun x hx => by simp at hx)
  rw [List.append_nil] at a1 a2
  obtain ⟨e1, e2, e3⟩ := encE_ok he
  obtain ⟨t1, t2⟩ := toksB_text b
  have ts := toksB_sum b
  have hel := encT_len he
  have hlen : ((packT b).take ((packT b).length - 1)).length = (packT b).length - 1 := by rw [List.length_take]; omega
  have hdrop : ((packT b).take ((packT b).length - 1)).drop 4 = (encT 528 (bitsF (toksB b))).take ((encT 528 (bitsF (toksB b))).length - 1) := by
    have h1 := packT_drop b []
    rw [List.append_nil, List.append_nil] at h1
    rw [List.drop_take, h1, show (packT b).length - 1 - 4 = (encT 528 (bitsF (toksB b))).length - 1 by omega]
  unfold unpackR
  rw [if_neg (by omega)]
  by_cases h9 : (packT b).length - 1 < 9
  · rw [if_pos (by unfold longR; rw [if_pos (Or.inl (by omega))]; simp)]
  have hlong : longN ((packT b).take ((packT b).length - 1)) = b.length := by
    have := packT_long hb []
    rw [List.append_nil] at this
    rw [← this]
    unfold longN
    simp only [List.getD_eq_getElem?_getD, List.getElem?_take]
    rw [if_pos (by omega), if_pos (by omega), if_pos (by omega), if_pos (by omega)]
  have hlr : longR ((packT b).take ((packT b).length - 1)) = ((b.length : Int), 0) := by
    unfold longR
    rw [hlong, if_neg (by omega)]
  rw [hlr, if_neg (by simp), hlong, if_neg (by omega), hdrop]
  by_cases hst : startE 528 ((encT 528 (bitsF (toksB b))).take ((encT 528 (bitsF (toksB b))).length - 1)) = 0
  · rw [if_neg (by simp [hst])]
    have h5 := startE_iff.1 hst
    rw [List.length_take] at h5
    have hsr : startR 528 ((encT 528 (bitsF (toksB b))).take ((encT 528 (bitsF (toksB b))).length - 1)) = startR 528 (encT 528 (bitsF (toksB b))) := by
      unfold startR
      rw [show (((encT 528 (bitsF (toksB b))).take ((encT 528 (bitsF (toksB b))).length - 1)).drop 1).take 4 = ((encT 528 (bitsF (toksB b))).drop 1).take 4 by rw [List.drop_take, List.take_take, Nat.min_eq_left (by omega)]]
    rw [hsr]
    obtain ⟨r', f1, f2⟩ := toks_ties (encT_okB he) (n := (b.length : Int)) (told := 0) (toksB b) [] ((b.length : Int)).toNat t2 (by omega) (by have := toksB_len b; omega) (start_ok (by omega)) (by rw [start_c]; rfl) a2
      (by omega) (by rw [← hel, List.take_length, encT_ok he]; exact endT_num _)
    split
    · rfl
    · rename_i l r hh
      exfalso
      obtain ⟨g1, g2⟩ := toksR_pre (by omega) _ (by show 5 ≤ _; omega) hh
      rw [f1] at g1
      injection g1 with g1
      rw [← g1] at g2
      have hu := f2.used
      simp only [] at g2
      omega
  · rw [if_pos hst]

/-! ### how many octets come -/
theorem treeR_ge {t : List Int} {c : Int} (n m : Nat) {r : Rdr} {x : Nat × Rdr} (h : treeR t c n m r = some x) : m * 2 ^ n ≤ x.1 ∧ x.1 < (m + 1) * 2 ^ n := by
  induction n generalizing m r with
  | zero => rw [treeR] at h; injection h with h; subst h; simp
  | succ n ih =>
    rw [treeR] at h
    split at h
    · obtain ⟨a, b⟩ := ih _ h
      rw [Nat.pow_succ]
      generalize 2 ^ n = P at *
      have e1 : m * (P * 2) = 2 * m * P := by rw [Nat.mul_comm P 2, ← Nat.mul_assoc, Nat.mul_comm m 2]
      have e2 : (m + 1) * (P * 2) = 2 * m * P + 2 * P := by rw [Nat.add_mul, Nat.one_mul, e1]; omega
      rw [e1, e2]
      split at a <;> split at b <;> simp only [Nat.add_mul, Nat.one_mul, Nat.add_zero] at a b <;> omega
    · cases h
/-- What is read may be a token by itself. -/
theorem tokR_ok {t : List Int} {r : Rdr} {x : Tok × Rdr} (h : tokR t r = some x) : okT x.1 = true := by
  unfold tokR at h
  split at h
  · split at h
    · split at h
      · cases h
      · rename_i m r1 h3
        split at h
        · cases h
        · rename_i q r2 h4
          injection h with h
          subst h
          have a := treeR_ge _ _ h3
          have b := treeR_ge _ _ h4
          simp only [] at a b
          unfold okT
          simp only []
          rw [if_neg (by omega)]
          simp
          omega
    · split at h
      · cases h
      · rename_i m r1 h3
        injection h with h
        subst h
        simp [okT]
  · cases h
theorem toksR_told {t : List Int} {n : Int} (f : Nat) {told : Int} {r : Rdr} {acc : List Tok} {x : List Tok × Rdr} (h : toksR t n f told r acc = some x) (hf : n ≤ told + f) : ∃ l, x.1 = acc ++ l ∧ n ≤ told + sumT l := by
  induction f generalizing told r acc with
  | zero => rw [toksR] at h; injection h with h; subst h; exact ⟨[], by simp, by simp [sumT]; omega⟩
  | succ f ih =>
    rw [toksR] at h
    split at h
    · split at h
      · cases h
      · rename_i y r' h2
        have hs := okT_size (tokR_ok h2)
        simp only [] at hs
        obtain ⟨l, e, hl⟩ := ih h (by omega)
        refine ⟨y :: l, by rw [e, List.append_assoc]; rfl, ?_⟩
        have : sumT (y :: l) = sizeT y + sumT l := rfl
        omega
    · injection h with h
      subst h
      exact ⟨[], by simp, by simp [sumT]; omega⟩
/-- P7.5: no more octets come than are told. -/
theorem unpack_most {t : List Int} {most : Int} (ht : okB t) : ((unpackR t most).2 = 0 ∧ (longR t).2 = 0 ∧ ((unpackR t most).1.length : Int) = (longR t).1 ∧ (longR t).1 ≤ most) ∨
    ((unpackR t most).1 = [] ∧ ((unpackR t most).2 = 2 ∨ ((unpackR t most).2 = 3 ∧ (longR t).2 = 0 ∧ most < (longR t).1) ∨ ((unpackR t most).2 = 1 ∧ most < 0))) := by
  unfold unpackR
  by_cases h1 : most < 0
  · rw [if_pos h1]; exact .inr ⟨rfl, .inr (.inr ⟨rfl, h1⟩)⟩
  rw [if_neg h1]
  by_cases h2 : (longR t).2 ≠ 0
  · rw [if_pos h2]; exact .inr ⟨rfl, .inl rfl⟩
  rw [if_neg h2]
  have h2' : (longR t).2 = 0 := by simpa using h2
  have hl : (longR t).1 = longN t := by
    unfold longR at h2' ⊢
    split
    · rename_i h; rw [if_pos h] at h2'; cases h2'
    · rfl
  have hn0 : 0 ≤ longN t := by
    have hg : ∀ i, 0 ≤ t.getD i 0 := fun i => by
      rw [List.getD_eq_getElem?_getD]
      cases hh : t[i]? with
      | none => simp
      | some y => exact (ht y (List.mem_of_getElem? hh)).1
    have := hg 0; have := hg 1; have := hg 2; have := hg 3
    unfold longN; omega
  by_cases h3 : most < longN t
  · rw [if_pos h3]; exact .inr ⟨rfl, .inr (.inl ⟨rfl, h2', by omega⟩)⟩
  rw [if_neg h3]
  by_cases h4 : startE 528 (t.drop 4) ≠ 0
  · rw [if_pos h4]; exact .inr ⟨rfl, .inl rfl⟩
  rw [if_neg h4]
  split
  · exact .inr ⟨rfl, .inl rfl⟩
  · rename_i l r hh
    by_cases h5 : (okL 0 l && decide (sumT l ≤ longN t) && decide (r.used = (t.drop 4).length)) = true
    · rw [if_pos h5]
      simp only [Bool.and_eq_true, decide_eq_true_eq] at h5
      obtain ⟨⟨k1, k2⟩, k3⟩ := h5
      obtain ⟨l', e, hs⟩ := toksR_told _ hh (by omega)
      simp only [List.nil_append] at e
      subst e
      have := textF_len (b := []) k1
      simp only [List.length_nil] at this
      exact .inl ⟨rfl, h2', by simp only []; rw [hl]; omega, by omega⟩
    · rw [if_neg h5]; exact .inr ⟨rfl, .inl rfl⟩
end Go.Proofs.Ytfihgjdppkiolaa
