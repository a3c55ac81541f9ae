import Derived.Test.YthekgpmkoemmaaaL0
namespace Go.Proofs.Ythekgpmkoemmaaa

/-! ### what a clean name is -/
theorem name_parts {t : List UInt8} : nameB t = true ↔ t.length ≤ 96 ∧ ofName t = true ∧ (parts t).all okP = true := by
  simp [nameB, and_assoc]
theorem okP_ne {p : List UInt8} (h : okP p = true) : p.isEmpty = false ∧ (p == [46]) = false ∧ (p == [46, 46]) = false := by
  simp [okP, isE, isD, isU] at h
  obtain ⟨⟨h1, h2⟩, h3⟩ := h
  refine ⟨by simpa using h1, by simpa using h2, by simpa using h3⟩
theorem okP_ne' {p : List UInt8} (h : okP p = true) : p ≠ [] := by
  have := (okP_ne h).1
  rintro rfl
  cases this
theorem stepK_ok {k : List (List UInt8)} {p : List UInt8} (h : okP p = true) : stepK k p = some (k ++ [p]) := by
  obtain ⟨h1, h2, h3⟩ := okP_ne h
  unfold stepK
  rw [if_neg (by simp [isE, isD, h1, h2]), if_neg (by simp [isU, h3])]
theorem runK_ok : ∀ (ps k : List (List UInt8)), ps.all okP = true → runK k ps = some (k ++ ps)
  | [], k, _ => by simp [runK]
  | p :: ps, k, h => by
    rw [List.all_cons, Bool.and_eq_true] at h
    rw [runK, stepK_ok h.1]
    show runK (k ++ [p]) ps = _
    rw [runK_ok ps _ h.2]; simp
theorem runK_all : ∀ (ps k k' : List (List UInt8)), runK k ps = some k' → k.all okP = true → k'.all okP = true
  | [], k, k', h, hk => by injection h with h; rw [← h]; exact hk
  | p :: ps, k, k', h, hk => by
    rw [runK] at h
    cases hs : stepK k p with
    | none => rw [hs] at h; cases h
    | some k1 =>
      rw [hs] at h
      refine runK_all ps k1 k' h ?_
      unfold stepK at hs
      split at hs
      · injection hs with hs; rw [← hs]; exact hk
      · rename_i h1
        split at hs
        · split at hs
          · cases hs
          · injection hs with hs
            rw [← hs, List.all_eq_true]
            rw [List.all_eq_true] at hk
            exact fun x hx => hk x ((List.dropLast_sublist _).subset hx)
        · rename_i h3
          injection hs with hs
          rw [← hs, List.all_append, hk]
          simp at h1 h3
          simp [okP, h1, h3]
theorem runK_mem : ∀ (ps k k' : List (List UInt8)), runK k ps = some k' → ∀ x ∈ k', x ∈ k ∨ x ∈ ps
  | [], k, k', h, x, hx => by injection h with h; rw [← h] at hx; exact .inl hx
  | p :: ps, k, k', h, x, hx => by
    rw [runK] at h
    cases hs : stepK k p with
    | none => rw [hs] at h; cases h
    | some k1 =>
      rw [hs] at h
      rcases runK_mem ps k1 k' h x hx with h1 | h1
      · unfold stepK at hs
        split at hs
        · injection hs with hs; rw [← hs] at h1; exact .inl h1
        · split at hs
          · split at hs
            · cases hs
            · injection hs with hs
              rw [← hs] at h1
              exact .inl ((List.dropLast_sublist _).subset h1)
          · injection hs with hs
            rw [← hs] at h1
            rcases List.mem_append.1 h1 with h2 | h2
            · exact .inl h2
            · exact .inr (by simp at h2; simp [h2])
      · exact .inr (by simp [h1])
theorem ofName_append (a b : List UInt8) : ofName (a ++ b) = (ofName a && ofName b) := by simp [ofName]
theorem ofName_sl (b : List UInt8) : ofName (47 :: b) = ofName b := by simp [ofName, okC]
theorem ofName_tail (ps : List (List UInt8)) (h : ∀ p ∈ ps, ofName p = true) : ofName (tailJ ps) = true := by
  induction ps with
  | nil => rfl
  | cons p ps ih =>
    have e : tailJ (p :: ps) = 47 :: (p ++ tailJ ps) := by simp [tailJ]
    rw [e, ofName_sl, ofName_append, h p (by simp), ih (fun x hx => h x (by simp [hx]))]; rfl
theorem ofName_jn (ps : List (List UInt8)) (h : ∀ p ∈ ps, ofName p = true) : ofName (jn ps) = true := by
  cases ps with
  | nil => rfl
  | cons p ps => rw [jn, ofName_append, h p (by simp), ofName_tail ps (fun x hx => h x (by simp [hx]))]; rfl
theorem mem_tailJ {ps : List (List UInt8)} {p : List UInt8} (h : p ∈ ps) {c : UInt8} (hc : c ∈ p) : c ∈ tailJ ps := by
  induction ps with
  | nil => cases h
  | cons q ps ih =>
    rw [tailJ]
    rcases List.mem_cons.1 h with rfl | h
    · simp [hc]
    · simp [ih h]
theorem mem_jn {ps : List (List UInt8)} {p : List UInt8} (h : p ∈ ps) {c : UInt8} (hc : c ∈ p) : c ∈ jn ps := by
  cases ps with
  | nil => cases h
  | cons q ps =>
    rw [jn]
    rcases List.mem_cons.1 h with rfl | h
    · simp [hc]
    · simp [mem_tailJ h hc]
theorem ofName_part {t p : List UInt8} (ho : ofName t = true) (h : p ∈ parts t) : ofName p = true := by
  unfold ofName at *
  rw [List.all_eq_true] at *
  intro c hc
  have := mem_jn h hc
  rw [jn_parts] at this
  exact ho c this
theorem parts_mid (u v : List UInt8) : parts (u ++ 47 :: v) = parts u ++ parts v := by
  induction u with
  | nil => simp [parts]
  | cons c u ih =>
    rw [List.cons_append, parts, parts, ih]
    by_cases hc : c = 47
    · rw [if_pos hc, if_pos hc]; rfl
    · rw [if_neg hc, if_neg hc]
      cases hp : parts u with
      | nil => exact absurd hp (parts_ne u)
      | cons p ps => rfl
theorem parts_inj {a b : List UInt8} (h : parts a = parts b) : a = b := by rw [← jn_parts a, h, jn_parts]

/-- What is kept of a text of clean octets is a clean name. -/
theorem kept_name {t : List UInt8} {k : List (List UInt8)} (h96 : t.length ≤ 96) (ho : ofName t = true) (h : runK [] (parts t) = some k) (hk : k ≠ []) : nameB (jn k) = true ∧ parts (jn k) = k := by
  have hm : ∀ x ∈ k, x ∈ parts t := fun x hx => by
    rcases runK_mem _ _ _ h x hx with h1 | h1
    · cases h1
    · exact h1
  have hp : parts (jn k) = k := parts_jn k hk (fun x hx => parts_no t x (hm x hx))
  refine ⟨name_parts.2 ⟨Nat.le_trans (kept_jn h) h96, ofName_jn k (fun x hx => ofName_part ho (hm x hx)), ?_⟩, hp⟩
  rw [hp]
  exact runK_all _ _ _ h rfl
theorem cleanF_ok {t : List UInt8} (h : (cleanF t).2 = 0) : t.length ≤ 96 ∧ ofName t = true ∧ ∃ k, k ≠ [] ∧ runK [] (parts t) = some k ∧ (cleanF t).1 = jn k := by
  unfold cleanF at h ⊢
  by_cases h1 : 96 < t.length
  · rw [if_pos h1] at h; cases h
  · rw [if_neg h1] at h ⊢
    cases h2 : ofName t with
    | false => rw [if_pos h2] at h; cases h
    | true =>
      rw [h2, if_neg (by simp)] at h
      rw [if_neg (by simp)]
      refine ⟨by omega, rfl, ?_⟩
      cases h3 : runK [] (parts t) with
      | none => rw [h3] at h; cases h
      | some k =>
        rw [h3] at h
        unfold endK at h ⊢
        by_cases h4 : k = []
        · simp [h4] at h
        · exact ⟨k, h4, rfl, by simp [h4]⟩
theorem cleanF_of {t : List UInt8} {k : List (List UInt8)} (h1 : t.length ≤ 96) (h2 : ofName t = true) (h3 : runK [] (parts t) = some k) (h4 : k ≠ []) : cleanF t = (jn k, 0) := by
  unfold cleanF
  rw [if_neg (by omega), if_neg (by rw [h2]; simp), h3]
  simp [endK, h4]
theorem cleanF_name {t : List UInt8} (h : nameB t = true) : cleanF t = (t, 0) := by
  obtain ⟨h1, h2, h3⟩ := name_parts.1 h
  have := runK_ok (parts t) [] h3
  rw [List.nil_append] at this
  rw [cleanF_of h1 h2 this (parts_ne t), jn_parts]
theorem cleanF_err {t : List UInt8} (h : (cleanF t).2 ≠ 0) : (cleanF t).1 = [] := by
  unfold cleanF at h ⊢
  split
  · rfl
  · rename_i h1
    rw [if_neg h1] at h
    split
    · rfl
    · rename_i h2
      rw [if_neg h2] at h
      cases h3 : runK [] (parts t) with
      | none => rfl
      | some k =>
        rw [h3] at h
        unfold endK at h ⊢
        by_cases h4 : k = []
        · simp [h4]
        · simp [h4] at h
/-- NameClean's words. -/
theorem clean_facts (t : List UInt8) (h : (cleanF t).2 = 0) : nameB (cleanF t).1 = true ∧ cleanF (cleanF t).1 = ((cleanF t).1, 0) ∧ (cleanF t).1.length ≤ t.length := by
  obtain ⟨h1, h2, k, hk, hr, e⟩ := cleanF_ok h
  have hn := (kept_name h1 h2 hr hk).1
  rw [e]
  exact ⟨hn, cleanF_name hn, kept_jn hr⟩
theorem clean_iff (t : List UInt8) : nameB t = true ↔ (cleanF t).2 = 0 ∧ (cleanF t).1 = t := by
  constructor
  · intro h; rw [cleanF_name h]; exact ⟨rfl, rfl⟩
  · rintro ⟨h, e⟩
    have := (clean_facts t h).1
    rwa [e] at this

/-! ### within -/
theorem folder_cases {d : List UInt8} (h : folderB d = true) : d = [] ∨ nameB d = true := by
  simp [folderB, isE] at h
  exact h
theorem name_ne {p : List UInt8} (h : nameB p = true) : p ≠ [] := by rintro rfl; revert h; decide
theorem within_parts (d p : List UInt8) : (d ++ [47]).isPrefixOf p = true ↔ ∃ qs, qs ≠ [] ∧ parts p = parts d ++ qs := by
  rw [List.isPrefixOf_iff_prefix]
  constructor
  · rintro ⟨v, rfl⟩
    refine ⟨parts v, parts_ne v, ?_⟩
    rw [List.append_assoc]
    exact parts_mid d v
  · rintro ⟨qs, hq, e⟩
    cases qs with
    | nil => exact absurd rfl hq
    | cons q qs =>
      refine ⟨q ++ tailJ qs, ?_⟩
      have := congrArg jn e
      rw [jn_parts, jn_append _ _ (parts_ne d), jn_parts] at this
      rw [this, tailJ]; simp
theorem withinB_iff {d p : List UInt8} (hd : d ≠ []) : withinB d p = true ↔ ∃ qs, qs ≠ [] ∧ parts p = parts d ++ qs := by
  have : isE d = false := by simp [isE, hd]
  unfold withinB
  rw [this, Bool.false_or]
  exact within_parts d p
theorem withinB_nil (p : List UInt8) : withinB [] p = true := rfl
theorem folder_nil : folderB [] = true := rfl
theorem folder_name {d : List UInt8} (h : nameB d = true) : folderB d = true := by simp [folderB, h]
end Go.Proofs.Ythekgpmkoemmaaa
