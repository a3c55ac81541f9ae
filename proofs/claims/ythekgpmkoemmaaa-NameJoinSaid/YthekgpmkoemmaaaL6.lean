import Derived.Test.YthekgpmkoemmaaaL5
namespace Go.Proofs.Ythekgpmkoemmaaa

/-! ### a name, in two -/
theorem split_one {p d : List UInt8} (h : 47 ∉ p) : withinB d p = d.isEmpty := by
  by_cases hd : d = []
  · subst hd; rfl
  · have e : d.isEmpty = false := by simpa using hd
    rw [e]
    cases hw : withinB d p with
    | false => rfl
    | true =>
      obtain ⟨qs, hq, e⟩ := (withinB_iff hd).1 hw
      rw [parts_noslash p h] at e
      have := congrArg List.length e
      have h1 := List.length_pos_iff.2 (parts_ne d)
      have h2 := List.length_pos_iff.2 hq
      simp at this
      omega
theorem split_two {u v : List UInt8} (h : 47 ∉ v) (hn : nameB (u ++ 47 :: v) = true) : nameB u = true ∧ joinF u v = (u ++ 47 :: v, 0) ∧ withinB u (u ++ 47 :: v) = true := by
  obtain ⟨h1, h2, h3⟩ := name_parts.1 hn
  rw [parts_snoc u v h, List.all_append, Bool.and_eq_true] at h3
  rw [ofName_append, Bool.and_eq_true] at h2
  have hu : nameB u = true := name_parts.2 ⟨by simp at h1; omega, h2.1, h3.1⟩
  refine ⟨hu, ?_, ?_⟩
  · unfold joinF
    rw [if_neg (by rw [folder_name hu]; simp)]
    exact cleanF_name hn
  · exact (withinB_iff (name_ne hu)).2 ⟨[v], by simp, parts_snoc u v h⟩
theorem split_dir {u v d : List UInt8} (h : 47 ∉ v) : withinB d (u ++ 47 :: v) = (withinB d u || d == u) := by
  by_cases hd : d = []
  · subst hd; rfl
  · rw [Bool.eq_iff_iff, Bool.or_eq_true, withinB_iff hd, withinB_iff hd, beq_iff_eq, parts_snoc u v h]
    constructor
    · rintro ⟨qs, hq, e⟩
      rcases List.eq_nil_or_concat qs with rfl | ⟨qs', x, rfl⟩
      · exact absurd rfl hq
      · rw [List.concat_eq_append, ← List.append_assoc] at e
        have e1 := List.append_inj_left' e rfl
        cases qs' with
        | nil =>
          right
          rw [List.append_nil] at e1
          exact (parts_inj e1).symm
        | cons q qs' => exact .inl ⟨q :: qs', by simp, e1⟩
    · rintro (⟨qs, hq, e⟩ | rfl)
      · exact ⟨qs ++ [v], by simp, by rw [e, List.append_assoc]⟩
      · exact ⟨[v], by simp, rfl⟩

/-! ### joined -/
theorem joinF_err {d a : List UInt8} (h : (joinF d a).2 ≠ 0) : (joinF d a).1 = [] := by
  unfold joinF at h ⊢
  split
  · rfl
  · rename_i h1
    rw [if_neg h1] at h
    exact cleanF_err h
theorem joinF_ok {d a : List UInt8} (h : (joinF d a).2 = 0) : folderB d = true ∧ (d ++ 47 :: a).length ≤ 96 ∧ ofName d = true ∧ ofName a = true ∧
    ∃ k, k ≠ [] ∧ runK [] (parts d ++ parts a) = some k ∧ (joinF d a).1 = jn k ∧ nameB (jn k) = true ∧ parts (jn k) = k := by
  unfold joinF at h ⊢
  cases hf : folderB d with
  | false => rw [if_pos hf] at h; cases h
  | true =>
    rw [hf, if_neg (by simp)] at h
    rw [if_neg (by simp)]
    obtain ⟨h1, h2, k, hk, hr, e⟩ := cleanF_ok h
    obtain ⟨hn, hp⟩ := kept_name h1 h2 hr hk
    rw [ofName_append, ofName_sl, Bool.and_eq_true] at h2
    rw [parts_mid] at hr
    exact ⟨rfl, h1, h2.1, h2.2, k, hk, hr, e, hn, hp⟩
theorem runK_folder {d : List UInt8} (hf : folderB d = true) : ∃ k, runK [] (parts d) = some k ∧ (d = [] ∨ (k = parts d)) := by
  rcases folder_cases hf with rfl | hn
  · exact ⟨[], by decide, .inl rfl⟩
  · exact ⟨parts d, by simpa using runK_ok (parts d) [] (name_parts.1 hn).2.2, .inr rfl⟩
theorem join_within {d a : List UInt8} (h : (joinF d a).2 = 0) (ha : nameB a = true) : withinB d (joinF d a).1 = true := by
  obtain ⟨hf, _, _, _, k, hk, hr, e, hn, hp⟩ := joinF_ok h
  by_cases hd : d = []
  · subst hd; rfl
  · have hdn := (folder_cases hf).resolve_left hd
    have h1 := runK_ok (parts d) [] (name_parts.1 hdn).2.2
    have h2 := runK_ok (parts a) ([] ++ parts d) (name_parts.1 ha).2.2
    rw [runK_append, h1] at hr
    have hr' : runK ([] ++ parts d) (parts a) = some k := hr
    rw [h2] at hr'
    injection hr' with hr'
    rw [e]
    exact (withinB_iff hd).2 ⟨parts a, parts_ne a, by rw [hp, ← hr']; simp⟩
theorem join_two {d a b : List UInt8} (h : (joinF d a).2 = 0) (hg : (joinF (joinF d a).1 b).2 = 0) : (joinF d (a ++ 47 :: b)).2 = 3 ∨ joinF d (a ++ 47 :: b) = ((joinF (joinF d a).1 b).1, 0) := by
  obtain ⟨hf, _, od, oa, k, hk, hr, e, hn, hp⟩ := joinF_ok h
  rw [e] at hg ⊢
  obtain ⟨_, _, _, ob, k', hk', hr', e', _, _⟩ := joinF_ok hg
  rw [e']
  unfold joinF
  rw [hf, if_neg (by simp)]
  by_cases hl : 96 < (d ++ 47 :: (a ++ 47 :: b)).length
  · left
    unfold cleanF
    rw [if_pos hl]
  · right
    have ho : ofName (d ++ 47 :: (a ++ 47 :: b)) = true := by rw [ofName_append, ofName_sl, ofName_append, ofName_sl, od, oa, ob]; rfl
    refine cleanF_of (by omega) ho ?_ hk'
    rw [parts_mid, parts_mid, ← List.append_assoc, runK_append, hr]
    show runK k (parts b) = some k'
    rw [hp, runK_append] at hr'
    have := runK_ok k [] (by rw [← hp]; exact (name_parts.1 hn).2.2)
    rw [List.nil_append] at this
    rw [this] at hr'
    exact hr'
end Go.Proofs.Ythekgpmkoemmaaa
