import Derived.Test.YtnjepbehfioclaaA4
namespace Go.Proofs.Ytnjepbehfioclaa

/-- What is known of files that come in. -/
def InL (l : List Fl) : Prop := ∀ f ∈ l, f.rk < 18446744073709551616 ∧ U32F f
theorem fromE_zero {b : List UInt8} (h : fromE b = 0) : tabR b = some (fromL b) := by
  unfold fromE at h
  split at h
  · cases h
  · rename_i hl
    unfold fromL
    rw [if_neg hl]
    cases ht : tabR b with
    | none => rw [ht] at h; cases h
    | some l => rfl
theorem from_back {b : List UInt8} (h : fromE b = 0) : tabB (fromL b) = true ∧ tabT (fromL b) = b ∧ SmL (fromL b) ∧ SmU (fromL b) := by
  obtain ⟨h1, h2, h3, h4⟩ := tabR_text (fromE_zero h)
  exact ⟨h2, h1, fun f hf => ⟨by have := (h4 f hf).2; omega, (h4 f hf).1⟩, h3⟩
theorem from_cases (b : List UInt8) (hl : b.length ≤ 65536) : fromE b = 0 ∨ (fromE b = 2 ∧ fromL b = []) := by
  have hn : ¬ 65536 < b.length := by omega
  unfold fromE fromL
  simp only [if_neg hn]
  cases tabR b with
  | none => exact .inr ⟨rfl, rfl⟩
  | some l => exact .inl rfl
theorem from_sm (b : List UInt8) : SmL (fromL b) ∧ SmU (fromL b) := by
  by_cases hl : b.length ≤ 65536
  · rcases from_cases b hl with h | ⟨_, h⟩
    · exact (from_back h).2.2
    · rw [h]; exact ⟨fun _ hf => (by cases hf), fun _ hf => by cases hf⟩
  · unfold fromL; rw [if_pos (by omega)]; exact ⟨fun _ hf => (by cases hf), fun _ hf => by cases hf⟩
theorem from_len (b : List UInt8) : (fromL b).length ≤ 256 := by
  by_cases hl : b.length ≤ 65536
  · rcases from_cases b hl with h | ⟨_, h⟩
    · exact tab_len (from_back h).1
    · rw [h]; simp
  · unfold fromL; rw [if_pos (by omega)]; simp
theorem from_of {l : List Fl} (h : tabB l = true) (hi : InL l) : fromL (tabT l) = l.map canF ∧ fromE (tabT l) = 0 := by
  have hs := tab_short h
  have ht := tabR_of h (fun f hf => (hi f hf).2) (fun f hf => (hi f hf).1) (can_tab h)
  unfold fromL fromE
  rw [if_neg (by omega), if_neg (by omega), ht]
  exact ⟨rfl, rfl⟩
theorem files_of {l : List Fl} (h : tabB l = true) (hi : InL l) (r : List UInt8) : filesR l.length (filesT l ++ r) = some (l.map canF, r) :=
  filesR_of l r fun f hf => ⟨tab_ok h hf, (hi f hf).2, (hi f hf).1⟩
theorem tabT_two (l : List Fl) (x : List UInt8) : (tabT l ++ x).take 2 = putN 2 l.length ∧ (tabT l ++ x).drop 2 = filesT l ++ x := by
  have hp := putN_len 2 l.length
  unfold tabT
  rw [List.append_assoc]
  exact ⟨take_app hp, drop_app hp⟩
/-- A table's text with more behind it is none. -/
theorem from_more {l : List Fl} (h : tabB l = true) (hi : InL l) {x : List UInt8} (hx : x.length ≤ 100) (h0 : x ≠ []) : fromE (tabT l ++ x) = 2 := by
  have hs := tab_short h
  have h256 := tab_len h
  have hl : (tabT l ++ x).length ≤ 65536 := by rw [List.length_append]; omega
  rcases from_cases (tabT l ++ x) hl with he | he
  · exfalso
    have ht := fromE_zero he
    obtain ⟨e1, e2⟩ := tabT_two l x
    unfold tabR at ht
    rw [if_neg (by rw [List.length_append, tab_len']; omega), e1, e2, num_put 2 _ (by omega), files_of h hi x] at ht
    simp only [] at ht
    rw [if_neg (fun hc => h0 hc.1)] at ht
    cases ht
  · exact he.1
/-- No beginning of a table's text is one. -/
theorem from_cut {l : List Fl} (h : tabB l = true) (hi : InL l) {k : Nat} (hk : k < (tabT l).length) : fromE ((tabT l).take k) = 2 := by
  have hs := tab_short h
  have h256 := tab_len h
  have hl : ((tabT l).take k).length = k := by rw [List.length_take]; omega
  rcases from_cases ((tabT l).take k) (by omega) with he | he
  · exfalso
    have ht := fromE_zero he
    unfold tabR at ht
    split at ht
    · cases ht
    · rename_i h2
      rw [hl] at h2
      have e1 := (tabT_two l []).1
      have e2 := (tabT_two l []).2
      rw [List.append_nil] at e1 e2
      have e3 : ((tabT l).take k).take 2 = putN 2 l.length := by rw [List.take_take, Nat.min_eq_left (by omega), e1]
      rw [e3, num_put 2 _ (by omega)] at ht
      split at ht
      · cases ht
      · rename_i l' r hf
        split at ht
        · rename_i hc
          have hm := filesR_more hf ((tabT l).drop k)
          have e4 : ((tabT l).take k).drop 2 ++ (tabT l).drop k = filesT l ++ [] := by
            rw [← e2, ← List.drop_append_of_le_length (by rw [hl]; omega), List.take_append_drop]
          rw [e4, files_of h hi []] at hm
          injection hm with hm
          injection hm with _ hm
          have hlen := congrArg List.length hm
          rw [hc.1, List.nil_append, List.length_drop] at hlen
          simp at hlen
          omega
        · cases ht
  · exact he.1
theorem can_eq {x y : Fl} (h : canF x = canF y) : fOne x y = true := by
  obtain ⟨a, b, c, d, e, f⟩ := x
  obtain ⟨a', b', c', d', e', f'⟩ := y
  unfold canF at h
  simp only [Fl.mk.injEq] at h
  obtain ⟨h1, h2, h3, h4, h5, h6⟩ := h
  have hk : keyF b = keyF b' := by rw [← can_key (b := b), ← can_key (b := b'), h2]
  unfold fOne
  simp [h1, hk, h3, h4, h5, h6]
theorem one_text {x y : Fl} (h : fOne x y = true) : fileT x = fileT y := by
  unfold fOne at h
  simp only [Bool.and_eq_true, beq_iff_eq] at h
  obtain ⟨⟨⟨⟨⟨h1, h2⟩, h3⟩, h4⟩, h5⟩, h6⟩ := h
  unfold fileT numsT
  rw [h1, h2, h3, h4, h5, h6]
theorem files_same : ∀ {a b : List Fl}, sameB a b = true → filesT a = filesT b
  | [], [], _ => rfl
  | [], _ :: _, h => by have := (sameB_iff.1 h).1; simp at this
  | _ :: _, [], h => by have := (sameB_iff.1 h).1; simp at this
  | x :: a, y :: b, h => by
    obtain ⟨h1, h2⟩ := sameB_iff.1 h
    have h0 := h2 0 (by simp)
    have hr : sameB a b = true := sameB_iff.2 ⟨by simpa using h1, fun i hi => by have := h2 (i + 1) (by simpa using hi); simpa [nth] using this⟩
    rw [files_cons, files_cons, files_same hr, one_text (by simpa [nth] using h0)]
theorem tab_same {a b : List Fl} (h : sameB a b = true) : tabT a = tabT b := by
  unfold tabT; rw [(sameB_iff.1 h).1, files_same h]
theorem map_same {a b : List Fl} (h : a.map canF = b.map canF) : sameB a b = true := by
  have hl : a.length = b.length := by simpa using congrArg List.length h
  refine sameB_iff.2 ⟨hl, fun i hi => ?_⟩
  have e : (a.map canF)[i]? = (b.map canF)[i]? := by rw [h]
  rw [List.getElem?_eq_getElem (by simpa using hi), List.getElem?_eq_getElem (by simpa using hl ▸ hi)] at e
  simp at e
  rw [nth_get hi, nth_get (hl ▸ hi)]
  exact can_eq e
theorem text_same {a b : List Fl} (ha : tabB a = true) (hb : tabB b = true) (ia : InL a) (ib : InL b) : (tabT a == tabT b) = sameB a b := by
  rw [Bool.eq_iff_iff, beq_iff_eq]
  refine ⟨fun h => ?_, tab_same⟩
  have h1 := (from_of ha ia).1
  have h2 := (from_of hb ib).1
  rw [h, h2] at h1
  exact map_same h1.symm
theorem one_same {f g : Fl} (hf : okF f = true) (hg : okF g = true) (iF : f.rk < 18446744073709551616 ∧ U32F f) (ig : g.rk < 18446744073709551616 ∧ U32F g) : (fileT f == fileT g) = sameB [f] [g] := by
  rw [Bool.eq_iff_iff, beq_iff_eq]
  constructor
  · intro h
    have h1 := fileR_of hf iF.2 iF.1 []
    have h2 := fileR_of hg ig.2 ig.1 []
    rw [h, h2] at h1
    injection h1 with h1
    injection h1 with h1
    exact map_same (by simp [h1])
  · intro h
    have := files_same h
    simpa [filesT] using this
/-- What is read of a table's text is it. -/
theorem same_back (l : List Fl) : sameB (l.map canF) l = true := can_same
end Go.Proofs.Ytnjepbehfioclaa
