import Derived.Test.YtkgfmiicfegnlaaV7
namespace Go.Proofs.Ytkgfmiicfegnlaa
open Go.RowKit
set_option maxRecDepth 100000

/-! ### the greatest rank first, plainly -/
def ltB (a b : Fl) : Prop := rkey a < rkey b ∨ (rkey a = rkey b ∧ ltN a.nm b.nm = true)
theorem ltB_asymm {a b : Fl} (h : ltB a b) (h' : ltB b a) : False := by
  unfold ltB at *
  rcases h with h | ⟨h, h2⟩
  · rcases h' with h' | ⟨h', _⟩ <;> omega
  · rcases h' with h' | ⟨_, h3⟩
    · omega
    · rw [lt_asymm h2] at h3; cases h3
structure IsBest (l d : List Fl) : Prop where
  perm : d.Perm l
  pair : d.Pairwise ltB
theorem best_uniq {l d e : List Fl} (h : IsBest l d) (h' : IsBest l e) : d = e :=
  List.Perm.eq_of_pairwise (le := ltB) (fun _ _ _ _ h1 h2 => (ltB_asymm h1 h2).elim) h.pair h'.pair (h.perm.trans h'.perm.symm)
def insB (d : List Fl) (f : Fl) : List Fl := d.filter (fun x => decide (rkey x ≤ rkey f)) ++ f :: d.filter (fun x => !decide (rkey x ≤ rkey f))
theorem best_put {p d : List Fl} {f : Fl} (h : IsBest p d) (hf : ∀ x ∈ p, ltN x.nm f.nm = true) : IsBest (p ++ [f]) (insB d f) := by
  unfold insB
  constructor
  · refine List.perm_middle.trans ?_
    refine ((List.filter_append_perm _ _).cons f).trans ?_
    refine (h.perm.cons f).trans ?_
    exact (List.perm_append_singleton f p).symm
  · rw [List.pairwise_append, List.pairwise_cons]
    have hp : ∀ x ∈ d, ltN x.nm f.nm = true := fun x hx => hf x (h.perm.mem_iff.1 hx)
    refine ⟨h.pair.filter _, ⟨fun y hy => ?_, h.pair.filter _⟩, fun x hx y hy => ?_⟩
    · have := (List.mem_filter.1 hy).2
      simp at this
      exact .inl this
    · obtain ⟨h1, h2⟩ := List.mem_filter.1 hx
      have h2 := of_decide_eq_true h2
      rcases List.mem_cons.1 hy with rfl | hy
      · rcases Nat.lt_or_ge (rkey x) (rkey y) with h3 | h3
        · exact .inl h3
        · exact .inr ⟨by omega, hp x h1⟩
      · have := (List.mem_filter.1 hy).2
        simp at this
        exact .inl (by omega)
def bestL (l : List Fl) : List Fl := l.foldl insB []
theorem best_fold {l : List Fl} : ∀ {p d : List Fl}, IsBest p d → Up (p ++ l) → IsBest (p ++ l) (l.foldl insB d) := by
  induction l with
  | nil => intro p d h _; simpa using h
  | cons f r ih =>
    intro p d h hu
    have e : p ++ f :: r = (p ++ [f]) ++ r := by simp
    rw [e] at hu ⊢
    refine ih (best_put h fun x hx => ?_) hu
    exact (List.pairwise_append.1 (List.pairwise_append.1 hu).1).2.2 x hx f (List.mem_singleton.2 rfl)
theorem best_is {l : List Fl} (h : Up l) : IsBest l (bestL l) := by
  have := best_fold (l := l) (p := []) (d := []) ⟨.refl _, .nil⟩ (by simpa using h)
  unfold bestL; simpa using this
theorem best_eq {l d : List Fl} (h : Up l) (h' : IsBest l d) : d = bestL l := best_uniq h' (best_is h)
def bestR (l : List Fl) : List Fl := if tabB l = true then bestL l else []
/-- What is mixed and goes up, stable. -/
theorem best_mix {l : List Fl} {d : Array Fl} (h : Up l) (hm : Mix 0 l.toArray.size l.toArray d) (hs : Srt d 0 l.toArray.size) : IsBest l d.toList := by
  have h0 : Stb l.toArray := fun i j hij hj hk => by
    unfold Up at h
    rw [List.pairwise_iff_getElem] at h
    have hj' : j < l.length := by simpa using hj
    have := h i j (by omega) hj' hij
    rw [nt_get (d := l.toArray) (by omega), nt_get hj]
    simpa using this
  have h1 := hm.stb h0
  refine ⟨hm.perm, ?_⟩
  rw [List.pairwise_iff_getElem]
  intro i j hi hj hij
  have hi' : i < d.size := by simpa using hi
  have hj' : j < d.size := by simpa using hj
  have e1 : nt d i = d.toList[i] := by rw [nt_get hi', Array.getElem_toList]
  have e2 : nt d j = d.toList[j] := by rw [nt_get hj', Array.getElem_toList]
  have h3 := hs i j (Nat.zero_le _) hij (by rw [← hm.len]; exact hj')
  have h4 := h1 i j hij hj'
  unfold ky at h3 h4
  rw [e1, e2] at h3 h4
  rcases Nat.lt_or_ge (rkey d.toList[i]) (rkey d.toList[j]) with h5 | h5
  · exact .inl h5
  · have : rkey d.toList[i] = rkey d.toList[j] := by omega
    exact .inr ⟨this, h4 this⟩
theorem small_arr {l : List Fl} (h : SmL l) : Small l.toArray := fun i => by
  rcases Nat.lt_or_ge i l.toArray.size with hi | hi
  · rw [nt_get hi]
    exact (h _ (by simp)).2
  · unfold nt
    rw [getElem!_neg _ _ (by omega)]
    decide

/-! ### a row of the call's own, sorted -/
theorem own_rowF {w : World} {base : Nat} {v : Value} {l : List Fl} (h : OwnF w base v l) :
    (v = .slice none 0 0 ∧ l = []) ∨ ∃ g c sp, v = .slice (some ⟨g, 0, none⟩) l.length c ∧ base ≤ g ∧ l.length ≤ c ∧ c ≤ maxLen ∧ Row g sp w w l.toArray ∧ sp.length = (c - l.length) * 6 := by
  rcases h.2 with ⟨h1, h2⟩ | ⟨g, cap, cur, h1, h2, h3, h4, h5, h6, h7⟩
  · exact .inl ⟨h1, List.eq_nil_of_length_eq_zero h2⟩
  · refine .inr ⟨g, cap, cur.toList.drop (l.length * 6), h1, h2, h4, h5, ⟨?_, But.refl g w⟩, ?_⟩
    · have : rwA l.toArray (cur.toList.drop (l.length * 6)) = cur := by
        unfold rwA
        rw [← h7, List.take_append_drop, Array.toArray_toList]
      rw [this]; exact h3
    · rw [List.length_drop, Array.length_toList, h6]; omega
theorem Row.own {g : Nat} {sp : List Value} {w0 w : World} {d : Array Fl} (h : Row g sp w0 w d) {base c : Nat} (hb : base ≤ g) (hc : d.size ≤ c) (hm : c ≤ maxLen) (hs : sp.length = (c - d.size) * 6) : OwnF w base (.slice (some ⟨g, 0, none⟩) d.size c) d.toList := by
  have hl : (d.toList.flatMap fc).length = d.size * 6 := by rw [flat_len fc_len, Array.length_toList]
  refine ⟨by rw [hl, Array.length_toList], .inr ⟨g, c, _, by rw [Array.length_toList], hb, h.blk, by rw [Array.length_toList]; exact hc, hm, ?_, ?_⟩⟩
  · rw [rwA_size]; omega
  · unfold rwA
    rw [List.take_append_of_le_length (by simp [hl])]
    rw [List.take_of_length_le (by simp [hl])]

theorem insertion_nil (w : World) : Calls Try.prog 85 #[.slice none 0 0, .int .i64 0, .int .i64 0, fV] w fun e w' => e = .returned (.tuple #[]) ∧ w = w' := by
  go_enter Try.func85, Try.ntmps85
  go_wp2
  refine wp_loop_rounds 1 ?_
  rw [rounds_succ]
  go_wp2
  all_goals first | (exfalso; omega) | (go_end0; exact ⟨rfl, rfl⟩)
theorem stable_nil (w : World) : Calls Try.prog 73 #[.slice none 0 0, .int .i64 0, fV] w fun e w' => e = .returned (.tuple #[]) ∧ w = w' := by
  have h := fun W => insertion_nil W
  replace h := hide h
  go_enter Try.func73, Try.ntmps73
  go_wp2
  refine wp_loop_rounds 1 ?_
  rw [rounds_succ]
  go_wp2_with (go_at_call 85; refine (unhide h _).mono ?_; rintro ez w2 ⟨rfl, rfl⟩)
  refine wp_loop_rounds 1 ?_
  rw [rounds_succ]
  go_wp2
  all_goals first | (exfalso; omega) | (go_end0; exact ⟨rfl, rfl⟩)
theorem sort_nil (w : World) : Calls Try.prog 52 #[.slice none 0 0, fV] w fun e w' => e = .returned (.tuple #[]) ∧ w = w' := by
  have h := fun W => stable_nil W
  replace h := hide h
  go_enter Try.func52, Try.ntmps52
  go_wp2_with (go_at_call 73; refine (unhide h _).mono ?_; rintro ez w2 ⟨rfl, rfl⟩)
  all_goals go_end0
  all_goals exact ⟨rfl, rfl⟩
theorem sort_any (g : Nat) (sp : List Value) (d : Array Fl) (c : Nat) (w : World) (h : Row g sp w w d) (hs : Small d) (hl : d.size < 1000000) :
    Calls Try.prog 52 #[.slice (some ⟨g, 0, none⟩) d.size c, fV] w fun e w' => e = .returned (.tuple #[]) ∧ ∃ d', Mix 0 d.size d d' ∧ Srt d' 0 d.size ∧ Row g sp w w' d' := by
  have hS := fun (W : World) (h : Row g sp W W d) => stable_any g sp d c W h hs hl
  obtain ⟨n, hn⟩ : ∃ n, n = d.size := ⟨_, rfl⟩
  rw [← hn] at hS ⊢
  replace h := hide h; replace hS := hide hS
  clear hs hl hn
  go_enter Try.func52, Try.ntmps52
  go_wp2_with (go_at_call 73; refine (unhide hS _ (unhide h).self).mono ?_; rintro ez w2 ⟨rfl, hd⟩; replace hd := hide hd)
  all_goals go_end0
  all_goals exact ⟨rfl, unhide hd⟩
/-- What is sorted in place: a row of the call's own. -/
theorem sort_own {base : Nat} {v : Value} {l : List Fl} {w : World} (h : OwnF w base v l) (hb : base ≤ w.heap.size) (hu : Up l) (hs : SmL l) (hl : l.length < 1000000) :
    Calls Try.prog 52 #[v, fV] w fun e w' => e = .returned (.tuple #[]) ∧ OwnF w' base v (bestL l) ∧ Below base w w' := by
  rcases own_rowF h with ⟨rfl, rfl⟩ | ⟨g, c, sp, rfl, h1, h2, h3, h4, h5⟩
  · refine (sort_nil w).mono ?_
    rintro e w1 ⟨rfl, rfl⟩
    exact ⟨rfl, own_nil _ _, Below.refl _ _⟩
  · have e0 : l.toArray.size = l.length := by simp
    have := sort_any g sp l.toArray c w h4 (small_arr hs) (by omega)
    rw [e0] at this
    refine this.mono ?_
    rintro e w1 ⟨rfl, d, m1, s1, r1⟩
    rw [← e0] at m1 s1
    have hB := best_eq hu (best_mix hu m1 s1)
    have e1 : d.size = l.length := m1.len.trans e0
    have q := r1.own (base := base) (c := c) h1 (by omega) h3 (by rw [e1]; exact h5)
    rw [hB, e1] at q
    exact ⟨rfl, q, r1.but.below h1 hb⟩
theorem bestR_t {l : List Fl} (h : tabB l = true) : bestR l = bestL l := by unfold bestR; rw [h]; rfl
theorem bestR_f {l : List Fl} (h : tabB l = false) : bestR l = [] := by unfold bestR; rw [h]; rfl
attribute [local go_sem] bz_size bz_toList run_store_float
set_option maxHeartbeats 1000000 in
theorem Best_any (lo hi : Nat) (v : Value) (l : List Fl) (w : World) (h : Fls lo hi w v l) (hhi : hi ≤ w.heap.size) (hs : SmL l) :
    Calls Try.prog 26 #[v] w fun e w' => ∃ v', e = .returned (.tuple #[v', .int .i64 (errB (tabB l))]) ∧ OwnF w' w.heap.size v' (bestR l) ∧ Below w.heap.size w w' := by
  have hT := isTable_any lo hi v l w h hhi hs
  cases ht : tabB l with
  | false =>
    rw [ht] at hT
    rw [bestR_f ht, err_f]
    clear ht h hhi hs
    obtain ⟨b, hb⟩ : ∃ b, b = false := ⟨_, rfl⟩
    replace hT := hide hT
    go_enter Try.func26, Try.ntmps26
    go_wp2_with (go_at_call 32; refine (unhide hT).mono ?_; rintro e w1 ⟨rfl, B1⟩)
    go_ret2
    exact ⟨_, rfl, own_nil _ _, B1⟩
  | true =>
    rw [ht] at hT
    rw [bestR_t ht, err_t]
    have hl := tab_len ht
    have hh := h
    obtain ⟨A, c, rfl, hx⟩ := hh
    clear hx
    have hG := fun (W : World) (hB : Below w.heap.size w W) => together_any 0 W.heap.size [l] (W.alloc (.cells #[.slice A l.length c] 22)) (fun k hk => by
      have hk : k = 0 := by simp at hk; omega
      subst hk
      refine ⟨A, c, ?_, ?_⟩
      · rw [(Blk.new (w := W) rfl).cell]; rfl
      · exact ((h.below hB hhi).below ((Below.refl _ _).alloc (Nat.le_refl _) _) (Nat.le_trans hhi hB.size)).mono (Nat.zero_le _) (by simp only [World.size_alloc]; have := hB.size; omega)) (by simp) (by simp) (by unfold upto; simp; omega) (fun f hf => by
        have : cat [l] [l].length = l := by simp [cat]
        rw [this] at hf
        have := (hs f hf).1; omega)
    have e0 : cat [l] [l].length = l := by simp [cat]
    rw [e0] at hG
    replace hG : ∀ (W : World), Below w.heap.size w W → Calls Try.prog 51 #[.slice (some ⟨W.heap.size, 0, none⟩) 1 1] (W.alloc (.cells #[.slice A l.length c] 22)) (fun e w' => ∃ v, e = .returned v ∧ OwnF w' (W.alloc (.cells #[.slice A l.length c] 22)).heap.size v l ∧ Below (W.alloc (.cells #[.slice A l.length c] 22)).heap.size (W.alloc (.cells #[.slice A l.length c] 22)) w') := hG
    have hS := fun (W : World) (v' : Value) (h : OwnF W w.heap.size v' l) (hb : w.heap.size ≤ W.heap.size) => sort_own h hb (tab_up ht) hs (by omega)
    clear ht h hs hhi e0
    generalize l.length = n at *
    obtain ⟨r, hr⟩ : ∃ r, r = bestL l := ⟨_, rfl⟩
    rw [← hr] at hS ⊢
    clear hr
    replace hT := hide hT; replace hG := hide hG; replace hS := hide hS
    go_enter Try.func26, Try.ntmps26
    go_wp2_with (first
      | (go_at_call 32; refine (unhide hT).mono ?_; rintro e w1 ⟨rfl, B1⟩; replace B1 := hide B1)
      | (go_at_call 51; refine (unhide hG _ (unhide B1)).mono ?_; rintro e w2 ⟨v', rfl, O2, B2⟩; (have B3 := hide (((unhide B1).alloc (unhide B1).size (.cells #[.slice A n c] 22)).trans (B2.mono ((unhide B1).alloc (unhide B1).size (.cells #[.slice A n c] 22)).size))); replace O2 := hide (own_mono O2 ((unhide B1).alloc (unhide B1).size (.cells #[.slice A n c] 22)).size))
      | (go_at_call 52; refine (unhide hS _ _ (unhide O2) (unhide B3).size).mono ?_; rintro e w3 ⟨rfl, O4, B4⟩))
    go_ret2
    exact ⟨_, rfl, O4, (unhide B3).trans B4⟩
end Go.Proofs.Ytkgfmiicfegnlaa
