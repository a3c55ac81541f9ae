import Derived.Test.YthekgpmkoemmaaaC2
import Derived.Test.YthekgpmkoemmaaaW3
namespace Go.Proofs.Ythekgpmkoemmaaa
open Go.RowKit Go.Shelf
attribute [local go_sem] Oper.semAt_some bz_size bz_toList

/-! ### what is kept -/
theorem runK_append (k pre post : List (List UInt8)) : runK k (pre ++ post) = (runK k pre).bind (fun k' => runK k' post) := by
  induction pre generalizing k with
  | nil => rfl
  | cons p ps ih =>
    rw [List.cons_append, runK, runK]
    cases stepK k p with
    | none => rfl
    | some k' => exact ih k'
theorem runK_snoc (k pre : List (List UInt8)) (x : List UInt8) : runK k (pre ++ [x]) = (runK k pre).bind (fun k' => stepK k' x) := by
  rw [runK_append]
  congr 1
  funext k'
  rw [runK]
  cases stepK k' x <;> rfl
theorem stepK_len {k k' : List (List UInt8)} {x : List UInt8} (h : stepK k x = some k') : k'.length ≤ k.length + 1 := by
  unfold stepK at h
  split at h
  · injection h with h; subst h; omega
  · split at h
    · split at h
      · cases h
      · injection h with h; subst h; simp; omega
    · injection h with h; subst h; simp
theorem runK_len : ∀ (pre k k' : List (List UInt8)), runK k pre = some k' → k'.length ≤ k.length + pre.length
  | [], k, k', h => by injection h with h; subst h; simp
  | p :: ps, k, k', h => by
    rw [runK] at h
    cases hs : stepK k p with
    | none => rw [hs] at h; cases h
    | some k1 =>
      rw [hs] at h
      have h1 := stepK_len hs
      have h2 := runK_len ps k1 k' h
      simp; omega
theorem lens_append (a b : List (List UInt8)) : lens (a ++ b) = lens a + lens b := by simp [lens]
theorem lens_last (k : List (List UInt8)) : lens k.dropLast ≤ lens k := by
  rcases List.eq_nil_or_concat k with rfl | ⟨k', x, rfl⟩
  · simp
  · rw [List.concat_eq_append, List.dropLast_concat, lens_append]; omega
theorem stepK_lens {k k' : List (List UInt8)} {x : List UInt8} (h : stepK k x = some k') : lens k' + k'.length ≤ lens k + k.length + x.length + 1 := by
  unfold stepK at h
  split at h
  · injection h with h; subst h; omega
  · split at h
    · split at h
      · cases h
      · injection h with h; subst h
        have := lens_last k
        simp; omega
    · injection h with h; subst h
      rw [lens_append]; simp [lens]; omega
theorem runK_lens : ∀ (pre k k' : List (List UInt8)), runK k pre = some k' → lens k' + k'.length ≤ lens k + k.length + lens pre + pre.length
  | [], k, k', h => by injection h with h; subst h; simp
  | p :: ps, k, k', h => by
    rw [runK] at h
    cases hs : stepK k p with
    | none => rw [hs] at h; cases h
    | some k1 =>
      rw [hs] at h
      have h1 := stepK_lens hs
      have h2 := runK_lens ps k1 k' h
      have h3 : lens (p :: ps) = p.length + lens ps := by simp [lens]
      rw [h3]; simp; omega
theorem kept_jn {t : List UInt8} {k : List (List UInt8)} (h : runK [] (parts t) = some k) : (jn k).length ≤ t.length := by
  have h1 := runK_lens _ _ _ h
  have h2 := jn_length (parts t) (parts_ne t)
  rw [jn_parts] at h2
  cases k with
  | nil => simp [jn]
  | cons k0 kr =>
    have h3 := jn_length (k0 :: kr) (by simp)
    simp [lens] at h1 h2 h3 ⊢
    omega
def keptOf (pre : List (List UInt8)) : List (List UInt8) := (runK [] pre).getD []
theorem keptOf_some {pre k : List (List UInt8)} (h : runK [] pre = some k) : keptOf pre = k := by simp [keptOf, h]
theorem keptOf_len (pre : List (List UInt8)) : (keptOf pre).length ≤ pre.length := by
  cases h : runK [] pre with
  | none => simp [keptOf, h]
  | some k => rw [keptOf_some h]; simpa using runK_len pre [] k h
theorem run_pass {pre k : List (List UInt8)} {x : List UInt8} (h : runK [] pre = some k) (hx : x.isEmpty = true ∨ (x == [46]) = true) : runK [] (pre ++ [x]) = some k := by
  rw [runK_snoc, h]
  show stepK k x = some k
  unfold stepK
  rw [if_pos]
  rcases hx with hx | hx <;> simp [isE, isD, hx]
theorem run_up {pre k : List (List UInt8)} {x : List UInt8} (h : runK [] pre = some k) (h1 : x.isEmpty = false) (h2 : (x == [46]) = false) (h3 : (x == [46, 46]) = true) : runK [] (pre ++ [x]) = if k = [] then none else some k.dropLast := by
  rw [runK_snoc, h]
  show stepK k x = _
  unfold stepK
  rw [if_neg (by simp [isE, isD, h1, h2]), if_pos (by simp [isU, h3])]
theorem run_keep {pre k : List (List UInt8)} {x : List UInt8} (h : runK [] pre = some k) (h1 : x.isEmpty = false) (h2 : (x == [46]) = false) (h3 : (x == [46, 46]) = false) : runK [] (pre ++ [x]) = some (k ++ [x]) := by
  rw [runK_snoc, h]
  show stepK k x = _
  unfold stepK
  rw [if_neg (by simp [isE, isD, h1, h2]), if_neg (by simp [isU, h3])]

def ClI (w0 : World) (pre : List (List UInt8)) (W : World) : Prop :=
  (((∃ v, Boxed W (w0.heap.size + 1 + 1) 38 v ∧ W.ownsRow (w0.heap.size + 1 + 1 + 1 + 1) 9 1 v (keptOf pre).length (strs (keptOf pre)) ∧ True) ∧ runK [] pre = some (keptOf pre)) ∧ (Boxed W w0.heap.size 9 (.string ⟨#[]⟩) ∧ Boxed W (w0.heap.size + 1) 23 (.int .i64 0))) ∧ (w0.heap.size + 1 + 1 + 1 + 1 ≤ W.heap.size ∧ Below w0.heap.size w0 W)
def ClX (w0 : World) (c : Code) (pre : List (List UInt8)) (W : World) : Prop :=
  ((c = .ret ∧ runK [] pre = none) ∧ (Boxed W w0.heap.size 9 (.string ⟨#[]⟩) ∧ Boxed W (w0.heap.size + 1) 23 (.int .i64 4))) ∧ Below w0.heap.size w0 W
theorem ownFrom_size {β : Type} (B n : Nat) : OwnFrom B (fun (_ : β) W => n ≤ W.heap.size) := fun _ _ _ _ hs hg _ => Nat.le_trans hs hg.size
theorem clI_own (w0 : World) (B : Nat) (hB : w0.heap.size ≤ B) : OwnFrom B (ClI w0) :=
  OwnFrom.and (OwnFrom.and (OwnFrom.and (Own.from (holdsRow_own (w0.heap.size + 1 + 1 + 1 + 1) _ 38 9 1 (fun pre => (keptOf pre).length) (fun pre => strs (keptOf pre)) (fun _ _ => True)) _) (ownFrom_pure _ _))
    (OwnFrom.and (Own.from (boxed_own _ _ (fun _ => .string ⟨#[]⟩)) _) (Own.from (boxed_own _ _ (fun _ => .int .i64 0)) _))) (OwnFrom.and (ownFrom_size _ _) (ownFrom_below (Nat.le_refl _) hB))
theorem clX_own (w0 : World) (c : Code) (B : Nat) (hB : w0.heap.size ≤ B) : OwnFrom B (ClX w0 c) :=
  OwnFrom.and (OwnFrom.and (ownFrom_pure _ _)
    (OwnFrom.and (Own.from (boxed_own _ _ (fun _ => .string ⟨#[]⟩)) _) (Own.from (boxed_own _ _ (fun _ => .int .i64 4)) _))) (ownFrom_below (Nat.le_refl _) hB)

theorem clI_of {w0 W : World} {pre k : List (List UInt8)} {v : Value} (hk : runK [] pre = some k) (hv : Boxed W (w0.heap.size + 1 + 1) 38 v) (ho : OwnS W (w0.heap.size + 1 + 1 + 1 + 1) v k) (hS : w0.heap.size + 1 + 1 + 1 + 1 ≤ W.heap.size) (h0 : Boxed W w0.heap.size 9 (.string ⟨#[]⟩)) (h1 : Boxed W (w0.heap.size + 1) 23 (.int .i64 0)) (hB : Below w0.heap.size w0 W) : ClI w0 pre W := by
  have e := keptOf_some hk
  refine ⟨⟨⟨⟨v, hv, ?_, trivial⟩, by rw [e, hk]⟩, h0, h1⟩, hS, hB⟩
  rw [e]
  exact ho
theorem box_far {W : World} {g : Nat} {t : TypeId} {v : Value} (h : Boxed W g t v) {g' : Nat} (hne : g ≠ g') (u : Value) : Boxed (W.setCell ⟨g', 0, none⟩ u) g t v := h.other hne u
theorem own_box {W : World} {base : Nat} {v : Value} {k : List (List UInt8)} (h : OwnS W base v k) {g : Nat} {u : Value} (hg : Boxed W g 38 u) (u' : Value) : OwnS (W.setCell ⟨g, 0, none⟩ u') base v k := own_far (g := g) (t := 38) (cs := #[u]) h hg (by decide) 0 u'
theorem take_last {k : List (List UInt8)} {m : Nat} (h : k.length = m + 1) : k.dropLast = k.take m := by rw [List.dropLast_eq_take, h]; rfl

set_option maxRecDepth 100000 in
set_option maxHeartbeats 1000000 in
theorem clean_loop (t : List UInt8) (h96 : t.length ≤ 96) (ho : ofName t = true) (w : World) (p : List UInt8) (er : Int) (hout : endK (runK [] (parts t)) = (p, er)) :
    Calls Try.prog 10 #[.string (bz t)] w fun e W' => e = .returned (.tuple #[.string (bz p), .int .i64 er]) ∧ Below w.heap.size w W' := by
  replace hout := hide hout
  have HO := fun W => ofName_any t (by omega) W
  rw [ho] at HO
  clear ho
  have HT : t.length ≤ 1000 := by omega
  replace HO := hide HO
  have hd : decide ((96 : Int) < (t.length : Int)) = false := decide_eq_false (by omega)
  refine (callsIn_wide (n := 3)).1 ?_
  refine callsIn_of_wp_marks Try.func10 rfl trivial ?_ rfl
  simp only [Try.ntmps10, List.size_toArray, List.length_cons, List.length_nil, Nat.reduceAdd, Nat.reduceSub, Array.replicate_succ, Array.replicate_zero, List.push_toArray, List.append_toArray, List.nil_append, List.cons_append]
  gi_wp2_with (first
    | (refine ⟨trivial, ?_⟩; gi_at_call 22; refine (callsIn_wide.2 (unhide HO _)).mono ?_; rintro e w' ⟨rfl, rfl⟩)
    | (refine ⟨trivial, ?_⟩; gi_at_call 23; refine (callsIn_wide.2 (parts_maker t _)).mono ?_; rintro e w' ⟨rfl, rfl⟩))
  have b0 : Boxed ((((w.alloc (.cells #[.string ⟨#[]⟩] 9)).alloc (.cells #[.int .i64 0] 23)).alloc (.cells #[.slice none 0 0] 38)).alloc (.cells #[.string (bz t)] 9)) w.heap.size 9 (.string ⟨#[]⟩) := (((Boxed.new w 9 _).alloc _).alloc _).alloc _
  have b1 : Boxed ((((w.alloc (.cells #[.string ⟨#[]⟩] 9)).alloc (.cells #[.int .i64 0] 23)).alloc (.cells #[.slice none 0 0] 38)).alloc (.cells #[.string (bz t)] 9)) (w.heap.size + 1) 23 (.int .i64 0) := by
    have := ((Boxed.new (w.alloc (.cells #[.string ⟨#[]⟩] 9)) 23 (.int .i64 0)).alloc (.cells #[.slice none 0 0] 38)).alloc (.cells #[.string (bz t)] 9)
    simpa only [World.size_alloc] using this
  have b2 : Boxed ((((w.alloc (.cells #[.string ⟨#[]⟩] 9)).alloc (.cells #[.int .i64 0] 23)).alloc (.cells #[.slice none 0 0] 38)).alloc (.cells #[.string (bz t)] 9)) (w.heap.size + 1 + 1) 38 (.slice none 0 0) := by
    have := (Boxed.new ((w.alloc (.cells #[.string ⟨#[]⟩] 9)).alloc (.cells #[.int .i64 0] 23)) 38 (.slice none 0 0)).alloc (.cells #[.string (bz t)] 9)
    simpa only [World.size_alloc] using this
  have b3 : Boxed ((((w.alloc (.cells #[.string ⟨#[]⟩] 9)).alloc (.cells #[.int .i64 0] 23)).alloc (.cells #[.slice none 0 0] 38)).alloc (.cells #[.string (bz t)] 9)) (w.heap.size + 1 + 1 + 1) 9 (.string (bz t)) := by
    have := Boxed.new (((w.alloc (.cells #[.string ⟨#[]⟩] 9)).alloc (.cells #[.int .i64 0] 23)).alloc (.cells #[.slice none 0 0] 38)) 9 (.string (bz t))
    simpa only [World.size_alloc] using this
  have hB0 : Below w.heap.size w ((((w.alloc (.cells #[.string ⟨#[]⟩] 9)).alloc (.cells #[.int .i64 0] 23)).alloc (.cells #[.slice none 0 0] 38)).alloc (.cells #[.string (bz t)] 9)) := bl_alloc (bl_alloc (bl_alloc (bl_alloc (Below.refl _ _) _) _) _) _
  have hsz : ((((w.alloc (.cells #[.string ⟨#[]⟩] 9)).alloc (.cells #[.int .i64 0] 23)).alloc (.cells #[.slice none 0 0] 38)).alloc (.cells #[.string (bz t)] 9)).heap.size = w.heap.size + 1 + 1 + 1 + 1 := by simp only [World.size_alloc]
  obtain ⟨W0, hW0⟩ : ∃ W0, ((((w.alloc (.cells #[.string ⟨#[]⟩] 9)).alloc (.cells #[.int .i64 0] 23)).alloc (.cells #[.slice none 0 0] 38)).alloc (.cells #[.string (bz t)] 9)) = W0 := ⟨_, rfl⟩
  rw [hW0] at b0 b1 b2 b3 hB0 hsz ⊢
  clear hW0
  obtain ⟨i0, hi, hz0, hz1, hz2⟩ := info_parts info9
  have hpl : (parts t).length ≤ 97 := by have := jn_length (parts t) (parts_ne t); rw [jn_parts] at this; omega
  refine wpIn_rangeFunc_ownG rfl (by omega) (gf := 37) (lb := #[.pointer (some ⟨w.heap.size + 1 + 1 + 1, 0, none⟩)]) rfl trivial (enters_of Try.func37 (by kernel_rfl) rfl)
    (parts_stops t HT (3 - 1) (by omega) (w.heap.size + 1 + 1 + 1) W0 (by omega) b3.cell) (fun _ _ => trivial) kb_true (Below.refl _ _) (fun _ => rfl)
    (ClI w) (ClX w) (clI_own w _ (by omega)) (fun c => clX_own w c _ (by omega))
    ⟨⟨⟨⟨_, b2, World.ownsRow_nil _ _ _ _, trivial⟩, rfl⟩, b0, b1⟩, by omega, hB0⟩
    (fun x => { tmps := #[.string (bz t), undef, .pointer (some ⟨w.heap.size, 0, none⟩), .pointer (some ⟨w.heap.size + 1, 0, none⟩), .pointer (some ⟨w.heap.size + 1 + 1, 0, none⟩), .string (bz x), .string (bz t), .int .i64 t.length, .bool false, .string (bz t), .bool true, .bool false, .string (bz t), .func (.func 37) #[] #[.pointer (some ⟨w.heap.size + 1 + 1 + 1, 0, none⟩)], .string (bz x), undef, undef, undef, undef, undef, undef, undef, undef, undef, undef, undef, undef, undef, undef, undef, undef, undef, undef, undef, undef, undef, undef, undef, undef], defers := [] }) ?assign ?body ?done ?stop
  case assign =>
    intro l x W K hK
    gi_wp2
    exact hK
  case body =>
    rintro l pre x W ⟨⟨⟨⟨v, hv, hrow, _⟩, hrun⟩, hb0, hb1⟩, hS, hB⟩ hlt
    have hkl := keptOf_len pre
    obtain ⟨k, hk⟩ : ∃ k, keptOf pre = k := ⟨_, rfl⟩
    rw [hk] at hrow hrun hkl
    clear hk
    obtain ⟨A, c, rfl⟩ := ownsRow_form hrow
    replace hrow : OwnS W (w.heap.size + 1 + 1 + 1 + 1) (.slice A k.length c) k := hrow
    have hk96 : k.length ≤ 97 := by omega
    have hc := hv.cell
    have hf := hv.frozen
    have hc0 := hb0.cell
    have hf0 := hb0.frozen
    have hc1 := hb1.cell
    have hf1 := hb1.frozen
    clear hkl hlt
    replace hrun := hide hrun
    cases e1 : x.isEmpty with
    | true =>
      gi_wp2
      exact ⟨KeepsFrom.refl _ _, trivial, clI_of (run_pass (unhide hrun) (.inl e1)) hv hrow hS hb0 hb1 hB⟩
    | false =>
      cases e2 : x == [46] with
      | true =>
        gi_wp2
        exact ⟨KeepsFrom.refl _ _, trivial, clI_of (run_pass (unhide hrun) (.inr e2)) hv hrow hS hb0 hb1 hB⟩
      | false =>
        cases e3 : x == [46, 46] with
        | true =>
          have hup := run_up (unhide hrun) e1 e2 e3
          cases k with
          | nil =>
            rw [if_pos rfl] at hup
            replace hup := hide hup
            gi_wp2
            exact ⟨((KeepsOthers.setCell _ _ _).trans (KeepsOthers.setCell _ _ _)).from _, ⟨⟨rfl, unhide hup⟩, box_far (hb0.set _) (by omega) _, box_far hb1 (by omega) _ |>.set _⟩, (hB.setCell (p := ⟨w.heap.size, 0, none⟩) (Nat.le_refl _) _).setCell (p := ⟨w.heap.size + 1, 0, none⟩) (by show w.heap.size ≤ w.heap.size + 1; omega) _⟩
          | cons k0 kr =>
            rw [if_neg (by simp)] at hup
            obtain ⟨kk, hkk⟩ : ∃ kk, k0 :: kr = kk := ⟨_, rfl⟩
            obtain ⟨m, hm⟩ : ∃ m, kk.length = m + 1 := ⟨kr.length, by rw [← hkk]; simp⟩
            rw [hkk] at hrow hrun hk96 hup hc hv
            clear hkk
            rw [take_last hm] at hup
            obtain ⟨A', c', hcut, hown', _⟩ := own_cut hrow m (m : Int) rfl (by omega)
            rw [hm] at hc hcut hk96 hv
            have hm0 : ((m : Int) + 1 == 0) = false := by rw [beq_eq_false_iff_ne]; omega
            replace hup := hide hup
            clear hm
            gi_wp2
            exact ⟨(KeepsOthers.setCell _ _ _).from _, trivial, clI_of (unhide hup) (hv.set _) (own_box hown' hv _) (by simpa using hS) (box_far hb0 (by omega) _) (box_far hb1 (by omega) _) (hB.setCell (p := ⟨w.heap.size + 1 + 1, 0, none⟩) (by show w.heap.size ≤ w.heap.size + 1 + 1; omega) _)⟩
        | false =>
          have hup := hide (run_keep (unhide hrun) e1 e2 e3)
          gi_wp2_with (gi_at_builtin; refine wpListIn_append_own _ rfl _ _ 38 rfl (w.heap.size + 1 + 1 + 1 + 1) 9 i0 (.string ⟨#[]⟩) 1 16 Try.underlying38 hi hz0 hz1 hz2 rfl (by decide) _ _ _ rfl (World.ownsRow.alloc hrow _) ⟨W.heap.size, 0, none⟩ 1 1 [.string (bz x)] rfl rfl (cell_one_new _ _ _) (by simp [Value.oneCell']) (by unfold maxLen; omega) (by omega) (by simp; omega) ?_; intro v' w1 hown' hgrow _; obtain ⟨g', cap', rfl⟩ := ownsRow_succ hown'; obtain ⟨hv1, hv2, hr2, hk2, hb2⟩ := hv.appended (by decide) (ownsRow_mono hrow (by omega)) hB.size (by omega) (ownsRow_mono hown' (by omega)) hgrow; have hc1' := hv1.cell; have hf1' := hv1.frozen; have n0 : some w.heap.size ≠ (Value.slice A k.length c).ownBlock := (fun e => by have := own_base hrow _ e.symm; omega); have n1 : some (w.heap.size + 1) ≠ (Value.slice A k.length c).ownBlock := (fun e => by have := own_base hrow _ e.symm; omega); have hb0' := ((hb0.alloc _).kept hgrow n0); have hb1' := ((hb1.alloc _).kept hgrow n1); have HR := own_box (k := k ++ [x]) (by simpa [OwnS, svc] using hown') hv1 (Value.slice (some ⟨g', 0, none⟩) (k.length + 1) cap'))
          exact ⟨hk2.from _, trivial, clI_of (unhide hup) hv2 HR (by have := hgrow.size; simp at this ⊢; omega) (box_far hb0' (by omega) _) (box_far hb1' (by omega) _) (hB.trans hb2)⟩
  case done =>
    rintro D ys W hD rfl ⟨⟨⟨⟨v, hv, hrow, _⟩, hrun⟩, hb0, hb1⟩, hS, hB⟩ hK
    have hkl := keptOf_len (parts t)
    obtain ⟨k, hk⟩ : ∃ k, keptOf (parts t) = k := ⟨_, rfl⟩
    rw [hk] at hrow hrun hkl
    clear hk
    have hjl := kept_jn hrun
    obtain ⟨A, c, rfl⟩ := ownsRow_form hrow
    replace hrow : OwnS W (w.heap.size + 1 + 1 + 1 + 1) (.slice A k.length c) k := hrow
    have hk96 : k.length ≤ 97 := by omega
    have hc := hv.cell
    have hf := hv.frozen
    have hc0 := hb0.cell
    have hf0 := hb0.frozen
    have hc1 := hb1.cell
    have hf1 := hb1.frozen
    have hout' := unhide hout
    rw [hrun] at hout'
    clear hrun hkl
    cases k with
    | nil =>
      have ho1 := hide hout'
      clear hout'
      gi_wp2
      have hK' := ((KeepsOthers.setCell W ⟨w.heap.size, 0, none⟩ (.string ⟨#[]⟩)).trans (KeepsOthers.setCell _ ⟨w.heap.size + 1, 0, none⟩ (.int .i64 1))).same D _ hK rfl
      refine ⟨by simp, .inl ⟨_, _, rfl, run_takeDeferred hK', ?_⟩⟩
      have hc5 := cell_kept (box_far (hb0.set (.string ⟨#[]⟩)) (g' := w.heap.size + 1) (by omega) (.int .i64 1)).cell (grownBy_putObj' _ D (.deferred none)) (fun r e => by cases e; exact ⟨_, hK', rfl⟩)
      have hc6 := cell_kept ((box_far hb1 (g' := w.heap.size) (by omega) (.string ⟨#[]⟩)).set (.int .i64 1)).cell (grownBy_putObj' _ D (.deferred none)) (fun r e => by cases e; exact ⟨_, hK', rfl⟩)
      refine ⟨.tuple #[.string ⟨#[]⟩, .int .i64 1], ?_, ?_, ((hB.setCell (p := ⟨w.heap.size, 0, none⟩) (Nat.le_refl _) _).setCell (p := ⟨w.heap.size + 1, 0, none⟩) (by show w.heap.size ≤ w.heap.size + 1; omega) _).trans (belowK_b (w := w) (Nat.le_refl _) _ D _ _ (by omega) hK' rfl rfl)⟩
      · simp [results, Try.f10, go_sem, hc5, hc6]
      · have := unhide ho1
        injection this with e1 e2
        rw [← e1, ← e2]; rfl
    | cons k0 kr =>
      obtain ⟨kk, hkk⟩ : ∃ kk, k0 :: kr = kk := ⟨_, rfl⟩
      have hne : ((kk.length : Int) == 0) = false := by rw [beq_eq_false_iff_ne, ← hkk]; simp; omega
      have ho1 : jn kk = p ∧ (0 : Int) = er := by
        have : endK (some (k0 :: kr)) = (jn (k0 :: kr), 0) := by simp [endK]
        rw [this, hkk] at hout'
        injection hout' with e1 e2
        exact ⟨e1, e2⟩
      rw [hkk] at hrow hk96 hjl hc hv
      clear hout' hkk
      replace ho1 := hide ho1
      have HJ := fun W' (h : OwnS W' (w.heap.size + 1 + 1 + 1 + 1) (.slice A kk.length c) kk) => join25_any _ _ _ _ W' h.ss (Nat.le_refl _) (by omega) (by omega)
      have HC := fun W' => clone24_any (jn kk) (by omega) W'
      replace HJ := hide HJ
      replace HC := hide HC
      gi_wp2_with (first
        | (refine ⟨trivial, ?_⟩; gi_at_call 25; refine (callsIn_wide.2 (unhide HJ _ hrow)).mono ?_; rintro e w1 ⟨rfl, hb1'⟩)
        | (refine ⟨trivial, ?_⟩; gi_at_call 24; refine (callsIn_wide.2 (unhide HC _)).mono ?_; rintro e w2 ⟨rfl, hb2'⟩; (have B12 := hb1'.trans (hb2'.mono hb1'.size)); (have hb0' : Boxed _ _ _ _ := Blk.below (cs := #[.string ⟨#[]⟩]) hb0 B12 (Blk.lt (cs := #[.string ⟨#[]⟩]) hb0)); (have hb1'' : Boxed _ _ _ _ := Blk.below (cs := #[.int .i64 0]) hb1 B12 (Blk.lt (cs := #[.int .i64 0]) hb1)); have hc0' := hb0'.cell; have hf0' := hb0'.frozen; have hc1' := hb1''.cell; have hf1' := hb1''.frozen))
      have hKw : w2.heap[D]? = some (.deferred (some [])) := (B12.block D (Array.getElem?_eq_some_iff.1 hK).1).trans hK
      have BW := hB.trans (B12.mono hB.size)
      clear hb1' hb2'
      have hK' := ((KeepsOthers.setCell w2 ⟨w.heap.size, 0, none⟩ (.string (bz (jn kk)))).trans (KeepsOthers.setCell _ ⟨w.heap.size + 1, 0, none⟩ (.int .i64 0))).same D _ hKw rfl
      refine ⟨by simp, .inl ⟨_, _, rfl, run_takeDeferred hK', ?_⟩⟩
      have hc5 := cell_kept (box_far (hb0'.set (.string (bz (jn kk)))) (g' := w.heap.size + 1) (by omega) (.int .i64 0)).cell (grownBy_putObj' _ D (.deferred none)) (fun r e => by cases e; exact ⟨_, hK', rfl⟩)
      have hc6 := cell_kept ((box_far hb1'' (g' := w.heap.size) (by omega) (.string (bz (jn kk)))).set (.int .i64 0)).cell (grownBy_putObj' _ D (.deferred none)) (fun r e => by cases e; exact ⟨_, hK', rfl⟩)
      refine ⟨.tuple #[.string (bz (jn kk)), .int .i64 0], ?_, ?_, ((BW.setCell (p := ⟨w.heap.size, 0, none⟩) (Nat.le_refl _) _).setCell (p := ⟨w.heap.size + 1, 0, none⟩) (by show w.heap.size ≤ w.heap.size + 1; omega) _).trans (belowK_b (w := w) (Nat.le_refl _) _ D _ _ (by omega) hK' rfl rfl)⟩
      · simp [results, Try.f10, go_sem, hc5, hc6]
      · rw [← (unhide ho1).1, ← (unhide ho1).2]
  case stop =>
    rintro D c pre W hD hpre ⟨⟨⟨rfl, hp⟩, hb0, hb1⟩, hB⟩ hK
    have hc0 := hb0.cell
    have hc1 := hb1.cell
    have hrun : runK [] (parts t) = none := by
      obtain ⟨post, e⟩ := hpre
      rw [← e, runK_append, hp]; rfl
    have ho1 := unhide hout
    rw [hrun] at ho1
    clear hrun hp hpre
    replace ho1 := hide ho1
    gi_wp2
    refine ⟨by simp, .inl ⟨_, _, rfl, run_takeDeferred hK, ?_⟩⟩
    have hc5 := cell_kept hc0 (grownBy_putObj' _ D (.deferred none)) (fun r e => by cases e; exact ⟨_, hK, rfl⟩)
    have hc6 := cell_kept hc1 (grownBy_putObj' _ D (.deferred none)) (fun r e => by cases e; exact ⟨_, hK, rfl⟩)
    refine ⟨.tuple #[.string ⟨#[]⟩, .int .i64 4], ?_, ?_, hB.trans (belowK_b (w := w) (Nat.le_refl _) _ D _ _ (by omega) hK rfl rfl)⟩
    · simp [results, Try.f10, go_sem, hc5, hc6]
    · have := unhide ho1
      injection this with e1 e2
      rw [← e1, ← e2]; rfl

set_option maxHeartbeats 400000 in
theorem clean_any (t : List UInt8) (hl : t.length ≤ 1000) (w : World) :
    Calls Try.prog 10 #[.string (bz t)] w fun e W' => e = .returned (.tuple #[.string (bz (cleanF t).1), .int .i64 (cleanF t).2]) ∧ Below w.heap.size w W' := by
  by_cases h96 : t.length ≤ 96
  · cases ho : ofName t with
    | true =>
      have e : cleanF t = endK (runK [] (parts t)) := by unfold cleanF; rw [if_neg (by omega), if_neg (by rw [ho]; simp)]
      rw [e]
      exact clean_loop t h96 ho w _ _ rfl
    | false =>
      have e : cleanF t = ([], 2) := by unfold cleanF; rw [if_neg (by omega), if_pos ho]
      rw [e]
      have HO := fun W => ofName_any t hl W
      rw [ho] at HO
      clear ho e
      replace HO := hide HO
      have hd : decide ((96 : Int) < (t.length : Int)) = false := decide_eq_false (by omega)
      go_enter Try.func10, Try.ntmps10
      go_wp2_with (go_at_call 22; refine (unhide HO _).mono ?_; rintro e w' ⟨rfl, rfl⟩)
      exact bodyPost_ret (v := .tuple #[.string ⟨#[]⟩, .int .i64 2]) (by simp [results, Try.results10, go_sem]) rfl ⟨rfl, bl_alloc (bl_alloc (Below.refl _ _) _) _⟩
  · have e : cleanF t = ([], 3) := by simp only [cleanF]; rw [if_pos (by omega)]
    rw [e]
    clear e
    have hd : decide ((96 : Int) < (t.length : Int)) = true := decide_eq_true (by omega)
    go_enter Try.func10, Try.ntmps10
    go_wp2_with fail
    exact bodyPost_ret (v := .tuple #[.string ⟨#[]⟩, .int .i64 3]) (by simp [results, Try.results10, go_sem]) rfl ⟨rfl, bl_alloc (bl_alloc (Below.refl _ _) _) _⟩
end Go.Proofs.Ythekgpmkoemmaaa
