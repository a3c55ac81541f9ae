import Derived.Test.YteokimebfbnlkaaA4
namespace Go.Proofs.Yteokimebfbnlkaa
open Go.RowKit

/-- A cell of a row of the call's own is written, whatever the element's size. -/
theorem own_put2 {w : World} {base g n cap k size : Nat} {e : TypeId} {xs : List Value} (h : w.ownsRow base e size (.slice (some ⟨g, 0, none⟩) n cap) n xs) (u : Value) :
    (w.setCell ⟨g, k, none⟩ u).ownsRow base e size (.slice (some ⟨g, 0, none⟩) n cap) n (xs.set k u) := by
  obtain ⟨h1, h2⟩ := h
  refine ⟨by rw [List.length_set]; exact h1, ?_⟩
  rcases h2 with ⟨h2, _⟩ | ⟨g', cap', cur, hv, hb, hh, r1, r2, r3, r4⟩
  · cases h2
  · injection hv with e1 _ e3
    injection e1 with e1
    injection e1 with e1
    subst e1 e3
    refine .inr ⟨g, cap, cur.setIfInBounds k u, rfl, hb, heap_setCell_same w g k cur e u hh, r1, r2, by simpa using r3, ?_⟩
    rw [Array.toList_setIfInBounds, List.take_set, r4]
theorem own_pos2 {w : World} {base n : Nat} {e : TypeId} {A : Option Addr} {c : Nat} {l : List Ex} (h : w.ownsRow base e 2 (.slice A n c) n (l.flatMap exv)) (h0 : 0 < n) :
    ∃ g cur, A = some ⟨g, 0, none⟩ ∧ base ≤ g ∧ Blk w g e cur := by
  obtain ⟨h1, h2⟩ := h
  rcases h2 with ⟨h2, h3⟩ | ⟨g', cap', cur, hv, hb, hh, r1, r2, r3, r4⟩
  · omega
  · injection hv with e1 _ e3
    exact ⟨g', cur, e1, hb, hh⟩
theorem flat_put (p : List Ex) (s : Ex) (z : Int) : ((p ++ [s]).flatMap exv).set (p.length * 2 + 1) (.int .i64 z) = (p ++ [(⟨s.at_, z⟩ : Ex)]).flatMap exv := by
  have e := flat_len p
  rw [List.flatMap_append, List.flatMap_append, List.set_append_right _ _ (by omega), e]
  simp [exv]
theorem runs_len (f : Nat → Bool) (i : Nat) : (runs f i).length ≤ i := by
  induction i with
  | zero => simp [runs]
  | succ i ih =>
    simp only [runs]
    split
    · split
      · unfold bump
        split
        · rename_i h
          have := List.getLast?_eq_some_iff.1 h
          obtain ⟨ys, hy⟩ := this
          rw [hy] at ih ⊢
          simp at ih ⊢
          omega
        · omega
      · simp; omega
    · omega
theorem runs_same {f : Nat → Bool} {k : Nat} (h : f k = false) : runs f (k + 1) = runs f k := by simp [runs, h]
theorem runs_new {f : Nat → Bool} {k : Nat} (h : f k = true) (hp : prevB f k = false) : runs f (k + 1) = runs f k ++ [⟨k, 1⟩] := by simp [runs, h, hp]
theorem runs_more {f : Nat → Bool} {n k : Nat} (h : f k = true) (hp : prevB f k = true) (hk : k ≤ n) : ∃ (p : List Ex) (s : Ex), runs f k = p ++ [s] ∧ runs f (k + 1) = p ++ [⟨s.at_, s.len + 1⟩] ∧ 0 ≤ s.len ∧ s.len ≤ n := by
  obtain ⟨h1, _, h3, _⟩ := runs_inv f n k hk
  obtain ⟨p, s, e2, e3⟩ := h3 hp
  refine ⟨p, s, e2, by simp [runs, h, hp, e2, bump_snoc], ?_⟩
  rw [e2] at h1
  obtain ⟨k1, k2, k3, k4, k5, k6⟩ := okF_at h1
  omega

set_option maxRecDepth 100000 in
set_option maxHeartbeats 8000000 in
theorem of_any (n g : Nat) (f : Nat → Bool) (w : World) (hg : Blk w g 4 (bitC n f).toArray) (hn : n ≤ 8192) :
    Calls Try.prog 41 #[.slice (some ⟨g, 0, none⟩) n n] w fun e w' => ∃ A c, e = .returned (.agg #[.int .i64 n, .slice A (runs f n).length c]) ∧
      w'.ownsRow w.heap.size 26 2 (.slice A (runs f n).length c) (runs f n).length ((runs f n).flatMap exv) ∧ Below w.heap.size w w' := by
  obtain ⟨i0, hi0, hz0, hz1, hz2⟩ := info_parts info26
  have hgl := hg.lt
  have hcell : ∀ W, Below w.heap.size w W → ∀ k, k < n → W.cell? ⟨g, k, none⟩ = some (.bool (f k)) := fun W hW k hk => by
    rw [hW.cell (p := ⟨g, k, none⟩) hgl, hg.cell]
    simpa using bitC_get n f k hk
  replace hcell := hide hcell
  clear hg
  go_enter Try.func41, Try.ntmps41
  go_wp2_with fail
  obtain ⟨g3, hg3⟩ : ∃ g3, g3 = w.heap.size + 1 := ⟨_, rfl⟩
  rw [← hg3]
  have K0 : Blk ((w.alloc (.cells #[.int .i64 0, .slice none 0 0] 24)).alloc (.cells #[.int .i64 n, .slice none 0 0] 24)) g3 24 #[.int .i64 n, .slice none 0 0] := by rw [hg3]; exact Blk.new (by simp)
  have K1 : Blk ((w.alloc (.cells #[.int .i64 0, .slice none 0 0] 24)).alloc (.cells #[.int .i64 n, .slice none 0 0] 24)) w.heap.size 24 #[.int .i64 0, .slice none 0 0] := (Blk.new rfl).alloc _
  replace K0 := hide K0; replace K1 := hide K1
  have hgq : w.heap.size < g3 := by omega
  replace hg3 := hide hg3
  go_loopw [12] (fun i wx => ∃ (k : Nat) (A : Option Addr) (c : Nat), k ≤ n ∧ i = .int .i64 k ∧ Hid (wx.ownsRow w.heap.size 26 2 (.slice A (runs f k).length c) (runs f k).length ((runs f k).flatMap exv)) ∧ Hid (Blk wx g3 24 #[.int .i64 n, .slice A (runs f k).length c]) ∧ Hid (Blk wx w.heap.size 24 #[.int .i64 0, .slice none 0 0]) ∧ Hid (Below w.heap.size w wx)) (fun i _ => n - (intOf i).toNat)
  case atStart => exact ⟨0, none, 0, Nat.zero_le _, rfl, hide (World.ownsRow_nil _ _ _ _), K0, K1, hide (by (repeat (first | with_reducible exact Below.refl _ _ | with_reducible assumption | with_reducible refine Below.drew ?_ | with_reducible refine bl_alloc ?_ _ | with_reducible refine bl_call ?_ (by assumption) | (focus (with_reducible refine Below.setCell ?_ ?_ _; rotate_left; focus (first | omega | (simp <;> omega)))) | fail)))⟩
  case round =>
    clear K0 K1
    obtain ⟨k, A, c, hk, rfl, o1, K0, K1, MB⟩ := hrel
    generalize wr = wx at *
    have r0 := (unhide K0).cell 0
    have r1 := (unhide K0).cell 1
    simp at r0 r1
    have y3 := (unhide K0).lt
    have yg : g < wx.heap.size := Nat.lt_of_lt_of_le hgl (unhide MB).size
    by_cases hlt : k < n
    · have c0 := unhide hcell _ (unhide MB) k hlt
      have i1 : IntKind.i64.wrap ((k : Int) + 1) = (k : Int) + 1 := IntWalk.i64_in _ (by omega)
      have i2 : (k : Int) < (n : Int) := by omega
      have i3 : (0 : Int) ≤ (k : Int) := by omega
      cases hf : f k with
      | false =>
        rw [hf] at c0
        go_wp2_with fail
        clear i1
        go_roundw
        case rel => exact ⟨k + 1, A, c, by omega, by go_num, by rw [runs_same hf]; exact o1, by rw [runs_same hf]; exact K0, K1, MB⟩
        case measure => simp [intOf]; omega
      | true =>
        rw [hf] at c0
        cases hp : prevB f k with
        | true =>
          obtain ⟨j, rfl⟩ : ∃ j, k = j + 1 := by
            cases k with
            | zero => cases hp
            | succ j => exact ⟨j, rfl⟩
          have hfj : f j = true := hp
          have c1 := unhide hcell _ (unhide MB) j (by omega)
          rw [hfj] at c1
          obtain ⟨p, s, e1, e2, z0, z1⟩ := runs_more hf hp hk
          have hl1 : (p ++ [s]).length = p.length + 1 := by simp
          rw [e1, hl1] at o1 K0 r1
          obtain ⟨g5, cur, rfl, hb5, k5⟩ := own_pos2 (unhide o1) (by omega)
          have k5' := k5.frozen (p.length * 2 + 1)
          have y5 := k5.lt
          obtain ⟨A9, c9, e9, _, _, hoc⟩ := (Exs.of_own (l := p ++ [s]) (by rw [hl1]; exact unhide o1)).open
          rw [hl1] at e9
          injection e9 with e91 _ e93
          subst e91 e93
          obtain ⟨g6, o6, e6, _, _, v0, v1⟩ := hoc p.length (by omega)
          injection e6 with e6
          injection e6 with e61 e62 _
          subst e61 e62
          rw [List.getElem_append_right (Nat.le_refl _)] at v0 v1
          simp at v0 v1
          have i4 : IntKind.i64.wrap (((p.length + 1 : Nat) : Int) - 1) = (p.length : Int) := by rw [IntWalk.i64_in _ (by omega)]; omega
          have i4' : IntKind.i64.wrap ((p.length : Int) + 1 - 1) = (p.length : Int) := by rw [IntWalk.i64_in _ (by omega)]; omega
          have i5 : IntKind.i64.wrap (s.len + 1) = s.len + 1 := IntWalk.i64_in _ (by omega)
          have i6 : IntKind.i64.wrap (((j + 1 : Nat) : Int) - 1) = (j : Int) := by rw [IntWalk.i64_in _ (by omega)]; omega
          have i6' : IntKind.i64.wrap ((j : Int) + 1 - 1) = (j : Int) := by rw [IntWalk.i64_in _ (by omega)]; omega
          have o2 := own_put2 (k := p.length * 2 + 1) (unhide o1) (.int .i64 (s.len + 1))
          rw [flat_put] at o2
          have K0' := (unhide K0).far (p := ⟨g5, p.length * 2 + 1, none⟩) ((unhide K0).ne_ k5 (by decide)) (.int .i64 (s.len + 1))
          have K1' := (unhide K1).far (p := ⟨g5, p.length * 2 + 1, none⟩) ((unhide K1).ne_ k5 (by decide)) (.int .i64 (s.len + 1))
          have MB' := (unhide MB).setCell (p := ⟨g5, p.length * 2 + 1, none⟩) hb5 (.int .i64 (s.len + 1))
          replace o2 := hide o2; replace K0' := hide K0'; replace K1' := hide K1'; replace MB' := hide MB'; replace e2 := hide e2
          clear o1 K0 K1 MB hoc k5 e1 hfj hp hf hb5
          go_wp2_with fail
          clear i1 i4 i4' i5 i6 i6'
          go_roundw
          case rel =>
            refine ⟨j + 1 + 1, some ⟨g5, 0, none⟩, c, by omega, by go_num, ?_, ?_, K1', MB'⟩
            · rw [unhide e2]; simpa using o2
            · rw [unhide e2]; simpa using K0'
          case measure => simp [intOf]; omega
        | false =>
          have hlen := runs_len f k
          have e2 := runs_new hf hp
          have u3 : ((runs f k).flatMap exv).length = (runs f k).length * 2 := flat_len _
          generalize runs f k = L at *
          have u1 : L.length + 1 ≤ maxLen := by simp only [maxLen]; omega
          have u2 : (L.length + 1) * 16 ≤ 140737488355328 := by omega
          have u4 : ∀ u ∈ [Value.int .i64 (k : Int), Value.int .i64 1], u.oneCell' = true := by intro u hu; simp at hu; rcases hu with rfl | rfl <;> rfl
          have ht : (k = 0) ∨ ∃ j, k = j + 1 ∧ f j = false := by
            cases k with
            | zero => exact .inl rfl
            | succ j => exact .inr ⟨j, rfl, hp⟩
          replace u1 := hide u1; replace u2 := hide u2; replace u3 := hide u3; replace u4 := hide u4; replace e2 := hide e2
          have y9 : w.heap.size ≤ wx.heap.size := (unhide MB).size
          have O2 := (unhide o1).alloc (.cells #[.int .i64 (k : Int), .int .i64 1] 26)
          have B2 : Below w.heap.size w (wx.alloc (.cells #[.int .i64 (k : Int), .int .i64 1] 26)) := bl_alloc (unhide MB) _
          have P0 := (unhide K0).alloc (.cells #[.int .i64 (k : Int), .int .i64 1] 26)
          have P1 := (unhide K1).alloc (.cells #[.int .i64 (k : Int), .int .i64 1] 26)
          replace O2 := hide O2; replace B2 := hide B2; replace P0 := hide P0; replace P1 := hide P1
          clear hp hf
          rcases ht with hk0 | ⟨j, hj, hfj⟩
          · have a4 : decide (0 < k) = false := by simp [hk0]
            replace hk0 := hide hk0
            go_wp2_with (first
              | (at_builtin
                 refine wpList_app _ rfl (.tmp 42) (.tmp 45) 22 rfl w.heap.size 26 i0 _ 2 16 Try.underlying22 hi0 hz0 hz1 hz2 rfl (Nat.succ_pos _) _ L.length (L.flatMap exv) rfl (unhide O2) (some ⟨wx.heap.size, 0, none⟩) 1 1 [.int .i64 (k : Int), .int .i64 1] rfl rfl (src_lit (Blk.new (by simp))) (unhide u4) (unhide u1) (unhide u2) (by simp; omega) ?_
                 intro v' w1 hown hgr
                 obtain ⟨A3, c3, rfl⟩ := ownsRow_form hown
                 have H0 := Blk.grew (unhide P0) (unhide O2) (by decide) hgr
                 have H1 := Blk.grew (unhide P1) (unhide O2) (by decide) hgr
                 have B4 : Below w.heap.size w w1 := bl_grown (unhide B2) hgr (own_base (unhide O2))
                 have h1c := H0.cell 1
                 have h1f := H0.frozen 1
                 have h1y := H0.lt
                 simp at h1c
                 replace hown := hide hown; replace H0 := hide H0; replace H1 := hide H1; replace B4 := hide B4; clear hgr))
            clear i1 a4
            go_roundw
            case rel =>
              refine ⟨k + 1, A3, c3, by omega, by go_num, ?_, ?_, hide ((unhide H1).far (by show w.heap.size ≠ g3; omega) _), hide ((unhide B4).setCell (by show w.heap.size ≤ g3; omega) _)⟩
              · rw [unhide e2]
                have q := own_far (unhide hown) (unhide H0) (by decide) 1 (.slice A3 (L.length + 1) c3)
                simpa [exv] using hide q
              · rw [unhide e2]
                have q := (unhide H0).set 1 (.slice A3 (L.length + 1) c3)
                simpa using hide q
            case measure => simp [intOf]; omega
          · have c1 := unhide hcell _ (unhide MB) j (by omega)
            rw [hfj] at c1
            have a4 : decide (0 < k) = true := by simp [hj]
            have i6 : IntKind.i64.wrap ((k : Int) - 1) = (j : Int) := by rw [IntWalk.i64_in _ (by omega)]; omega
            have i7 : (j : Int) < (n : Int) := by omega
            replace hj := hide hj
            go_wp2_with (first
              | (at_builtin
                 refine wpList_app _ rfl (.tmp 42) (.tmp 45) 22 rfl w.heap.size 26 i0 _ 2 16 Try.underlying22 hi0 hz0 hz1 hz2 rfl (Nat.succ_pos _) _ L.length (L.flatMap exv) rfl (unhide O2) (some ⟨wx.heap.size, 0, none⟩) 1 1 [.int .i64 (k : Int), .int .i64 1] rfl rfl (src_lit (Blk.new (by simp))) (unhide u4) (unhide u1) (unhide u2) (by simp; omega) ?_
                 intro v' w1 hown hgr
                 obtain ⟨A3, c3, rfl⟩ := ownsRow_form hown
                 have H0 := Blk.grew (unhide P0) (unhide O2) (by decide) hgr
                 have H1 := Blk.grew (unhide P1) (unhide O2) (by decide) hgr
                 have B4 : Below w.heap.size w w1 := bl_grown (unhide B2) hgr (own_base (unhide O2))
                 have h1c := H0.cell 1
                 have h1f := H0.frozen 1
                 have h1y := H0.lt
                 simp at h1c
                 replace hown := hide hown; replace H0 := hide H0; replace H1 := hide H1; replace B4 := hide B4; clear hgr))
            clear i1 i6 a4
            go_roundw
            case rel =>
              refine ⟨k + 1, A3, c3, by omega, by go_num, ?_, ?_, hide ((unhide H1).far (by show w.heap.size ≠ g3; omega) _), hide ((unhide B4).setCell (by show w.heap.size ≤ g3; omega) _)⟩
              · rw [unhide e2]
                have q := own_far (unhide hown) (unhide H0) (by decide) 1 (.slice A3 (L.length + 1) c3)
                simpa [exv] using hide q
              · rw [unhide e2]
                have q := (unhide H0).set 1 (.slice A3 (L.length + 1) c3)
                simpa using hide q
            case measure => simp [intOf]; omega
    · obtain rfl : k = n := by omega
      have s0 := (unhide K1).cell 0
      have s1 := (unhide K1).cell 1
      have f0 := (unhide K1).frozen 0
      have f1 := (unhide K1).frozen 1
      have y0 := (unhide K1).lt
      simp at s0 s1
      have o2 := own_far (own_far (unhide o1) (unhide K1) (by decide) 0 (.int .i64 k)) ((unhide K1).set 0 (.int .i64 k)) (by decide) 1 (.slice A (runs f k).length c)
      replace o2 := hide o2
      have hb0 := unhide MB
      have k1' := unhide K1
      replace K1 := hide k1'
      clear k1'
      go_wp2_with fail
      exact ret_xs rfl w.heap.size (.int .i64 k) (.slice A (runs f k).length c) rfl (Blk.set2 (unhide K1)) rfl ⟨A, c, rfl, unhide o2, by (repeat (first | with_reducible exact Below.refl _ _ | with_reducible assumption | with_reducible refine Below.drew ?_ | with_reducible refine bl_alloc ?_ _ | with_reducible refine bl_call ?_ (by assumption) | (focus (with_reducible refine Below.setCell ?_ ?_ _; rotate_left; focus (first | omega | (simp <;> omega)))) | fail))⟩
end Go.Proofs.Yteokimebfbnlkaa
