import Derived.Test.YtjjamplgecioaaaDoorG0
namespace Go.Proofs.YtjjamplgecioaaaDoor
open Go.RowKit

theorem Bs.form {lo hi : Nat} {w : World} {v : Value} {l : List UInt8} (h : Bs lo hi w v l) : ∃ A c, v = .slice A l.length c := by obtain ⟨A, c, e, _⟩ := h; exact ⟨A, c, e⟩
/-- Two texts, or one, in a row: whether none is too long. -/
theorem short2 {W : World} {g : Nat} {t : TypeId} {A B : Option Addr} {n m c d : Nat} (h : Blk W g t #[.slice A n c, .slice B m d]) (b : Bool) (hb : b = true ↔ n ≤ 64 ∧ m ≤ 64) :
    Calls Tryd.prog 17 #[.slice (some ⟨g, 0, none⟩) 2 2] W fun e w' => e = .returned (.bool b) ∧ W = w' := by
  refine (short_any g 2 (fun i => if i = 0 then A else B) (fun i => if i = 0 then n else m) (fun i => if i = 0 then c else d) W (fun i hi => ?_) (by omega)).mono ?_
  · rw [h.cell]
    match i, hi with
    | 0, _ => rfl
    | 1, _ => rfl
  · rintro e w' ⟨⟨b', rfl, hb'⟩, rfl⟩
    refine ⟨?_, rfl⟩
    have : b' = b := by
      rw [Bool.eq_iff_iff, hb', hb]
      constructor
      · intro hh; exact ⟨by simpa using hh 0 (by omega), by simpa using hh 1 (by omega)⟩
      · rintro ⟨h1, h2⟩ i hi
        show (if i = 0 then n else m) ≤ 64
        split <;> omega
    rw [this]
theorem short1 {W : World} {g : Nat} {t : TypeId} {A : Option Addr} {n c : Nat} (h : Blk W g t #[.slice A n c]) (b : Bool) (hb : b = true ↔ n ≤ 64) :
    Calls Tryd.prog 17 #[.slice (some ⟨g, 0, none⟩) 1 1] W fun e w' => e = .returned (.bool b) ∧ W = w' := by
  refine (short_any g 1 (fun _ => A) (fun _ => n) (fun _ => c) W (fun i hi => ?_) (by omega)).mono ?_
  · rw [h.cell]
    match i, hi with
    | 0, _ => rfl
  · rintro e w' ⟨⟨b', rfl, hb'⟩, rfl⟩
    refine ⟨?_, rfl⟩
    have : b' = b := by
      rw [Bool.eq_iff_iff, hb', hb]
      exact ⟨fun hh => hh 0 (by omega), fun hh i _ => hh⟩
    rw [this]

set_option maxHeartbeats 400000 in
theorem start_bad (v1 v2 : Value) (a b : List UInt8) (w : World) (h1 : Bs 0 w.heap.size w v1 a) (h2 : Bs 0 w.heap.size w v2 b) (hl : 64 < a.length ∨ 64 < b.length) :
    Calls Tryd.prog 9 #[v1, v2] w fun e w' => e = .returned (.tuple #[stV zS, .int .i64 3]) ∧ Below w.heap.size w w' := by
  obtain ⟨A, c, rfl⟩ := h1.form
  obtain ⟨B, d, rfl⟩ := h2.form
  have F0 : Fx w (w.alloc (.cells zC 24)) [(w.heap.size, zC)] := (Fx.nil w).newB _ rfl _
  have F1 := F0.alloc (.cells #[.slice A a.length c, .slice B b.length d] 25)
  have K1 : Blk ((w.alloc (.cells zC 24)).alloc (.cells #[.slice A a.length c, .slice B b.length d] 25)) (w.heap.size + 1) 25 #[.slice A a.length c, .slice B b.length d] := Blk.new (by simp)
  have C1 := short2 K1 false ⟨fun h => (nomatch h), fun h => by omega⟩
  replace F1 := hide F1; replace C1 := hide C1
  clear K1 F0 hl h1 h2
  generalize a.length = n at *
  generalize b.length = m at *
  go_enter Tryd.func9, Tryd.ntmps9
  go_wp2_with (first
    | (go_at_call 17; refine (unhide C1).mono ?_; rintro e w1 ⟨rfl, rfl⟩)
    | (refine wpList_store_row rfl 24 (.tmp 4) (.tmp 16) rfl w.heap.size zC rfl rfl 24 zC ((unhide F1).get 0 rfl) size24 rfl (stC_one zS) ?_)
    | fail)
  exact ret_st2 rfl w.heap.size zS _ rfl rfl (((unhide F1).get 0 rfl).row _) rfl ⟨rfl, bl_row (unhide F1).bl _ (Nat.le_refl _)⟩

/-- The state behind the first 'k' texts. -/
def stK (a b : List UInt8) : Nat → St
  | 0 => zS
  | 1 => absorbF zS b
  | _ => startF a b
theorem index39 (A B : Option Addr) (n m c d : Nat) (k : Nat) (h : k < 2) (W : World) : (Instr.index 39 (.agg #[.slice A n c, .slice B m d]) (.int .i64 (k : Int))).run Tryd.prog W = .ok (if k = 0 then .slice A n c else .slice B m d) W := by
  have hs : (sizeOf 25).run Tryd.prog W = .ok 1 W := by kernel_rfl
  match k, h with
  | 0, _ => simp [Instr.index, asIntOf, run_underlying Tryd.underlying39, hs, part]
  | 1, _ => simp [Instr.index, asIntOf, run_underlying Tryd.underlying39, hs, part]

set_option maxHeartbeats 1000000 in
theorem start_good (v1 v2 : Value) (a b : List UInt8) (w : World) (ht : Tab w) (h1 : Bs 0 w.heap.size w v1 a) (h2 : Bs 0 w.heap.size w v2 b) (hl : a.length ≤ 64) (hm : b.length ≤ 64) :
    Calls Tryd.prog 9 #[v1, v2] w fun e w' => e = .returned (.tuple #[stV (startF a b), .int .i64 0]) ∧ Below w.heap.size w w' := by
  obtain ⟨A, c, rfl⟩ := h1.form
  obtain ⟨B, d, rfl⟩ := h2.form
  have F0 : Fx w (w.alloc (.cells zC 24)) [(w.heap.size, zC)] := (Fx.nil w).newB _ rfl _
  have F1 := F0.alloc (.cells #[.slice A a.length c, .slice B b.length d] 25)
  have K1 : Blk ((w.alloc (.cells zC 24)).alloc (.cells #[.slice A a.length c, .slice B b.length d] 25)) (w.heap.size + 1) 25 #[.slice A a.length c, .slice B b.length d] := Blk.new (by simp)
  have C1 := short2 K1 true ⟨fun _ => ⟨hl, hm⟩, fun _ => rfl⟩
  have F2 := F1.newB (w.heap.size + 2) (by simp) zC
  have hk : ∀ (k : Nat) (h : k < 2), ∃ X x p l, (∀ W, (Instr.index 39 (.agg #[.slice B b.length d, .slice A a.length c]) (.int .i64 (k : Int))).run Tryd.prog W = .ok (.slice X x p) W) ∧ (∀ S W, Below w.heap.size w W → Calls Tryd.prog 18 #[stV S, .slice X x p] W fun e w' => e = .returned (.tuple #[stV (absorbF S l), .int .i64 0]) ∧ Below W.heap.size W w') ∧ absorbF (stK a b k) l = stK a b (k + 1) := by
    intro k h
    have e := index39 B A b.length a.length d c k h
    match k, h with
    | 0, _ => exact ⟨B, _, d, b, e, fun S W hb => absorb_any S _ b w W ht h2 (by omega) hb, rfl⟩
    | 1, _ => exact ⟨A, _, c, a, e, fun S W hb => absorb_any S _ a w W ht h1 (by omega) hb, rfl⟩
  have h2S : stK a b 2 = startF a b := rfl
  have h0S : stK a b 0 = zS := rfl
  rw [← h2S]
  generalize hS : stK a b = S at *
  replace F2 := hide F2; replace C1 := hide C1; replace hk := hide hk
  have F2' : Hid (Fx w (((w.alloc (.cells zC 24)).alloc (.cells #[.slice A a.length c, .slice B b.length d] 25)).alloc (.cells zC 24)) [(w.heap.size, zC), (w.heap.size + 2, stC (S 0))]) := by rw [h0S]; exact F2
  clear K1 F0 F1 F2 hl hm h1 h2 ht h2S h0S hS
  generalize a.length = n at *
  generalize b.length = m at *
  go_enter Tryd.func9, Tryd.ntmps9
  go_upto_region 4 with (first
    | (go_at_call 17; refine (unhide C1).mono ?_; rintro e w1 ⟨rfl, rfl⟩)
    | fail)
  generalize hW : World.alloc (World.alloc (World.alloc w _) _) _ = W at *
  clear hW C1
  go_wp2
  go_loopw [20] (fun v wr => ∃ k : Nat, k ≤ 2 ∧ v = .int .i64 k ∧ Hid (Fx w wr [(w.heap.size, zC), (w.heap.size + 2, stC (S k))])) (fun v _ => 2 - (intOf v).toNat)
  case atStart => exact ⟨0, Nat.zero_le _, rfl, F2'⟩
  case round =>
    obtain ⟨k, hkk, rfl, F⟩ := hrel
    by_cases hlt : k < 2
    · obtain ⟨X, x, p, l, hix, hcall, hst⟩ := unhide hk k hlt
      have k1 : (k : Int) < 2 := by omega
      generalize S k = s at *
      obtain ⟨s', hs'⟩ : ∃ s', S (k + 1) = s' := ⟨_, rfl⟩
      rw [hs'] at hst
      replace hs' := hide hs'
      have hc := hcall s wr (unhide F).bl
      rw [hst] at hc
      replace hc := hide hc
      clear hcall hst
      go_wp2_with (first
        | (refine wpList_load_row rfl 24 (.tmp 6) rfl (w.heap.size + 2) rfl 24 (stC s) (0, 0) _ ((unhide F).get 1 rfl) Tryd.underlying24 rfl size24 ?_)
        | (go_at_call 18; refine (unhide hc).mono ?_; rintro e w1 ⟨rfl, hb1⟩; have F3 : Fx w w1 [(w.heap.size, zC), (w.heap.size + 2, stC s)] := (unhide F).call hb1; replace F3 := hide F3; clear hb1)
        | (refine wpList_store_row rfl 24 (.tmp 6) (.tmp 33) rfl (w.heap.size + 2) (stC s') rfl rfl 24 (stC s) (((unhide F3).alloc _).get 1 rfl) size24 rfl (stC_one _) ?_)
        | fail)
      have F4 : Fx w _ _ := (((unhide F3).sub (L' := [(w.heap.size, zC)]) (by simp)).alloc (.cells (stC s') 24)).row (w.heap.size + 2) (stC s') (by omega) (by simp) (((unhide F3).alloc (.cells (stC s') 24)).get 1 rfl)
      go_roundw
      case rel => exact ⟨k + 1, by omega, by go_num, by rw [unhide hs']; exact hide F4⟩
      case measure => simp [intOf]; omega
    · obtain rfl : k = 2 := by omega
      obtain ⟨s, hs⟩ : ∃ s, S 2 = s := ⟨_, rfl⟩
      rw [hs] at F
      replace hs := hide hs
      go_wp2_with (first
        | (refine wpList_load_row rfl 24 (.tmp 6) rfl (w.heap.size + 2) rfl 24 (stC s) (0, 0) _ ((unhide F).get 1 rfl) Tryd.underlying24 rfl size24 ?_)
        | (refine wpList_store_row rfl 24 (.tmp 4) (.tmp 35) rfl w.heap.size (stC s) rfl rfl 24 zC ((unhide F).get 0 rfl) size24 rfl (stC_one _) ?_)
        | fail)
      exact ret_st2 rfl w.heap.size s (.int .i64 0) rfl rfl (((unhide F).get 0 rfl).row _) rfl ⟨by rw [unhide hs], bl_row (unhide F).bl _ (Nat.le_refl _)⟩
end Go.Proofs.YtjjamplgecioaaaDoor
