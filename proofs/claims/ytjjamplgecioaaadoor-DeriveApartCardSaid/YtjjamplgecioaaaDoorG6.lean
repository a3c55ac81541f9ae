import Derived.Test.YtjjamplgecioaaaDoorG5
namespace Go.Proofs.YtjjamplgecioaaaDoor
open Go.RowKit

set_option maxHeartbeats 400000 in
theorem key_bad (v1 v2 : Value) (a b : List UInt8) (z : Int) (w : World) (ht : Tab w) (h1 : Bs 0 w.heap.size w v1 a) (h2 : Bs 0 w.heap.size w v2 b) (hl : 64 < a.length ∨ 64 < b.length) :
    Calls Tryd.prog 13 #[v1, v2, .int .i64 z] w fun e w' => e = .returned (.tuple #[stV zS, .int .i64 3]) ∧ Below w.heap.size w w' := by
  have F0 : Fx w (w.alloc (.cells zC 24)) [(w.heap.size, zC)] := (Fx.nil w).newB _ rfl _
  have hc := fun W hb => start_any v1 v2 a b w W ht h1 h2 hb
  rw [startE_bad hl] at hc
  obtain ⟨A, c, rfl⟩ := h1.form
  obtain ⟨B, d, rfl⟩ := h2.form
  replace F0 := hide F0; replace hc := hide hc
  clear hl h1 h2 ht
  generalize a.length = n at *
  generalize b.length = m at *
  go_enter Tryd.func13, Tryd.ntmps13
  go_wp2_with (first
    | (go_at_call 9; refine (unhide hc _ (unhide F0).bl).mono ?_; rintro e w1 ⟨rfl, hb1⟩; have F1 : Fx w w1 [(w.heap.size, zC)] := (unhide F0).call hb1; have F2 := F1.alloc (.cells (stC zS) 24); replace F2 := hide F2; clear hb1 F1)
    | (refine wpList_store_row rfl 24 (.tmp 6) (.tmp 18) rfl w.heap.size zC rfl rfl 24 zC ((unhide F2).get 0 rfl) size24 rfl (stC_one zS) ?_)
    | fail)
  exact ret_st2 rfl w.heap.size zS _ rfl rfl (((unhide F2).get 0 rfl).row _) rfl ⟨rfl, bl_row (unhide F2).bl _ (Nat.le_refl _)⟩

set_option maxHeartbeats 400000 in
theorem key_arg (v1 v2 : Value) (a b : List UInt8) (z : Int) (w : World) (ht : Tab w) (h1 : Bs 0 w.heap.size w v1 a) (h2 : Bs 0 w.heap.size w v2 b) (hl : a.length ≤ 64) (hm : b.length ≤ 64) (hz : z < 1) :
    Calls Tryd.prog 13 #[v1, v2, .int .i64 z] w fun e w' => e = .returned (.tuple #[stV zS, .int .i64 1]) ∧ Below w.heap.size w w' := by
  have F0 : Fx w (w.alloc (.cells zC 24)) [(w.heap.size, zC)] := (Fx.nil w).newB _ rfl _
  have hc := fun W hb => start_any v1 v2 a b w W ht h1 h2 hb
  rw [startE_good hl hm] at hc
  obtain ⟨A, c, rfl⟩ := h1.form
  obtain ⟨B, d, rfl⟩ := h2.form
  replace F0 := hide F0; replace hc := hide hc
  clear hl hm h1 h2 ht
  generalize startF a b = T at *
  generalize a.length = n at *
  generalize b.length = m at *
  go_enter Tryd.func13, Tryd.ntmps13
  go_wp2_with (first
    | (go_at_call 9; refine (unhide hc _ (unhide F0).bl).mono ?_; rintro e w1 ⟨rfl, hb1⟩; have F1 : Fx w w1 [(w.heap.size, zC)] := (unhide F0).call hb1; have F2 := F1.newB w1.heap.size rfl (stC T); replace F2 := hide F2; clear hb1 F1)
    | (refine wpList_store_row rfl 24 (.tmp 6) (.tmp 22) rfl w.heap.size zC rfl rfl 24 zC ((unhide F2).get 0 rfl) size24 rfl (stC_one zS) ?_)
    | fail)
  exact ret_st2 rfl w.heap.size zS _ rfl rfl (((unhide F2).get 0 rfl).row _) rfl ⟨rfl, bl_row (unhide F2).bl _ (Nat.le_refl _)⟩

set_option maxHeartbeats 400000 in
theorem key_go (v1 v2 : Value) (a b : List UInt8) (z : Int) (w : World) (ht : Tab w) (h1 : Bs 0 w.heap.size w v1 a) (h2 : Bs 0 w.heap.size w v2 b) (hl : a.length ≤ 64) (hm : b.length ≤ 64) (hz : ¬ z < 1) :
    Calls Tryd.prog 13 #[v1, v2, .int .i64 z] w fun e w' => e = .returned (.tuple #[stV (goE (startF a b) a z).1, .int .i64 ((goE (startF a b) a z).2 : Nat)]) ∧ Below w.heap.size w w' := by
  have F0 : Fx w (w.alloc (.cells zC 24)) [(w.heap.size, zC)] := (Fx.nil w).newB _ rfl _
  have hc := fun W hb => start_any v1 v2 a b w W ht h1 h2 hb
  rw [startE_good hl hm] at hc
  have hg := fun W hb => go_any (startF a b) v1 a z w W ht h1 hb
  obtain ⟨A, c, rfl⟩ := h1.form
  obtain ⟨B, d, rfl⟩ := h2.form
  generalize (goE (startF a b) a z).1 = U at *
  generalize (goE (startF a b) a z).2 = u at *
  replace hg := hide hg
  replace F0 := hide F0; replace hc := hide hc
  clear hl hm h1 h2 ht
  generalize startF a b = T at *
  generalize a.length = n at *
  generalize b.length = m at *
  go_enter Tryd.func13, Tryd.ntmps13
  go_wp2_with (first
    | (go_at_call 9; refine (unhide hc _ (unhide F0).bl).mono ?_; rintro e w1 ⟨rfl, hb1⟩; have F1 : Fx w w1 [(w.heap.size, zC)] := (unhide F0).call hb1; have F2 := F1.newB w1.heap.size rfl (stC T); replace F2 := hide F2; clear hb1 F1)
    | (go_at_call 11; refine (unhide hg _ (unhide F2).bl).mono ?_; rintro e w2 ⟨rfl, hb2⟩; have F3 := (unhide F2).call hb2; replace F3 := hide F3; clear hb2)
    | (refine wpList_store_row rfl 24 (.tmp 6) (.tmp 27) rfl w.heap.size (stC U) rfl rfl 24 zC ((unhide F3).get 0 rfl) size24 rfl (stC_one U) ?_)
    | fail)
  exact ret_st2 rfl w.heap.size U _ rfl rfl (((unhide F3).get 0 rfl).row _) rfl ⟨rfl, bl_row (unhide F3).bl _ (Nat.le_refl _)⟩
theorem key_any (v1 v2 : Value) (a b : List UInt8) (z : Int) (w W : World) (ht : Tab w) (h1 : Bs 0 w.heap.size w v1 a) (h2 : Bs 0 w.heap.size w v2 b) (hb : Below w.heap.size w W) :
    Calls Tryd.prog 13 #[v1, v2, .int .i64 z] W fun e w' => e = .returned (.tuple #[stV (keyE a b z).1, .int .i64 ((keyE a b z).2 : Nat)]) ∧ Below W.heap.size W w' := by
  by_cases h : 64 < a.length ∨ 64 < b.length
  · rw [keyE_bad h]; exact key_bad v1 v2 a b z W (ht.below hb (Nat.le_refl _)) (h1.at hb) (h2.at hb) h
  · by_cases hz : z < 1
    · rw [keyE_arg (by omega) (by omega) hz]; exact key_arg v1 v2 a b z W (ht.below hb (Nat.le_refl _)) (h1.at hb) (h2.at hb) (by omega) (by omega) hz
    · rw [keyE_go (by omega) (by omega) hz]; exact key_go v1 v2 a b z W (ht.below hb (Nat.le_refl _)) (h1.at hb) (h2.at hb) (by omega) (by omega) hz

set_option maxHeartbeats 400000 in
theorem keyR_bad (v1 v2 : Value) (a b : List UInt8) (z : Int) (w : World) (h1 : Bs 0 w.heap.size w v1 a) (h2 : Bs 0 w.heap.size w v2 b) (hl : 64 < a.length ∨ 64 < b.length) :
    Calls Tryd.prog 14 #[v1, v2, .int .i64 z] w fun e w' => e = .returned (.tuple #[stV zS, .int .i64 3]) ∧ Below w.heap.size w w' := by
  have F0 : Fx w (w.alloc (.cells zC 24)) [(w.heap.size, zC)] := (Fx.nil w).newB _ rfl _
  have hc := fun W hb => startR_any v1 v2 a b w W h1 h2 hb
  rw [startE_bad hl] at hc
  obtain ⟨A, c, rfl⟩ := h1.form
  obtain ⟨B, d, rfl⟩ := h2.form
  replace F0 := hide F0; replace hc := hide hc
  clear hl h1 h2
  generalize a.length = n at *
  generalize b.length = m at *
  go_enter Tryd.func14, Tryd.ntmps14
  go_wp2_with (first
    | (go_at_call 10; refine (unhide hc _ (unhide F0).bl).mono ?_; rintro e w1 ⟨rfl, hb1⟩; have F1 : Fx w w1 [(w.heap.size, zC)] := (unhide F0).call hb1; have F2 := F1.alloc (.cells (stC zS) 24); replace F2 := hide F2; clear hb1 F1)
    | (refine wpList_store_row rfl 24 (.tmp 6) (.tmp 18) rfl w.heap.size zC rfl rfl 24 zC ((unhide F2).get 0 rfl) size24 rfl (stC_one zS) ?_)
    | fail)
  exact ret_st2 rfl w.heap.size zS _ rfl rfl (((unhide F2).get 0 rfl).row _) rfl ⟨rfl, bl_row (unhide F2).bl _ (Nat.le_refl _)⟩

set_option maxHeartbeats 400000 in
theorem keyR_arg (v1 v2 : Value) (a b : List UInt8) (z : Int) (w : World) (h1 : Bs 0 w.heap.size w v1 a) (h2 : Bs 0 w.heap.size w v2 b) (hl : a.length ≤ 64) (hm : b.length ≤ 64) (hz : z = 0) :
    Calls Tryd.prog 14 #[v1, v2, .int .i64 z] w fun e w' => e = .returned (.tuple #[stV zS, .int .i64 1]) ∧ Below w.heap.size w w' := by
  have F0 : Fx w (w.alloc (.cells zC 24)) [(w.heap.size, zC)] := (Fx.nil w).newB _ rfl _
  have hc := fun W hb => startR_any v1 v2 a b w W h1 h2 hb
  rw [startE_good hl hm] at hc
  obtain ⟨A, c, rfl⟩ := h1.form
  obtain ⟨B, d, rfl⟩ := h2.form
  replace F0 := hide F0; replace hc := hide hc
  clear hl hm h1 h2
  generalize startF a b = T at *
  generalize a.length = n at *
  generalize b.length = m at *
  go_enter Tryd.func14, Tryd.ntmps14
  go_wp2_with (first
    | (go_at_call 10; refine (unhide hc _ (unhide F0).bl).mono ?_; rintro e w1 ⟨rfl, hb1⟩; have F1 : Fx w w1 [(w.heap.size, zC)] := (unhide F0).call hb1; have F2 := F1.newB w1.heap.size rfl (stC T); replace F2 := hide F2; clear hb1 F1)
    | (refine wpList_store_row rfl 24 (.tmp 6) (.tmp 22) rfl w.heap.size zC rfl rfl 24 zC ((unhide F2).get 0 rfl) size24 rfl (stC_one zS) ?_)
    | fail)
  exact ret_st2 rfl w.heap.size zS _ rfl rfl (((unhide F2).get 0 rfl).row _) rfl ⟨rfl, bl_row (unhide F2).bl _ (Nat.le_refl _)⟩

set_option maxHeartbeats 400000 in
theorem keyR_go (v1 v2 : Value) (a b : List UInt8) (z : Int) (w : World) (h1 : Bs 0 w.heap.size w v1 a) (h2 : Bs 0 w.heap.size w v2 b) (hl : a.length ≤ 64) (hm : b.length ≤ 64) (hz : ¬ z = 0) :
    Calls Tryd.prog 14 #[v1, v2, .int .i64 z] w fun e w' => e = .returned (.tuple #[stV (goE (startF a b) a z).1, .int .i64 ((goE (startF a b) a z).2 : Nat)]) ∧ Below w.heap.size w w' := by
  have F0 : Fx w (w.alloc (.cells zC 24)) [(w.heap.size, zC)] := (Fx.nil w).newB _ rfl _
  have hc := fun W hb => startR_any v1 v2 a b w W h1 h2 hb
  rw [startE_good hl hm] at hc
  have hg := fun W hb => goR_any (startF a b) v1 a z w W h1 hb
  obtain ⟨A, c, rfl⟩ := h1.form
  obtain ⟨B, d, rfl⟩ := h2.form
  generalize (goE (startF a b) a z).1 = U at *
  generalize (goE (startF a b) a z).2 = u at *
  replace hg := hide hg
  replace F0 := hide F0; replace hc := hide hc
  clear hl hm h1 h2
  generalize startF a b = T at *
  generalize a.length = n at *
  generalize b.length = m at *
  go_enter Tryd.func14, Tryd.ntmps14
  go_wp2_with (first
    | (go_at_call 10; refine (unhide hc _ (unhide F0).bl).mono ?_; rintro e w1 ⟨rfl, hb1⟩; have F1 : Fx w w1 [(w.heap.size, zC)] := (unhide F0).call hb1; have F2 := F1.newB w1.heap.size rfl (stC T); replace F2 := hide F2; clear hb1 F1)
    | (go_at_call 12; refine (unhide hg _ (unhide F2).bl).mono ?_; rintro e w2 ⟨rfl, hb2⟩; have F3 := (unhide F2).call hb2; replace F3 := hide F3; clear hb2)
    | (refine wpList_store_row rfl 24 (.tmp 6) (.tmp 27) rfl w.heap.size (stC U) rfl rfl 24 zC ((unhide F3).get 0 rfl) size24 rfl (stC_one U) ?_)
    | fail)
  exact ret_st2 rfl w.heap.size U _ rfl rfl (((unhide F3).get 0 rfl).row _) rfl ⟨rfl, bl_row (unhide F3).bl _ (Nat.le_refl _)⟩
theorem keyR_any (v1 v2 : Value) (a b : List UInt8) (z : Int) (w W : World) (h1 : Bs 0 w.heap.size w v1 a) (h2 : Bs 0 w.heap.size w v2 b) (hb : Below w.heap.size w W) :
    Calls Tryd.prog 14 #[v1, v2, .int .i64 z] W fun e w' => e = .returned (.tuple #[stV (keyE a b z).1, .int .i64 ((keyE a b z).2 : Nat)]) ∧ Below W.heap.size W w' := by
  by_cases h : 64 < a.length ∨ 64 < b.length
  · rw [keyE_bad h]; exact keyR_bad v1 v2 a b z W (h1.at hb) (h2.at hb) h
  · by_cases hz : z = 0
    · rw [keyE_arg (by omega) (by omega) (by omega)]; exact keyR_arg v1 v2 a b z W (h1.at hb) (h2.at hb) (by omega) (by omega) hz
    · by_cases h0 : z < 1
      · have e : keyE a b z = goE (startF a b) a z := by rw [keyE_arg (by omega) (by omega) h0, goE_arg (by omega) (by omega)]
        rw [e]; exact keyR_go v1 v2 a b z W (h1.at hb) (h2.at hb) (by omega) (by omega) hz
      · rw [keyE_go (by omega) (by omega) h0]; exact keyR_go v1 v2 a b z W (h1.at hb) (h2.at hb) (by omega) (by omega) hz
end Go.Proofs.YtjjamplgecioaaaDoor
