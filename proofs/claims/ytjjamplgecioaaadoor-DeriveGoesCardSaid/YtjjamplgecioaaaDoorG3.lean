import Derived.Test.YtjjamplgecioaaaDoorG2
namespace Go.Proofs.YtjjamplgecioaaaDoor
open Go.RowKit

/-- Start, in one. -/
theorem start_any (v1 v2 : Value) (a b : List UInt8) (w W : World) (ht : Tab w) (h1 : Bs 0 w.heap.size w v1 a) (h2 : Bs 0 w.heap.size w v2 b) (hb : Below w.heap.size w W) :
    Calls Tryd.prog 9 #[v1, v2] W fun e w' => e = .returned (.tuple #[stV (startE a b).1, .int .i64 ((startE a b).2 : Nat)]) ∧ Below W.heap.size W w' := by
  by_cases h : 64 < a.length ∨ 64 < b.length
  · rw [startE_bad h]; exact start_bad v1 v2 a b W (h1.at hb) (h2.at hb) h
  · rw [startE_good (by omega) (by omega)]; exact start_good v1 v2 a b W (ht.below hb (Nat.le_refl _)) (h1.at hb) (h2.at hb) (by omega) (by omega)

set_option maxHeartbeats 400000 in
theorem startR_bad (v1 v2 : Value) (a b : List UInt8) (w : World) (h1 : Bs 0 w.heap.size w v1 a) (h2 : Bs 0 w.heap.size w v2 b) (hl : 64 < a.length ∨ 64 < b.length) :
    Calls Tryd.prog 10 #[v1, v2] w fun e w' => e = .returned (.tuple #[stV zS, .int .i64 3]) ∧ Below w.heap.size w w' := by
  obtain ⟨A, c, rfl⟩ := h1.form
  obtain ⟨B, d, rfl⟩ := h2.form
  have F0 : Fx w (w.alloc (.cells zC 24)) [(w.heap.size, zC)] := (Fx.nil w).newB _ rfl _
  replace F0 := hide F0
  clear h1 h2
  generalize a.length = n at *
  generalize b.length = m at *
  by_cases h : 64 < n
  · have k1 : (64 : Int) < (n : Int) := by omega
    clear hl
    go_enter Tryd.func10, Tryd.ntmps10
    go_wp2_with (first
      | (refine wpList_store_row rfl 24 (.tmp 4) (.tmp 16) rfl w.heap.size zC rfl rfl 24 zC ((unhide F0).get 0 rfl) size24 rfl (stC_one zS) ?_)
      | fail)
    exact ret_st2 rfl w.heap.size zS _ rfl rfl (((unhide F0).get 0 rfl).row _) rfl ⟨rfl, bl_row (unhide F0).bl _ (Nat.le_refl _)⟩
  · have k1 : ¬ (64 : Int) < (n : Int) := by omega
    have k2 : (64 : Int) < (m : Int) := by omega
    clear hl
    go_enter Tryd.func10, Tryd.ntmps10
    go_wp2_with (first
      | (refine wpList_store_row rfl 24 (.tmp 4) (.tmp 16) rfl w.heap.size zC rfl rfl 24 zC ((unhide F0).get 0 rfl) size24 rfl (stC_one zS) ?_)
      | fail)
    exact ret_st2 rfl w.heap.size zS _ rfl rfl (((unhide F0).get 0 rfl).row _) rfl ⟨rfl, bl_row (unhide F0).bl _ (Nat.le_refl _)⟩

set_option maxHeartbeats 400000 in
theorem startR_good (v1 v2 : Value) (a b : List UInt8) (w : World) (h1 : Bs 0 w.heap.size w v1 a) (h2 : Bs 0 w.heap.size w v2 b) (hl : a.length ≤ 64) (hm : b.length ≤ 64) :
    Calls Tryd.prog 10 #[v1, v2] w fun e w' => e = .returned (.tuple #[stV (startF a b), .int .i64 0]) ∧ Below w.heap.size w w' := by
  obtain ⟨A, c, rfl⟩ := h1.form
  obtain ⟨B, d, rfl⟩ := h2.form
  have F0 : Fx w (w.alloc (.cells zC 24)) [(w.heap.size, zC)] := (Fx.nil w).newB _ rfl _
  have k1 : ¬ (64 : Int) < (a.length : Int) := by omega
  have k2 : ¬ (64 : Int) < (b.length : Int) := by omega
  have hc1 := fun W hb => absorbR_any zS _ b w W h2 (by omega) hb
  have hc2 := fun S W hb => absorbR_any S _ a w W h1 (by omega) hb
  have hc2' := hc2 (absorbF zS b)
  have hst : absorbF (absorbF zS b) a = startF a b := rfl
  rw [hst] at hc2'
  clear hc2 hst h1 h2 hl hm
  generalize startF a b = T at *
  generalize absorbF zS b = S at *
  generalize a.length = n at *
  generalize b.length = m at *
  replace F0 := hide F0; replace hc1 := hide hc1; replace hc2' := hide hc2'
  have tok1 : True := trivial
  have tok2 : True := trivial
  go_enter Tryd.func10, Tryd.ntmps10
  go_wp2_with (first
    | (go_at_call 19; have _t := tok1; refine (unhide hc1 _ (unhide F0).bl).mono ?_; rintro e w1 ⟨rfl, hb1⟩; have F1 : Fx w w1 [(w.heap.size, zC)] := (unhide F0).call hb1; have F2 := F1.newB w1.heap.size rfl (stC S); replace F2 := hide F2; clear tok1 _t hb1 F1)
    | (go_at_call 19; have _t := tok2; refine (unhide hc2' _ (unhide F2).bl).mono ?_; rintro e w2 ⟨rfl, hb2⟩; have F3 := (unhide F2).call hb2; replace F3 := hide F3; clear tok2 _t hb2)
    | (refine wpList_store_row rfl 24 (.tmp 4) (.tmp 26) rfl w.heap.size (stC T) rfl rfl 24 zC ((unhide F3).get 0 rfl) size24 rfl (stC_one T) ?_)
    | fail)
  exact ret_st2 rfl w.heap.size T _ rfl rfl (((unhide F3).get 0 rfl).row _) rfl ⟨rfl, bl_row (unhide F3).bl _ (Nat.le_refl _)⟩
theorem startR_any (v1 v2 : Value) (a b : List UInt8) (w W : World) (h1 : Bs 0 w.heap.size w v1 a) (h2 : Bs 0 w.heap.size w v2 b) (hb : Below w.heap.size w W) :
    Calls Tryd.prog 10 #[v1, v2] W fun e w' => e = .returned (.tuple #[stV (startE a b).1, .int .i64 ((startE a b).2 : Nat)]) ∧ Below W.heap.size W w' := by
  by_cases h : 64 < a.length ∨ 64 < b.length
  · rw [startE_bad h]; exact startR_bad v1 v2 a b W (h1.at hb) (h2.at hb) h
  · rw [startE_good (by omega) (by omega)]; exact startR_good v1 v2 a b W (h1.at hb) (h2.at hb) (by omega) (by omega)
end Go.Proofs.YtjjamplgecioaaaDoor
