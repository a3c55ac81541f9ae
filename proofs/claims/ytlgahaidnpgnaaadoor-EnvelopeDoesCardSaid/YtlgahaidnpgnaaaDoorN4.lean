import Derived.Test.YtlgahaidnpgnaaaDoorN3
namespace Go.Proofs.YtlgahaidnpgnaaaDoor
open Go.RowKit

theorem Bs.to {lo : Nat} {w w' : World} {v : Value} {l : List UInt8} (h : Bs lo w.heap.size w v l) (hb : Below w.heap.size w w') : Bs lo w'.heap.size w' v l := (h.below hb (Nat.le_refl _)).mono (Nat.le_refl _) hb.size
theorem Bs.form {lo hi : Nat} {w : World} {v : Value} {l : List UInt8} (h : Bs lo hi w v l) : ∃ A c, v = .slice A l.length c := by obtain ⟨A, c, e, _⟩ := h; exact ⟨A, c, e⟩
theorem Bs.of_own0 {base : Nat} {w : World} {v : Value} {l : List UInt8} (h : OwnB w base v l) : Bs 0 w.heap.size w v l := (Bs.of_own h).mono (Nat.zero_le _) (Nat.le_refl _)

/-- Two texts, one behind the other. -/
theorem concat2 (v1 v2 : Value) (l1 l2 : List UInt8) (W : World) (h1 : Bs 0 W.heap.size W v1 l1) (h2 : Bs 0 W.heap.size W v2 l2) (h0 : 0 < (l1 ++ l2).length) (hL : (l1 ++ l2).length ≤ 1000000) :
    Calls Tryd.prog 27 #[.slice (some ⟨W.heap.size, 0, none⟩) 2 2] (W.alloc (.cells #[v1, v2] 28)) fun e w' => ∃ A c, e = .returned (.slice A (l1 ++ l2).length c) ∧ OwnB w' W.heap.size (.slice A (l1 ++ l2).length c) (l1 ++ l2) ∧ Below W.heap.size W w' := by
  have hB : Blk (W.alloc (.cells #[v1, v2] 28)) W.heap.size 28 #[v1, v2] := Blk.new rfl
  have hb : Below W.heap.size W (W.alloc (.cells #[v1, v2] 28)) := bl_alloc (Below.refl _ _) _
  obtain ⟨A1, c1, rfl⟩ := h1.form
  obtain ⟨A2, c2, rfl⟩ := h2.form
  have hLs : Lists 0 (W.alloc (.cells #[.slice A1 l1.length c1, .slice A2 l2.length c2] 28)) W.heap.size [l1, l2] := by
    intro k hk
    match k, hk with
    | 0, _ => exact ⟨A1, c1, hB.cell 0, h1.to hb⟩
    | 1, _ => exact ⟨A2, c2, hB.cell 1, h2.to hb⟩
  have e1 : cat [l1, l2] 2 = l1 ++ l2 := by simp [cat]
  have e2 : upto [l1, l2] 2 = (l1 ++ l2).length := by rw [← upto_cat, e1]
  have h := concat_any 0 W.heap.size [l1, l2] _ hLs (by simp) (by simp) (by show 0 < upto [l1, l2] 2; omega) (by show upto [l1, l2] 2 ≤ _; omega)
  have e3 : [l1, l2].length = 2 := rfl
  rw [e3, e2, e1] at h
  refine h.mono ?_
  rintro e w' ⟨A, c, rfl, ho, hb'⟩
  exact ⟨A, c, rfl, ownsRow_mono ho hb.size, bl_call hb hb'⟩

set_option maxHeartbeats 1000000 in
theorem behind_any (s : St) (vt va : Value) (t a : List UInt8) (w : World) (ht : Tab w) (h1 : Bs 0 w.heap.size w va a) (h2 : Bs 0 w.heap.size w vt t) (h0 : 0 < a.length) (hL : (a ++ t).length ≤ 131072) :
    Calls Tryd.prog 36 #[stV s, vt, va] w fun e w' => e = .returned (.tuple #[stV (absorbF s (a ++ t)), .int .i64 0]) ∧ Below w.heap.size w w' := by
  have hB : Blk ((w.alloc (.cells (stC s) 24)).alloc (.cells zC 24)) w.heap.size 24 (stC s) := Blk.alloc (Blk.new rfl) _
  have hZ : Blk ((w.alloc (.cells (stC s) 24)).alloc (.cells zC 24)) (w.heap.size + 1) 24 zC := Blk.new (by simp)
  have hb : Below w.heap.size w ((w.alloc (.cells (stC s) 24)).alloc (.cells zC 24)) := bl_alloc (bl_alloc (Below.refl _ _) _) _
  have hc := fun W (hb : Below w.heap.size w W) => concat2 va vt a t W (h1.to hb) (h2.to hb) (by rw [List.length_append]; omega) (by omega)
  have hq := fun v W (hb : Below w.heap.size w W) (h : Bs 0 W.heap.size W v (a ++ t)) => Absorb_good 0 s v _ W (ht.below hb (Nat.le_refl _)) h hL
  obtain ⟨A1, c1, rfl⟩ := h1.form
  obtain ⟨A2, c2, rfl⟩ := h2.form
  obtain ⟨S', hS'⟩ : ∃ S', S' = absorbF s (a ++ t) := ⟨_, rfl⟩
  rw [← hS']
  rw [← hS'] at hq
  generalize a ++ t = l at *
  replace hB := hide hB; replace hZ := hide hZ; replace hb := hide hb; replace hc := hide hc; replace hq := hide hq; replace hS' := hide hS'
  clear h1 h2 h0 hL
  go_enter Tryd.func36, Tryd.ntmps36
  go_upto_region 1 with (fail)
  generalize hW : World.alloc (World.alloc w _) _ = W at *
  clear hW
  have l0 := (unhide hB).lt
  have l1 := (unhide hZ).lt
  have c0 : W.cell? ⟨w.heap.size, 0, none⟩ = some (u32v s.a) := (unhide hB).cell 0
  have c1' : W.cell? ⟨w.heap.size, 1, none⟩ = some (u32v s.b) := (unhide hB).cell 1
  have c2' : W.cell? ⟨w.heap.size, 2, none⟩ = some (u32v s.c) := (unhide hB).cell 2
  have c3 : W.cell? ⟨w.heap.size, 3, none⟩ = some (u32v s.d) := (unhide hB).cell 3
  go_region_law (first
    | (go_simp; go_at_call 27; refine (unhide hc _ (unhide hb).drew).mono ?_; rintro e w5 ⟨A5, c5, rfl, o5, hb5⟩
       have B5 : Blk w5 w.heap.size 24 (stC s) := Blk.below ((unhide hB).drew) hb5 l0
       have Z5 : Blk w5 (w.heap.size + 1) 24 zC := Blk.below ((unhide hZ).drew) hb5 l1
       have b5 : Below w.heap.size w w5 := bl_call (unhide hb).drew hb5
       have p0 : w5.cell? ⟨w.heap.size, 0, none⟩ = some (u32v s.a) := B5.cell 0
       have p1 : w5.cell? ⟨w.heap.size, 1, none⟩ = some (u32v s.b) := B5.cell 1
       have p2 : w5.cell? ⟨w.heap.size, 2, none⟩ = some (u32v s.c) := B5.cell 2
       have p3 : w5.cell? ⟨w.heap.size, 3, none⟩ = some (u32v s.d) := B5.cell 3
       have l5 := Z5.lt
       have x5 := Bs.of_own0 o5
       replace B5 := hide B5; replace Z5 := hide Z5; replace b5 := hide b5; replace x5 := hide x5
       clear o5 hb5)
    | (go_simp; go_at_call 46; refine (unhide hq _ _ (unhide b5) (unhide x5)).mono ?_; rintro e w7 ⟨rfl, hb7⟩
       have Z7 : Blk w7 (w.heap.size + 1) 24 zC := Blk.below (unhide Z5) hb7 l5
       have bb : Below w.heap.size w w7 := bl_call (unhide b5) hb7
       have d0 : w7.cell? ⟨w.heap.size + 1, 0, none⟩ = some (.int .u32 0) := Z7.cell 0
       have d1 : w7.cell? ⟨w.heap.size + 1, 1, none⟩ = some (.int .u32 0) := Z7.cell 1
       have d2 : w7.cell? ⟨w.heap.size + 1, 2, none⟩ = some (.int .u32 0) := Z7.cell 2
       have d3 : w7.cell? ⟨w.heap.size + 1, 3, none⟩ = some (.int .u32 0) := Z7.cell 3
       have f0 : w7.frozen? ⟨w.heap.size + 1, 0, none⟩ = false := Z7.frozen 0
       have f1 : w7.frozen? ⟨w.heap.size + 1, 1, none⟩ = false := Z7.frozen 1
       have f2 : w7.frozen? ⟨w.heap.size + 1, 2, none⟩ = false := Z7.frozen 2
       have f3 : w7.frozen? ⟨w.heap.size + 1, 3, none⟩ = false := Z7.frozen 3
       replace Z7 := hide Z7; replace bb := hide bb))
  all_goals
    have Z8 : Blk _ (w.heap.size + 1) 24 (stC S') := Blk.set4 (x := u32v S'.a) (y := u32v S'.b) (z := u32v S'.c) (u := u32v S'.d) (unhide Z7)
    have bb8 : Below w.heap.size w _ := below_set4 (g := w.heap.size + 1) (x := u32v S'.a) (y := u32v S'.b) (z := u32v S'.c) (u := u32v S'.d) (unhide bb) (by omega)
    replace Z8 := hide Z8; replace bb8 := hide bb8
    go_wp2_with (fail)
    exact ret_st2 rfl (w.heap.size + 1) S' (.int .i64 0) rfl rfl (unhide Z8) rfl ⟨by rw [unhide hS'], unhide bb8⟩
end Go.Proofs.YtlgahaidnpgnaaaDoor
