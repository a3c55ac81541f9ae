import Derived.Test.YtommlgdolahfbaaDoorR43
import Derived.Test.YtommlgdolahfbaaDoorS51
namespace Go.Proofs.YtommlgdolahfbaaDoor
set_option maxRecDepth 100000
open Go.RowKit

section
variable {base : Nat} {w : World} {v : Value} {d : Dk}
theorem CopyOut.form (h : CopyOut base w v d) : ∃ A c Aw cw, v = .agg #[.slice A d.dry.length c, .slice Aw d.wet.length cw, .int .i64 d.left] := by
  obtain ⟨A, c, Aw, cw, B, rfl, _⟩ := h
  exact ⟨_, _, _, _, rfl⟩
theorem CopyOut.set1 (h : CopyOut base w v d) {g : Nat} {cs : Array Value} (hg : Blk w g 31 cs) (hlt : g < base) (i : Nat) (u : Value) : CopyOut base (w.setCell ⟨g, i, none⟩ u) v d := by
  obtain ⟨A, c, Aw, cw, B, rfl, h1, h2, h3, h4, h5⟩ := h
  exact ⟨A, c, Aw, cw, B, rfl, own_far h1 hg (by decide) i u, h2, h3, by simpa using h4, by
    have h6 := h5.keep (w' := w.setCell ⟨g, i, none⟩ u) (fun k a _ => Below.heap_setCell w ⟨g, i, none⟩ u k (show k ≠ g by omega))
    simpa using h6⟩
theorem CopyOut.set3 (h : CopyOut base w v d) {g : Nat} {a b c x y z : Value} (hg : Blk w g 31 #[a, b, c]) (hlt : g < base) : CopyOut base (((w.setCell ⟨g, 0, none⟩ x).setCell ⟨g, 1, none⟩ y).setCell ⟨g, 2, none⟩ z) v d :=
  ((h.set1 hg hlt 0 x).set1 (hg.set 0 x) hlt 1 y).set1 ((hg.set 0 x).set 1 y) hlt 2 z
theorem CopyOut.alloc (h : CopyOut base w v d) (o : Obj) : CopyOut base (w.alloc o) v d := by
  obtain ⟨A, c, Aw, cw, B, rfl, h1, h2, h3, h4, h5⟩ := h
  exact ⟨A, c, Aw, cw, B, rfl, h1.alloc o, h2, h3, by simp; omega, ((h5.below (B := w.heap.size) ((Below.refl _ _).alloc (Nat.le_refl _) o) (Nat.le_refl _)).mono (Nat.le_refl _) (by simp))⟩
theorem CopyOut.mono {base' : Nat} (h : CopyOut base w v d) (hb : base' ≤ base) : CopyOut base' w v d := by
  obtain ⟨A, c, Aw, cw, B, rfl, h1, h2, h3, h4, h5⟩ := h
  exact ⟨A, c, Aw, cw, B, rfl, ownsRow_mono h1 hb, h2, by omega, h4, h5⟩
theorem CopyOut.toLeft {a b : Value} (h : CopyOut base w (.agg #[a, b, .int .i64 d.left]) d) (m : Int) : CopyOut base w (.agg #[a, b, .int .i64 m]) ⟨d.dry, d.wet, m⟩ := by
  obtain ⟨A, c, Aw, cw, B, e, h1, h2, h3, h4, h5⟩ := h
  simp only [Value.agg.injEq, Array.mk.injEq, List.cons.injEq, and_true] at e
  obtain ⟨rfl, rfl⟩ := e
  exact ⟨A, c, Aw, cw, B, rfl, h1, h2, h3, h4, h5⟩
theorem CopyOut.toDsk (h : CopyOut base w v d) : Dsk base w.heap.size w v d := by
  obtain ⟨A, c, Aw, cw, B, rfl, ho, _, h1, h2, hp⟩ := h
  exact ⟨_, _, rfl, Bs.of_own ho, hp.mono h1 (Nat.le_refl _)⟩
end

set_option maxHeartbeats 1000000 in
theorem refis_any (lo : Nat) (v : Value) (d : Dk) (at_ : Int) (w : World) (h : Dsk lo w.heap.size w v d) :
    Calls Tryd.prog 56 #[v, .int .i64 at_] w fun e w' => e = .returned (.bool (okD d && hasB d.dry.length at_)) ∧ Below w.heap.size w w' := by
  have hck : ∀ W, Below w.heap.size w W → Calls Tryd.prog 38 #[v] W fun e w' => e = .returned (.int .i64 (badE (okD d))) ∧ Below W.heap.size W w' :=
    fun W hB => refcheck_any lo v d W ((h.below hB (Nat.le_refl _)).mono (Nat.le_refl _) hB.size)
  have hN : d.dry.length ≤ 9223372036854775807 := by obtain ⟨_, _, _, ⟨_, _, _, x1, x2, _⟩, _⟩ := h; omega
  obtain ⟨A, c, A', c', rfl⟩ := h.form
  generalize okD d = ok at *
  replace hck := hide hck
  clear h
  generalize d.dry.length = N at *
  generalize d.wet.length = M at *
  have b1 : (badE false == 0) = false := rfl
  have b2 : (badE true == 0) = true := rfl
  cases ok with
  | false =>
    go_enter Tryd.func56, Tryd.ntmps56
    go_wp2_with (first
      | (go_at_call 38; refine (unhide hck _ (by (repeat (first | with_reducible exact Below.refl _ _ | with_reducible assumption | with_reducible refine Below.drew ?_ | with_reducible refine bl_alloc ?_ _ | with_reducible refine bl_call ?_ (by assumption) | (focus (with_reducible refine Below.setCell ?_ ?_ _; rotate_left; focus (first | omega | (simp <;> omega)))) | fail)))).mono ?_; rintro e w1 ⟨rfl, hb1⟩; have HB1 : Below w.heap.size w w1 := bl_call (by (repeat (first | with_reducible exact Below.refl _ _ | with_reducible assumption | with_reducible refine Below.drew ?_ | with_reducible refine bl_alloc ?_ _ | with_reducible refine bl_call ?_ (by assumption) | (focus (with_reducible refine Below.setCell ?_ ?_ _; rotate_left; focus (first | omega | (simp <;> omega)))) | fail))) hb1; clear hb1)
      | fail)
    go_ret
    exact ⟨rfl, HB1⟩
  | true =>
    obtain ⟨S, hS⟩ : ∃ S : Int, S = (N : Int) / 32 := ⟨_, rfl⟩
    go_enter Tryd.func56, Tryd.ntmps56
    go_wp2_with (first
      | (go_at_call 38; refine (unhide hck _ (by (repeat (first | with_reducible exact Below.refl _ _ | with_reducible assumption | with_reducible refine Below.drew ?_ | with_reducible refine bl_alloc ?_ _ | with_reducible refine bl_call ?_ (by assumption) | (focus (with_reducible refine Below.setCell ?_ ?_ _; rotate_left; focus (first | omega | (simp <;> omega)))) | fail)))).mono ?_; rintro e w1 ⟨rfl, hb1⟩; have HB1 : Below w.heap.size w w1 := bl_call (by (repeat (first | with_reducible exact Below.refl _ _ | with_reducible assumption | with_reducible refine Below.drew ?_ | with_reducible refine bl_alloc ?_ _ | with_reducible refine bl_call ?_ (by assumption) | (focus (with_reducible refine Below.setCell ?_ ?_ _; rotate_left; focus (first | omega | (simp <;> omega)))) | fail))) hb1
         have kb := Blk.below (g := w.heap.size) (t := 31) (cs := #[.slice A N c, .slice A' M c', .int .i64 d.left]) (Blk.new rfl) hb1 (by simp)
         have k0 := kb.cell 0
         simp at k0
         have y0 := kb.lt
         clear hb1 kb)
      | fail)
    all_goals go_ret
    all_goals refine ⟨ret_b rfl ?_, HB1⟩
    all_goals (unfold hasB; (try rw [Bool.true_and]); rw [Bool.eq_iff_iff]; simp only [decide_eq_true_eq]; simp; omega)

theorem less_pos {l : Int} (h : 0 < l) : less l = l - 1 := by unfold less; rw [if_neg (by omega)]
theorem less_neg {l : Int} (h : leftB l = true) (h0 : l ≠ 0) (hn : ¬ 0 < l) : less l = l := by
  simp only [leftB, decide_eq_true_eq] at h
  unfold less; rw [if_pos (by omega)]; omega

set_option maxHeartbeats 1000000 in
theorem refdeed_dead (va vb : Value) (w : World) :
    Calls Tryd.prog 57 #[.agg #[va, vb, .int .i64 0]] w fun e w' => e = .returned (.tuple #[.agg #[.slice none 0 0, .slice none 0 0, .int .i64 0], .int .i64 11]) ∧ Below w.heap.size w w' := by
  go_enter Tryd.func57, Tryd.ntmps57
  go_wp2_with fail
  refine ret_disk2 rfl (w.heap.size + 1) #[.slice none 0 0, .slice none 0 0, .int .i64 0] rfl (.int .i64 11) rfl rfl (Blk.new (by simp)) rfl ⟨rfl, ?_⟩
  (repeat (first | with_reducible exact Below.refl _ _ | with_reducible assumption | with_reducible refine Below.drew ?_ | with_reducible refine bl_alloc ?_ _ | with_reducible refine bl_call ?_ (by assumption) | (focus (with_reducible refine Below.setCell ?_ ?_ _; rotate_left; focus (first | omega | (simp <;> omega)))) | fail))

set_option maxHeartbeats 2000000 in
theorem refdeed_goes (lo : Nat) (v : Value) (d : Dk) (w : World) (h : Dsk lo w.heap.size w v d) (hle : leftB d.left = true) (h0 : d.left ≠ 0) (hL : d.dry.length ≤ 1000000) (hW : d.wet.length ≤ 1000) (hP : ∀ (j : Nat) (q : Pg), d.wet[j]? = some q → q.b.length ≤ 1000000) :
    Calls Tryd.prog 57 #[v] w fun e w' => ∃ Ax cx Ay cy, e = .returned (.tuple #[.agg #[.slice Ax d.dry.length cx, .slice Ay d.wet.length cy, .int .i64 (less d.left)], .int .i64 0]) ∧ CopyOut (w.heap.size + 2) w' (.agg #[.slice Ax d.dry.length cx, .slice Ay d.wet.length cy, .int .i64 (less d.left)]) ⟨d.dry, d.wet, less d.left⟩ ∧ Below w.heap.size w w' := by
  have hcp : ∀ W, Below w.heap.size w W → Calls Tryd.prog 10 #[v] W fun e w' => ∃ v', e = .returned v' ∧ CopyOut W.heap.size w' v' d ∧ Below W.heap.size W w' :=
    fun W hB => refcopy_any lo v d W ((h.below hB (Nat.le_refl _)).mono (Nat.le_refl _) hB.size) hL hW hP
  obtain ⟨A, c, A', c', rfl⟩ := h.form
  clear h hP
  have hl2 : d.left ≤ 1073741824 := by simp only [leftB, decide_eq_true_eq] at hle; omega
  have i1 : 0 < d.left → IntKind.i64.wrap (d.left - 1) = d.left - 1 := fun h => IntWalk.i64_in _ (by omega)
  obtain ⟨X, hX⟩ : ∃ X, X = less d.left := ⟨_, rfl⟩
  rw [← hX]
  replace hcp := hide hcp; replace hL := hide hL; replace hW := hide hW; replace hle := hide hle; replace i1 := hide i1; replace hX := hide hX
  go_enter Tryd.func57, Tryd.ntmps57
  go_upto_region 4 with (first
    | (go_at_call 10; refine (unhide hcp _ (by (repeat (first | with_reducible exact Below.refl _ _ | with_reducible assumption | with_reducible refine Below.drew ?_ | with_reducible refine bl_alloc ?_ _ | with_reducible refine bl_call ?_ (by assumption) | (focus (with_reducible refine Below.setCell ?_ ?_ _; rotate_left; focus (first | omega | (simp <;> omega)))) | fail)))).mono ?_; rintro e w2 ⟨v', rfl, hco, hb2⟩
       obtain ⟨A3, c3, Aw, cw, rfl⟩ := hco.form
       have kb := Blk.below (g := w.heap.size) (t := 31) (cs := #[.slice A d.dry.length c, .slice A' d.wet.length c', .int .i64 d.left]) (by (repeat (first | with_reducible assumption | (focus (with_reducible refine Blk.new ?_; focus (simp <;> fail))) | with_reducible refine Blk.set3 (a := .slice none 0 0) (b := .slice none 0 0) (c := .int .i64 0) ?_ | with_reducible refine Blk.alloc ?_ _ | with_reducible refine Blk.drew ?_ | (focus (with_reducible refine Blk.far ?_ ?_ _; rotate_left; focus (first | omega | (simp <;> omega)))) | (focus (with_reducible refine Blk.below ?_ hb1 ?_; rotate_left; focus (first | omega | (simp <;> omega)))) | fail))) hb2 (by simp <;> omega)
       have kr := Blk.below (g := w.heap.size + 1) (t := 31) (cs := #[.slice none 0 0, .slice none 0 0, .int .i64 0]) (by (repeat (first | with_reducible assumption | (focus (with_reducible refine Blk.new ?_; focus (simp <;> fail))) | with_reducible refine Blk.set3 (a := .slice none 0 0) (b := .slice none 0 0) (c := .int .i64 0) ?_ | with_reducible refine Blk.alloc ?_ _ | with_reducible refine Blk.drew ?_ | (focus (with_reducible refine Blk.far ?_ ?_ _; rotate_left; focus (first | omega | (simp <;> omega)))) | (focus (with_reducible refine Blk.below ?_ hb1 ?_; rotate_left; focus (first | omega | (simp <;> omega)))) | fail))) hb2 (by simp <;> omega)
       have HB2 : Below w.heap.size w w2 := bl_call (by (repeat (first | with_reducible exact Below.refl _ _ | with_reducible assumption | with_reducible refine Below.drew ?_ | with_reducible refine bl_alloc ?_ _ | with_reducible refine bl_call ?_ (by assumption) | (focus (with_reducible refine Below.setCell ?_ ?_ _; rotate_left; focus (first | omega | (simp <;> omega)))) | fail))) hb2
       have f0 := kb.frozen 0; have f1 := kb.frozen 1; have f2 := kb.frozen 2
       have k0 := kb.cell 0; have k1 := kb.cell 1; have k2 := kb.cell 2
       simp at k0 k1 k2
       have z0 := kb.lt; have z1 := kr.lt
       replace hco := hide hco; replace HB2 := hide HB2; replace kb := hide kb; replace kr := hide kr; clear hb2)
    | fail)
  have Kb : Blk (((w2.setCell ⟨w.heap.size, 0, none⟩ (.slice A3 d.dry.length c3)).setCell ⟨w.heap.size, 1, none⟩ (.slice Aw d.wet.length cw)).setCell ⟨w.heap.size, 2, none⟩ (.int .i64 d.left)) w.heap.size 31 #[.slice A3 d.dry.length c3, .slice Aw d.wet.length cw, .int .i64 d.left] := (unhide kb).set3
  have Kr : Blk (((w2.setCell ⟨w.heap.size, 0, none⟩ (.slice A3 d.dry.length c3)).setCell ⟨w.heap.size, 1, none⟩ (.slice Aw d.wet.length cw)).setCell ⟨w.heap.size, 2, none⟩ (.int .i64 d.left)) (w.heap.size + 1) 31 #[.slice none 0 0, .slice none 0 0, .int .i64 0] := (((unhide kr).far (by simp) _).far (by simp) _).far (by simp) _
  have Co := (((unhide hco).mono (base' := w.heap.size + 2) (by simp))).set3 (x := .slice A3 d.dry.length c3) (y := .slice Aw d.wet.length cw) (z := .int .i64 d.left) (unhide kb) (by omega)
  have ba := (((unhide HB2).setCell (p := ⟨w.heap.size, 0, none⟩) (Nat.le_refl _) (.slice A3 d.dry.length c3)).setCell (p := ⟨w.heap.size, 1, none⟩) (Nat.le_refl _) (.slice Aw d.wet.length cw)).setCell (p := ⟨w.heap.size, 2, none⟩) (Nat.le_refl _) (.int .i64 d.left)
  clear f0 f1 f2 k0 k1 k2 z0 z1 hco HB2 kb kr
  generalize ((w2.setCell ⟨w.heap.size, 0, none⟩ (.slice A3 d.dry.length c3)).setCell ⟨w.heap.size, 1, none⟩ (.slice Aw d.wet.length cw)).setCell ⟨w.heap.size, 2, none⟩ (.int .i64 d.left) = wa at *
  have f0 := Kb.frozen 0; have f1 := Kb.frozen 1; have f2 := Kb.frozen 2
  have k0 := Kb.cell 0; have k1 := Kb.cell 1; have k2 := Kb.cell 2
  have e0 := Kr.frozen 0; have e1 := Kr.frozen 1; have e2 := Kr.frozen 2
  have r0 := Kr.cell 0; have r1 := Kr.cell 1; have r2 := Kr.cell 2
  simp at k0 k1 k2 r0 r1 r2
  have z0 := Kb.lt; have z1 := Kr.lt
  by_cases hp : 0 < d.left
  · have i2 := unhide i1 hp
    have hX' : X = d.left - 1 := (unhide hX).trans (less_pos hp)
    replace hX' := hide hX'; clear hX
    replace Kb := hide Kb; replace Kr := hide Kr; replace Co := hide Co; replace ba := hide ba
    go_wp2_with fail
    have Kr2 := (unhide Kr).far (p := ⟨w.heap.size, 2, none⟩) (by simp) (.int .i64 (d.left - 1))
    refine ret_disk2 rfl (w.heap.size + 1) #[.slice A3 d.dry.length c3, .slice Aw d.wet.length cw, .int .i64 (d.left - 1)] rfl (.int .i64 0) rfl rfl Kr2.set3 rfl ⟨_, _, _, _, by rw [unhide hX'], ?_, ?_⟩
    · rw [unhide hX']
      exact (((unhide Co).set1 (unhide Kb) (by omega) 2 _).set3 Kr2 (by omega)).toLeft _
    · exact ((((unhide ba).setCell (Nat.le_refl _) _).setCell (by simp) _).setCell (by simp) _).setCell (by simp) _
  · have hX' : X = d.left := (unhide hX).trans (less_neg (unhide hle) h0 hp)
    replace hX' := hide hX'; clear hX
    replace Kb := hide Kb; replace Kr := hide Kr; replace Co := hide Co; replace ba := hide ba
    go_wp2_with fail
    refine ret_disk2 rfl (w.heap.size + 1) #[.slice A3 d.dry.length c3, .slice Aw d.wet.length cw, .int .i64 d.left] rfl (.int .i64 0) rfl rfl (unhide Kr).set3 rfl ⟨_, _, _, _, by rw [unhide hX'], ?_, ?_⟩
    · rw [unhide hX']
      exact (unhide Co).set3 (unhide Kr) (by omega)
    · exact (((unhide ba).setCell (by simp) _).setCell (by simp) _).setCell (by simp) _
end Go.Proofs.YtommlgdolahfbaaDoor
