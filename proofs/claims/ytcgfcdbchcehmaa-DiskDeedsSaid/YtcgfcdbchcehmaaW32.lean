import Derived.Test.YtcgfcdbchcehmaaW23
namespace Go.Proofs.Ytcgfcdbchcehmaa
open Go.RowKit

/-- What Limit answers. -/
def limD (d : Dk) (n : Int) : Dk × Int := if okD d && leftB n then (⟨d.dry, d.wet, n⟩, 0) else (noDk, 1)

set_option maxHeartbeats 2000000 in
theorem limit_bad (lo : Nat) (v : Value) (d : Dk) (m : Int) (w : World) (h : Dsk lo w.heap.size w v d) (hq : (okD d && leftB m) = false) :
    Calls Try.prog 20 #[v, .int .i64 m] w fun e w' => e = .returned (.tuple #[.agg #[.slice none 0 0, .slice none 0 0, .int .i64 0], .int .i64 1]) ∧ Below w.heap.size w w' := by
  obtain ⟨va, vb, rfl, ha, hb⟩ := h
  have hck : ∀ W, Below w.heap.size w W → Calls Try.prog 24 #[.agg #[va, vb, .int .i64 d.left]] W fun e w' => e = .returned (.int .i64 (badE (okD d))) ∧ Below W.heap.size W w' :=
    fun W hB => check_any lo _ d W ⟨_, _, rfl, ((ha.below hB (Nat.le_refl _)).mono (Nat.le_refl _) hB.size), ((hb.below hB (Nat.le_refl _)).mono (Nat.le_refl _) hB.size)⟩
  obtain ⟨A1, c1, rfl, hl1, hl2, hl3⟩ := ha
  have hlf := left_any m
  have hq' : okD d = false ∨ (okD d = true ∧ leftB m = false) := by
    cases h1 : okD d <;> cases h2 : leftB m <;> simp_all
  replace hck := hide hck; replace hlf := hide hlf; replace hq := hide hq
  clear hb hl1 hl2 hl3
  generalize hok : okD d = ok at *
  generalize hhb : leftB m = hs at *
  replace hok := hide hok; replace hhb := hide hhb
  have b1 : (badE false != 0) = true := rfl
  have b2 : (badE true != 0) = false := rfl
  rcases hq' with rfl | ⟨rfl, rfl⟩
  all_goals
    go_enter Try.func20, Try.ntmps20
    go_wp2_with (first
      | (go_at_call 24; refine (unhide hck _ (by (repeat (first | with_reducible exact Below.refl _ _ | with_reducible assumption | with_reducible refine Below.drew ?_ | with_reducible refine bl_alloc ?_ _ | with_reducible refine bl_call ?_ (by assumption) | (focus (with_reducible refine Below.setCell ?_ ?_ _; rotate_left; focus (first | omega | (simp <;> omega)))) | fail)))).mono ?_; rintro e w1 ⟨rfl, hb1⟩; (obtain ⟨hc1, hf1⟩ := bcell hb1; have hz1 := hb1.size; (try have y0 : w.heap.size < w1.heap.size := (by (simp at hz1; omega))); (try have y1 : w.heap.size + 1 < w1.heap.size := (by (simp at hz1; omega))); (try have y2 : w.heap.size + 2 < w1.heap.size := (by (simp at hz1; omega))); (try have y3 : w.heap.size + 3 < w1.heap.size := (by (simp at hz1; omega))); clear hz1); have HB1 : Below w.heap.size w w1 := bl_call (by (repeat (first | with_reducible exact Below.refl _ _ | with_reducible assumption | with_reducible refine Below.drew ?_ | with_reducible refine bl_alloc ?_ _ | with_reducible refine bl_call ?_ (by assumption) | (focus (with_reducible refine Below.setCell ?_ ?_ _; rotate_left; focus (first | omega | (simp <;> omega)))) | fail))) hb1; have hk := hide (Blk.below (g := w.heap.size + 1) (t := 25) (cs := #[.slice none 0 0, .slice none 0 0, .int .i64 0]) (Blk.new (by simp)) hb1 (by simp)))
      | (go_at_call 41; refine (unhide hlf _).mono ?_; rintro e w2 ⟨rfl, rfl⟩)
      | fail)
    refine ret_disk2 rfl (w.heap.size + 1) #[.slice none 0 0, .slice none 0 0, .int .i64 0] rfl (.int .i64 1) rfl rfl (unhide hk).set3 rfl ⟨rfl, ?_⟩
    (repeat (first | with_reducible exact Below.refl _ _ | with_reducible assumption | with_reducible refine Below.drew ?_ | with_reducible refine bl_alloc ?_ _ | with_reducible refine bl_call ?_ (by assumption) | (focus (with_reducible refine Below.setCell ?_ ?_ _; rotate_left; focus (first | omega | (simp <;> omega)))) | fail))

theorem Dsk.setLeft {lo hi : Nat} {w : World} {va vb : Value} {d : Dk} (h : Dsk lo hi w (.agg #[va, vb, .int .i64 d.left]) d) (m : Int) : Dsk lo hi w (.agg #[va, vb, .int .i64 m]) ⟨d.dry, d.wet, m⟩ := by
  obtain ⟨va', vb', e, ha, hb⟩ := h
  simp only [Value.agg.injEq, Array.mk.injEq, List.cons.injEq, and_true] at e
  obtain ⟨rfl, rfl⟩ := e
  exact ⟨_, _, rfl, ha, hb⟩

set_option maxHeartbeats 2000000 in
theorem limit_good (lo : Nat) (v : Value) (d : Dk) (m : Int) (w : World) (h : Dsk lo w.heap.size w v d) (hq : okD d = true) (hm : leftB m = true) (hL : d.dry.length ≤ 1000000) (hW : d.wet.length ≤ 1000) :
    Calls Try.prog 20 #[v, .int .i64 m] w fun e w' => ∃ Ax cx Ay cy, e = .returned (.tuple #[.agg #[.slice Ax d.dry.length cx, .slice Ay d.wet.length cy, .int .i64 m], .int .i64 0]) ∧ Dsk w.heap.size w'.heap.size w' (.agg #[.slice Ax d.dry.length cx, .slice Ay d.wet.length cy, .int .i64 m]) ⟨d.dry, d.wet, m⟩ ∧ Below w.heap.size w w' := by
  have h32 : ∀ (j : Nat) (q : Pg), d.wet[j]? = some q → q.b.length = 32 := fun j q hj => ((okD_parts hq).2.2.2.2.2 j q hj).2.2
  have h0 := h
  obtain ⟨va, vb, rfl, ha, hb⟩ := h
  have hck : ∀ W, Below w.heap.size w W → Calls Try.prog 24 #[.agg #[va, vb, .int .i64 d.left]] W fun e w' => e = .returned (.int .i64 (badE (okD d))) ∧ Below W.heap.size W w' :=
    fun W hB => check_any lo _ d W ((h0.below hB (Nat.le_refl _)).mono (Nat.le_refl _) hB.size)
  rw [hq] at hck
  have hlf := left_any m
  rw [hm] at hlf
  have hcl : ∀ W, Below w.heap.size w W → Calls Try.prog 32 #[.agg #[va, vb, .int .i64 d.left]] W fun e w' => ∃ Ax cx Ay cy, e = .returned (.agg #[.slice Ax d.dry.length cx, .slice Ay d.wet.length cy, .int .i64 d.left]) ∧ Dsk W.heap.size w'.heap.size w' (.agg #[.slice Ax d.dry.length cx, .slice Ay d.wet.length cy, .int .i64 d.left]) d ∧ Below W.heap.size W w' :=
    fun W hB => (clone_any lo _ d W ((h0.below hB (Nat.le_refl _)).mono (Nat.le_refl _) hB.size) hL hW h32).mono fun e w' ⟨v', h1, h2, h3⟩ => by
      have h4 := h2.dsk h32 (by omega)
      obtain ⟨A, c, A', c', rfl⟩ := h4.form
      exact ⟨_, _, _, _, h1, h4, h3⟩
  obtain ⟨A1, c1, rfl, hx1⟩ := ha
  obtain ⟨A2, c2, rfl, hx2⟩ := hb
  clear hx1 hx2 hq hm hL hW
  replace hck := hide hck; replace hcl := hide hcl; replace hlf := hide hlf; replace h0 := hide h0; replace h32 := hide h32
  have b2 : (badE true != 0) = false := rfl
  go_enter Try.func20, Try.ntmps20
  go_wp2_with (first
    | (go_at_call 24; refine (unhide hck _ (by (repeat (first | with_reducible exact Below.refl _ _ | with_reducible assumption | with_reducible refine Below.drew ?_ | with_reducible refine bl_alloc ?_ _ | with_reducible refine bl_call ?_ (by assumption) | (focus (with_reducible refine Below.setCell ?_ ?_ _; rotate_left; focus (first | omega | (simp <;> omega)))) | fail)))).mono ?_; rintro e w1 ⟨rfl, hb1⟩; have HB1 : Below w.heap.size w w1 := bl_call (by (repeat (first | with_reducible exact Below.refl _ _ | with_reducible assumption | with_reducible refine Below.drew ?_ | with_reducible refine bl_alloc ?_ _ | with_reducible refine bl_call ?_ (by assumption) | (focus (with_reducible refine Below.setCell ?_ ?_ _; rotate_left; focus (first | omega | (simp <;> omega)))) | fail))) hb1
       have k0 := hide (Blk.below (g := w.heap.size) (t := 25) (cs := #[.slice A1 d.dry.length c1, .slice A2 d.wet.length c2, .int .i64 d.left]) (by (repeat (first | with_reducible assumption | (focus (with_reducible refine Blk.new ?_; focus (simp <;> fail))) | with_reducible refine Blk.set3 (a := .slice none 0 0) (b := .slice none 0 0) (c := .int .i64 0) ?_ | with_reducible refine Blk.alloc ?_ _ | with_reducible refine Blk.drew ?_ | (focus (with_reducible refine Blk.far ?_ ?_ _; rotate_left; focus (first | omega | (simp <;> omega)))) | (focus (with_reducible refine Blk.below ?_ hb1 ?_; rotate_left; focus (first | omega | (simp <;> omega)))) | fail))) hb1 (by simp <;> omega))
       have k3 := hide (Blk.below (g := w.heap.size + 1) (t := 25) (cs := #[.slice none 0 0, .slice none 0 0, .int .i64 0]) (by (repeat (first | with_reducible assumption | (focus (with_reducible refine Blk.new ?_; focus (simp <;> fail))) | with_reducible refine Blk.set3 (a := .slice none 0 0) (b := .slice none 0 0) (c := .int .i64 0) ?_ | with_reducible refine Blk.alloc ?_ _ | with_reducible refine Blk.drew ?_ | (focus (with_reducible refine Blk.far ?_ ?_ _; rotate_left; focus (first | omega | (simp <;> omega)))) | (focus (with_reducible refine Blk.below ?_ hb1 ?_; rotate_left; focus (first | omega | (simp <;> omega)))) | fail))) hb1 (by simp <;> omega))
       (obtain ⟨hc1, hf1⟩ := bcell hb1; have hz1 := hb1.size; (try have y0 : w.heap.size < w1.heap.size := (by (simp at hz1; omega))); (try have y1 : w.heap.size + 1 < w1.heap.size := (by (simp at hz1; omega))); (try have y2 : w.heap.size + 2 < w1.heap.size := (by (simp at hz1; omega))); (try have y3 : w.heap.size + 3 < w1.heap.size := (by (simp at hz1; omega))); clear hz1))
    | (go_at_call 41; refine (unhide hlf _).mono ?_; rintro e w2 ⟨rfl, rfl⟩)
    | (go_at_call 32; refine (unhide hcl _ (by (repeat (first | with_reducible exact Below.refl _ _ | with_reducible assumption | with_reducible refine Below.drew ?_ | with_reducible refine bl_alloc ?_ _ | with_reducible refine bl_call ?_ (by assumption) | (focus (with_reducible refine Below.setCell ?_ ?_ _; rotate_left; focus (first | omega | (simp <;> omega)))) | fail)))).mono ?_; rintro e w3 ⟨Ax, cx, Ay, cy, rfl, hdo, hb3⟩; have HB3 : Below w.heap.size w w3 := bl_call (by (repeat (first | with_reducible exact Below.refl _ _ | with_reducible assumption | with_reducible refine Below.drew ?_ | with_reducible refine bl_alloc ?_ _ | with_reducible refine bl_call ?_ (by assumption) | (focus (with_reducible refine Below.setCell ?_ ?_ _; rotate_left; focus (first | omega | (simp <;> omega)))) | fail))) hb3
       replace k3 := hide ((unhide k3).below hb3 y1); have y9 : w.heap.size + 1 < w3.heap.size := (unhide k3).lt; replace hdo := hide hdo
       have r0 : w3.cell? ⟨w.heap.size + 1, 0, none⟩ = some (.slice none 0 0) := ((unhide k3).cell 0).trans rfl
       have f0 := (unhide k3).frozen 0
       have r1 : w3.cell? ⟨w.heap.size + 1, 1, none⟩ = some (.slice none 0 0) := ((unhide k3).cell 1).trans rfl
       have f1 := (unhide k3).frozen 1
       have r2 : w3.cell? ⟨w.heap.size + 1, 2, none⟩ = some (.int .i64 0) := ((unhide k3).cell 2).trans rfl
       have f2 := (unhide k3).frozen 2)
    | fail)
  refine ret_disk2 rfl (w.heap.size + 1) #[.slice Ax d.dry.length cx, .slice Ay d.wet.length cy, .int .i64 m] rfl (.int .i64 0) rfl rfl ((unhide k3).set3.alloc _) rfl ⟨_, _, _, _, rfl, ?_, by (repeat (first | with_reducible exact Below.refl _ _ | with_reducible assumption | with_reducible refine Below.drew ?_ | with_reducible refine bl_alloc ?_ _ | with_reducible refine bl_call ?_ (by assumption) | (focus (with_reducible refine Below.setCell ?_ ?_ _; rotate_left; focus (first | omega | (simp <;> omega)))) | fail))⟩
  have hd := ((unhide hdo).setLeft m).keep ((((((Agree.refl _ _ _).setCell (p := ⟨w.heap.size + 1, 0, none⟩) (by simp; omega) (.slice Ax d.dry.length cx)).setCell (p := ⟨w.heap.size + 1, 1, none⟩) (by simp; omega) (.slice Ay d.wet.length cy)).setCell (p := ⟨w.heap.size + 1, 2, none⟩) (by simp; omega) (.int .i64 m)).alloc (by simp) (.cells #[.slice Ax d.dry.length cx, .slice Ay d.wet.length cy, .int .i64 m] 25)))
  exact hd.mono (Nat.le_of_lt (by omega)) (by simp)

end Go.Proofs.Ytcgfcdbchcehmaa
