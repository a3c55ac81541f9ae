import Derived.Test.YtcgfcdbchcehmaaS52
import Derived.Test.YtcgfcdbchcehmaaW12
namespace Go.Proofs.Ytcgfcdbchcehmaa
open Go.RowKit

set_option maxHeartbeats 1000000 in
theorem refnew_bad (n : Int) (w : World) (h : ¬ (1 ≤ n ∧ n ≤ 8192)) : Calls Try.prog 19 #[.int .i64 n] w fun e w' => e = .returned (.tuple #[.agg #[.slice none 0 0, .slice none 0 0, .int .i64 0], .int .i64 1]) ∧ Below w.heap.size w w' := by
  rcases (show n < 1 ∨ 1 ≤ n by omega) with h1 | h1
  · clear h
    go_enter Try.func19, Try.ntmps19
    go_wp2
    refine ret_disk2 rfl w.heap.size #[.slice none 0 0, .slice none 0 0, .int .i64 0] rfl (.int .i64 1) rfl rfl (Blk.new rfl) rfl ⟨rfl, ?_⟩
    (repeat (first | with_reducible exact Below.refl _ _ | with_reducible assumption | with_reducible refine Below.drew ?_ | with_reducible refine bl_alloc ?_ _ | with_reducible refine bl_call ?_ (by assumption) | (focus (with_reducible refine Below.setCell ?_ ?_ _; rotate_left; focus (first | omega | (simp <;> omega)))) | fail))
  · have h2 : 8192 < n := by omega
    clear h
    go_enter Try.func19, Try.ntmps19
    go_wp2
    refine ret_disk2 rfl w.heap.size #[.slice none 0 0, .slice none 0 0, .int .i64 0] rfl (.int .i64 1) rfl rfl (Blk.new rfl) rfl ⟨rfl, ?_⟩
    (repeat (first | with_reducible exact Below.refl _ _ | with_reducible assumption | with_reducible refine Below.drew ?_ | with_reducible refine bl_alloc ?_ _ | with_reducible refine bl_call ?_ (by assumption) | (focus (with_reducible refine Below.setCell ?_ ?_ _; rotate_left; focus (first | omega | (simp <;> omega)))) | fail))

set_option maxHeartbeats 1000000 in
theorem refnew_good (n : Nat) (w : World) (h1 : 1 ≤ n) (h2 : n ≤ 8192) : Calls Try.prog 19 #[.int .i64 n] w fun e w' => ∃ v', e = .returned (.tuple #[v', .int .i64 0]) ∧ Dsk w.heap.size w'.heap.size w' v' ⟨List.replicate (32 * n) 0, [], -1⟩ ∧ Below w.heap.size w w' := by
  obtain ⟨i1, hi1, hy0, hy1, hy2⟩ := info_parts info5b
  obtain ⟨Z, hZ⟩ : ∃ Z, Z = madeCells (Value.int .u8 0).cells (32 * n * 1) := ⟨_, rfl⟩
  have hmk := run_mk (P := Try.prog) 22 5 i1 _ 1 Try.underlying22 hi1 hy0 hy1 (32 * n) (by rw [hy2]; omega) (by omega)
  rw [← hZ] at hmk
  simp only [Int.natCast_mul, Int.cast_ofNat_Int] at hmk
  replace hZ := hide hZ
  have i1 : (1 : Int) ≤ (n : Int) := by omega
  have i2 : (n : Int) ≤ 8192 := by omega
  go_enter Try.func19, Try.ntmps19
  go_wp2_with fail
  have G : Blk _ (w.heap.size + 1) 5 Z := Blk.new (w := w.alloc (.cells #[.slice (some ⟨w.heap.size + 1, 0, none⟩) (32 * n) (32 * n), .slice none 0 0, .int .i64 (-1)] 25)) (by simp)
  refine ret_disk2 rfl w.heap.size #[.slice (some ⟨w.heap.size + 1, 0, none⟩) (32 * n) (32 * n), .slice none 0 0, .int .i64 (-1)] rfl (.int .i64 0) rfl rfl ((Blk.new rfl).alloc _) rfl ⟨_, rfl, ?_, by (repeat (first | with_reducible exact Below.refl _ _ | with_reducible assumption | with_reducible refine Below.drew ?_ | with_reducible refine bl_alloc ?_ _ | with_reducible refine bl_call ?_ (by assumption) | (focus (with_reducible refine Below.setCell ?_ ?_ _; rotate_left; focus (first | omega | (simp <;> omega)))) | fail))⟩
  refine ⟨_, _, rfl, ⟨_, 32 * n, by simp, by simp, by omega, fun _ => ⟨w.heap.size + 1, 0, rfl, by omega, G.lt, fun i hi => ?_⟩⟩, ⟨none, 0, rfl, by simp, by omega, fun h0 => by simp at h0, fun b off e => by cases e⟩⟩
  rw [Nat.zero_add, G.cell, unhide hZ]
  have hi' : i < 32 * n := by simpa using hi
  have hz : (madeCells (Value.int .u8 0).cells (32 * n * 1)).toList = List.replicate (32 * n * 1) (.int .u8 0) := toList_madeCells_one _ _
  rw [← Array.getElem?_toList, hz, List.getElem?_replicate, if_pos (by omega)]
  simp [u8v]

theorem refnew_any (n : Int) (w : World) : Calls Try.prog 19 #[.int .i64 n] w fun e w' => ∃ v' E, e = .returned (.tuple #[v', .int .i64 E]) ∧ Dsk w.heap.size w'.heap.size w' v' (newD n).1 ∧ E = (newD n).2 ∧ Below w.heap.size w w' := by
  by_cases h : 1 ≤ n ∧ n ≤ 8192
  · obtain ⟨m, rfl⟩ := Int.eq_ofNat_of_zero_le (show 0 ≤ n by omega)
    refine (refnew_good m w (by omega) (by omega)).mono ?_
    rintro e w' ⟨v', rfl, hd, hb⟩
    have : newD (m : Int) = (⟨List.replicate (32 * m) 0, [], -1⟩, 0) := by rw [Nat.mul_comm 32 m]; simp [newD]; omega
    exact ⟨v', 0, rfl, by rw [this]; exact hd, by rw [this], hb⟩
  · refine (refnew_bad n w h).mono ?_
    rintro e w' ⟨rfl, hb⟩
    have : newD n = (noDk, 1) := by simp [newD, h, noDk]
    exact ⟨_, 1, rfl, by rw [this]; exact noDk_dsk _ _ _, by rw [this], hb⟩

/-- What Limit answers. -/
def limE (d : Dk) (n : Int) : Dk × Int := if okD d && leftB n then (⟨d.dry, d.wet, n⟩, 0) else (noDk, 1)

set_option maxHeartbeats 2000000 in
theorem reflimit_bad (lo : Nat) (v : Value) (d : Dk) (m : Int) (w : World) (h : Dsk lo w.heap.size w v d) (hq : (okD d && leftB m) = false) :
    Calls Try.prog 21 #[v, .int .i64 m] w fun e w' => e = .returned (.tuple #[.agg #[.slice none 0 0, .slice none 0 0, .int .i64 0], .int .i64 1]) ∧ Below w.heap.size w w' := by
  have hck : ∀ W, Below w.heap.size w W → Calls Try.prog 25 #[v] W fun e w' => e = .returned (.int .i64 (badE (okD d))) ∧ Below W.heap.size W w' :=
    fun W hB => refcheck_any lo v d W ((h.below hB (Nat.le_refl _)).mono (Nat.le_refl _) hB.size)
  obtain ⟨A, c, A', c', rfl⟩ := h.form
  have hq' : okD d = false ∨ (okD d = true ∧ (m < -1 ∨ (¬ m < -1 ∧ 1073741824 < m))) := by
    cases h1 : okD d with
    | false => exact .inl rfl
    | true => rw [h1, Bool.true_and] at hq; simp [leftB] at hq; exact .inr ⟨rfl, by omega⟩
  generalize okD d = ok at *
  replace hck := hide hck
  clear h hq
  have b1 : (badE false != 0) = true := rfl
  have b2 : (badE true != 0) = false := rfl
  rcases hq' with rfl | ⟨rfl, h1 | ⟨h1, h2⟩⟩
  all_goals
    go_enter Try.func21, Try.ntmps21
    go_wp2_with (first
      | (go_at_call 25; refine (unhide hck _ (by (repeat (first | with_reducible exact Below.refl _ _ | with_reducible assumption | with_reducible refine Below.drew ?_ | with_reducible refine bl_alloc ?_ _ | with_reducible refine bl_call ?_ (by assumption) | (focus (with_reducible refine Below.setCell ?_ ?_ _; rotate_left; focus (first | omega | (simp <;> omega)))) | fail)))).mono ?_; rintro e w1 ⟨rfl, hb1⟩; have HB1 : Below w.heap.size w w1 := bl_call (by (repeat (first | with_reducible exact Below.refl _ _ | with_reducible assumption | with_reducible refine Below.drew ?_ | with_reducible refine bl_alloc ?_ _ | with_reducible refine bl_call ?_ (by assumption) | (focus (with_reducible refine Below.setCell ?_ ?_ _; rotate_left; focus (first | omega | (simp <;> omega)))) | fail))) hb1; have hk := hide (Blk.below (g := w.heap.size + 1) (t := 25) (cs := #[.slice none 0 0, .slice none 0 0, .int .i64 0]) (Blk.new (by simp)) hb1 (by simp)); have f0 := (unhide hk).frozen 0; have f1 := (unhide hk).frozen 1; have f2 := (unhide hk).frozen 2; have r0 := (unhide hk).cell 0; have r1 := (unhide hk).cell 1; have r2 := (unhide hk).cell 2; simp at r0 r1 r2; (obtain ⟨hc1, hf1⟩ := bcell hb1; have hz1 := hb1.size; (try have y0 : w.heap.size < w1.heap.size := (by (simp at hz1; omega))); (try have y1 : w.heap.size + 1 < w1.heap.size := (by (simp at hz1; omega))); (try have y2 : w.heap.size + 2 < w1.heap.size := (by (simp at hz1; omega))); (try have y3 : w.heap.size + 3 < w1.heap.size := (by (simp at hz1; omega))); clear hz1))
      | fail)
    refine ret_disk2 rfl (w.heap.size + 1) #[.slice none 0 0, .slice none 0 0, .int .i64 0] rfl (.int .i64 1) rfl rfl (unhide hk).set3 rfl ⟨rfl, ?_⟩
    (repeat (first | with_reducible exact Below.refl _ _ | with_reducible assumption | with_reducible refine Below.drew ?_ | with_reducible refine bl_alloc ?_ _ | with_reducible refine bl_call ?_ (by assumption) | (focus (with_reducible refine Below.setCell ?_ ?_ _; rotate_left; focus (first | omega | (simp <;> omega)))) | fail))

set_option maxHeartbeats 2000000 in
theorem reflimit_good (lo : Nat) (v : Value) (d : Dk) (m : Int) (w : World) (h : Dsk lo w.heap.size w v d) (hq : okD d = true) (hm : leftB m = true) (hL : d.dry.length ≤ 1000000) (hW : d.wet.length ≤ 1000) :
    Calls Try.prog 21 #[v, .int .i64 m] w fun e w' => ∃ v', e = .returned (.tuple #[v', .int .i64 0]) ∧ Dsk w.heap.size w'.heap.size w' v' ⟨d.dry, d.wet, m⟩ ∧ Below w.heap.size w w' := by
  have hck : ∀ W, Below w.heap.size w W → Calls Try.prog 25 #[v] W fun e w' => e = .returned (.int .i64 (badE true)) ∧ Below W.heap.size W w' :=
    fun W hB => by have := refcheck_any lo v d W ((h.below hB (Nat.le_refl _)).mono (Nat.le_refl _) hB.size); rwa [hq] at this
  obtain ⟨_, hge, _, _, hr, hp⟩ := okD_parts hq
  have hcp : ∀ W, Below w.heap.size w W → Calls Try.prog 11 #[v] W fun e w' => ∃ v', e = .returned v' ∧ CopyOut W.heap.size w' v' d ∧ Below W.heap.size W w' :=
    fun W hB => refcopy_any lo v d W ((h.below hB (Nat.le_refl _)).mono (Nat.le_refl _) hB.size) hL hW (fun j q hj => by have := (hp j q hj).2.2; omega)
  obtain ⟨A, c, A', c', rfl⟩ := h.form
  obtain ⟨h1, h2⟩ : ¬ m < -1 ∧ ¬ 1073741824 < m := by simp only [leftB, decide_eq_true_eq] at hm; omega
  clear h hp hr hge hm
  have b2 : (badE true != 0) = false := rfl
  replace hck := hide hck; replace hcp := hide hcp; replace hL := hide hL; replace hW := hide hW; replace hq := hide hq
  go_enter Try.func21, Try.ntmps21
  go_upto_region 4 with (first
    | (go_at_call 25; refine (unhide hck _ (by (repeat (first | with_reducible exact Below.refl _ _ | with_reducible assumption | with_reducible refine Below.drew ?_ | with_reducible refine bl_alloc ?_ _ | with_reducible refine bl_call ?_ (by assumption) | (focus (with_reducible refine Below.setCell ?_ ?_ _; rotate_left; focus (first | omega | (simp <;> omega)))) | fail)))).mono ?_; rintro e w1 ⟨rfl, hb1⟩; have HB1 : Below w.heap.size w w1 := bl_call (by (repeat (first | with_reducible exact Below.refl _ _ | with_reducible assumption | with_reducible refine Below.drew ?_ | with_reducible refine bl_alloc ?_ _ | with_reducible refine bl_call ?_ (by assumption) | (focus (with_reducible refine Below.setCell ?_ ?_ _; rotate_left; focus (first | omega | (simp <;> omega)))) | fail))) hb1
       have kb1 := Blk.below (g := w.heap.size) (t := 25) (cs := #[.slice A d.dry.length c, .slice A' d.wet.length c', .int .i64 d.left]) (by (repeat (first | with_reducible assumption | (focus (with_reducible refine Blk.new ?_; focus (simp <;> fail))) | with_reducible refine Blk.set3 (a := .slice none 0 0) (b := .slice none 0 0) (c := .int .i64 0) ?_ | with_reducible refine Blk.alloc ?_ _ | with_reducible refine Blk.drew ?_ | (focus (with_reducible refine Blk.far ?_ ?_ _; rotate_left; focus (first | omega | (simp <;> omega)))) | (focus (with_reducible refine Blk.below ?_ hb1 ?_; rotate_left; focus (first | omega | (simp <;> omega)))) | fail))) hb1 (by simp <;> omega)
       have kr1 := Blk.below (g := w.heap.size + 1) (t := 25) (cs := #[.slice none 0 0, .slice none 0 0, .int .i64 0]) (by (repeat (first | with_reducible assumption | (focus (with_reducible refine Blk.new ?_; focus (simp <;> fail))) | with_reducible refine Blk.set3 (a := .slice none 0 0) (b := .slice none 0 0) (c := .int .i64 0) ?_ | with_reducible refine Blk.alloc ?_ _ | with_reducible refine Blk.drew ?_ | (focus (with_reducible refine Blk.far ?_ ?_ _; rotate_left; focus (first | omega | (simp <;> omega)))) | (focus (with_reducible refine Blk.below ?_ hb1 ?_; rotate_left; focus (first | omega | (simp <;> omega)))) | fail))) hb1 (by simp <;> omega)
       have k0 := kb1.cell 0; have k1 := kb1.cell 1; have k2 := kb1.cell 2
       simp at k0 k1 k2
       have z0 := kb1.lt
       replace HB1 := hide HB1; replace kb1 := hide kb1; replace kr1 := hide kr1; clear hb1)
    | (go_at_call 11; refine (unhide hcp _ (unhide HB1)).mono ?_; rintro e w2 ⟨v', rfl, hco, hb2⟩
       clear k0 k1 k2 z0
       obtain ⟨A3, c3, Aw, cw, rfl⟩ := hco.form
       have kb := (unhide kb1).below hb2 (unhide kb1).lt
       have kr := (unhide kr1).below hb2 (unhide kr1).lt
       have s1 := (unhide kr1).lt
       have HB2 : Below w.heap.size w w2 := bl_call (unhide HB1) hb2
       have f0 := kb.frozen 0; have f1 := kb.frozen 1; have f2 := kb.frozen 2
       have k0 := kb.cell 0; have k1 := kb.cell 1; have k2 := kb.cell 2
       simp at k0 k1 k2
       have z0 := kb.lt; have z1 := kr.lt
       replace hco := hide hco; replace HB2 := hide HB2; replace kb := hide kb; replace kr := hide kr; replace s1 := hide s1; clear hb2)
    | fail)
  have Kb : Blk (((w2.setCell ⟨w.heap.size, 0, none⟩ (.slice A3 d.dry.length c3)).setCell ⟨w.heap.size, 1, none⟩ (.slice Aw d.wet.length cw)).setCell ⟨w.heap.size, 2, none⟩ (.int .i64 d.left)) w.heap.size 25 #[.slice A3 d.dry.length c3, .slice Aw d.wet.length cw, .int .i64 d.left] := (unhide kb).set3
  have Kr : Blk (((w2.setCell ⟨w.heap.size, 0, none⟩ (.slice A3 d.dry.length c3)).setCell ⟨w.heap.size, 1, none⟩ (.slice Aw d.wet.length cw)).setCell ⟨w.heap.size, 2, none⟩ (.int .i64 d.left)) (w.heap.size + 1) 25 #[.slice none 0 0, .slice none 0 0, .int .i64 0] := (((unhide kr).far (by simp) _).far (by simp) _).far (by simp) _
  have Co := (((unhide hco).mono (base' := w.heap.size + 2) (unhide s1))).set3 (x := .slice A3 d.dry.length c3) (y := .slice Aw d.wet.length cw) (z := .int .i64 d.left) (unhide kb) (by omega)
  have ba := (((unhide HB2).setCell (p := ⟨w.heap.size, 0, none⟩) (Nat.le_refl _) (.slice A3 d.dry.length c3)).setCell (p := ⟨w.heap.size, 1, none⟩) (Nat.le_refl _) (.slice Aw d.wet.length cw)).setCell (p := ⟨w.heap.size, 2, none⟩) (Nat.le_refl _) (.int .i64 d.left)
  clear f0 f1 f2 k0 k1 k2 z0 z1 hco HB2 kb kr
  generalize ((w2.setCell ⟨w.heap.size, 0, none⟩ (.slice A3 d.dry.length c3)).setCell ⟨w.heap.size, 1, none⟩ (.slice Aw d.wet.length cw)).setCell ⟨w.heap.size, 2, none⟩ (.int .i64 d.left) = wa at *
  have f0 := Kb.frozen 0; have f1 := Kb.frozen 1; have f2 := Kb.frozen 2
  have k0 := Kb.cell 0; have k1 := Kb.cell 1; have k2 := Kb.cell 2
  have e0 := Kr.frozen 0; have e1 := Kr.frozen 1; have e2 := Kr.frozen 2
  have r0 := Kr.cell 0; have r1 := Kr.cell 1; have r2 := Kr.cell 2
  simp at k0 k1 k2 r0 r1 r2
  have z0 := Kb.lt; have z1 := Kr.lt
  replace Kb := hide Kb; replace Kr := hide Kr; replace Co := hide Co; replace ba := hide ba
  go_wp2_with fail
  have Kr2 := (unhide Kr).far (p := ⟨w.heap.size, 2, none⟩) (by simp) (.int .i64 m)
  refine ret_disk2 rfl (w.heap.size + 1) #[.slice A3 d.dry.length c3, .slice Aw d.wet.length cw, .int .i64 m] rfl (.int .i64 0) rfl rfl Kr2.set3 rfl ⟨_, rfl, ?_, ?_⟩
  · exact ((((unhide Co).set1 (unhide Kb) (by omega) 2 _).set3 Kr2 (by omega)).toLeft m).toDsk.mono (by omega) (Nat.le_refl _)
  · exact ((((unhide ba).setCell (Nat.le_refl _) _).setCell (by simp) _).setCell (by simp) _).setCell (by simp) _

theorem reflimit_any (lo : Nat) (v : Value) (d : Dk) (m : Int) (w : World) (h : Dsk lo w.heap.size w v d) (hL : d.dry.length ≤ 1000000) (hW : d.wet.length ≤ 1000) :
    Calls Try.prog 21 #[v, .int .i64 m] w fun e w' => ∃ v' E, e = .returned (.tuple #[v', .int .i64 E]) ∧ Dsk w.heap.size w'.heap.size w' v' (limE d m).1 ∧ E = (limE d m).2 ∧ Below w.heap.size w w' := by
  cases hq : okD d && leftB m
  · refine (reflimit_bad lo v d m w h hq).mono ?_
    rintro e w' ⟨rfl, hb⟩
    have : limE d m = (noDk, 1) := by simp [limE, hq]
    rw [this]
    exact ⟨_, _, rfl, noDk_dsk _ _ _, rfl, hb⟩
  · have h' := hq
    rw [Bool.and_eq_true] at h'
    refine (reflimit_good lo v d m w h h'.1 h'.2 hL hW).mono ?_
    rintro e w' ⟨v', rfl, hx, hb⟩
    have : limE d m = (⟨d.dry, d.wet, m⟩, 0) := by simp [limE, hq]
    rw [this]
    exact ⟨_, _, rfl, hx, rfl, hb⟩
end Go.Proofs.Ytcgfcdbchcehmaa
