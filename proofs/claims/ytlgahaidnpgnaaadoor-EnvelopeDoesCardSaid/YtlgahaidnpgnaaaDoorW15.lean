import Derived.Test.YtlgahaidnpgnaaaDoorW14
namespace Go.Proofs.YtlgahaidnpgnaaaDoor
open Go.RowKit

/-- How long a slice is. -/
def lenOf : Value → Nat
  | .slice _ n _ => n
  | _ => 0
/-- Permuted 'j' times. -/
def pn : Nat → St → St
  | 0, s => s
  | j + 1, s => permF (pn j s)
theorem pn_perm (j : Nat) (s : St) : pn j (permF s) = permF (pn j s) := by
  induction j with
  | zero => rfl
  | succ j ih => rw [pn, ih]; rfl
theorem sqF_snoc (j : Nat) (s : St) : sqF j s ++ oct (pn j s).a ++ oct (pn j s).b = sqF (j + 1) s := by
  induction j generalizing s with
  | zero => simp [sqF, pn]
  | succ j ih =>
    rw [sqF, sqF, ← ih (permF s), pn_perm]
    simp [pn, List.append_assoc]

set_option maxHeartbeats 400000 in
theorem Squeeze_neg (s : St) (z : Int) (w : World) (hz : z < 0) :
    Calls Tryd.prog 37 #[stV s, .int .i64 z] w fun e w' => e = .returned (.tuple #[.slice none 0 0, .int .i64 1]) ∧ Below w.heap.size w w' := by
  go_enter Tryd.func37, Tryd.ntmps37
  go_wp2
  go_ret2
  exact ⟨rfl, by (repeat (first | with_reducible exact Below.refl _ _ | with_reducible assumption | with_reducible refine Below.drew ?_ | with_reducible refine bl_alloc ?_ _ | with_reducible refine bl_call ?_ (by assumption) | (focus (with_reducible refine Below.setCell ?_ ?_ _; rotate_left; focus (first | omega | (simp <;> omega)))) | fail))⟩
set_option maxHeartbeats 400000 in
theorem Squeeze_long (s : St) (z : Int) (w : World) (hz : 131072 < z) :
    Calls Tryd.prog 37 #[stV s, .int .i64 z] w fun e w' => e = .returned (.tuple #[.slice none 0 0, .int .i64 3]) ∧ Below w.heap.size w w' := by
  go_enter Tryd.func37, Tryd.ntmps37
  go_wp2
  go_ret2
  exact ⟨rfl, by (repeat (first | with_reducible exact Below.refl _ _ | with_reducible assumption | with_reducible refine Below.drew ?_ | with_reducible refine bl_alloc ?_ _ | with_reducible refine bl_call ?_ (by assumption) | (focus (with_reducible refine Below.setCell ?_ ?_ _; rotate_left; focus (first | omega | (simp <;> omega)))) | fail))⟩
set_option maxHeartbeats 400000 in
theorem SqueezeR_neg (s : St) (z : Int) (w : World) (hz : z < 0) :
    Calls Tryd.prog 39 #[stV s, .int .i64 z] w fun e w' => e = .returned (.tuple #[.slice none 0 0, .int .i64 1]) ∧ Below w.heap.size w w' := by
  go_enter Tryd.func39, Tryd.ntmps39
  go_wp2
  go_ret2
  exact ⟨rfl, by (repeat (first | with_reducible exact Below.refl _ _ | with_reducible assumption | with_reducible refine Below.drew ?_ | with_reducible refine bl_alloc ?_ _ | with_reducible refine bl_call ?_ (by assumption) | (focus (with_reducible refine Below.setCell ?_ ?_ _; rotate_left; focus (first | omega | (simp <;> omega)))) | fail))⟩
set_option maxHeartbeats 400000 in
theorem SqueezeR_long (s : St) (z : Int) (w : World) (hz : 131072 < z) :
    Calls Tryd.prog 39 #[stV s, .int .i64 z] w fun e w' => e = .returned (.tuple #[.slice none 0 0, .int .i64 3]) ∧ Below w.heap.size w w' := by
  go_enter Tryd.func39, Tryd.ntmps39
  go_wp2
  go_ret2
  exact ⟨rfl, by (repeat (first | with_reducible exact Below.refl _ _ | with_reducible assumption | with_reducible refine Below.drew ?_ | with_reducible refine bl_alloc ?_ _ | with_reducible refine bl_call ?_ (by assumption) | (focus (with_reducible refine Below.setCell ?_ ?_ _; rotate_left; focus (first | omega | (simp <;> omega)))) | fail))⟩

set_option maxHeartbeats 1000000 in
theorem Squeeze_good (s : St) (n : Nat) (w : World) (ht : Tab w) (hn : n ≤ 131072) :
    Calls Tryd.prog 37 #[stV s, .int .i64 n] w fun e w' => ∃ A c, e = .returned (.tuple #[.slice A n c, .int .i64 0]) ∧ OwnB w' w.heap.size (.slice A n c) (squeezeF s n) ∧ Below w.heap.size w w' := by
  obtain ⟨i0, hi0, hz0, hz1, hz2⟩ := info_parts info5
  have hB : Blk (w.alloc (.cells (stC s) 24)) w.heap.size 24 (stC (pn 0 s)) := Blk.new rfl
  have hb : Below w.heap.size w (w.alloc (.cells (stC s) 24)) := bl_alloc (Below.refl _ _) _
  have hsz : (w.alloc (.cells (stC s) 24)).heap.size = w.heap.size + 1 := by simp
  have hp := fun S W' (hb : Below w.heap.size w W') => perm_any S W' (ht.below hb (Nat.le_refl _))
  have hn0 : ¬ (n : Int) < 0 := by omega
  have hn1 : ¬ (131072 : Int) < (n : Int) := by omega
  have ho2 := fun x => u8s_one (oct x)
  replace hB := hide hB; replace hb := hide hb; replace hsz := hide hsz; replace hp := hide hp; replace ho2 := hide ho2
  go_enter Tryd.func37, Tryd.ntmps37
  go_upto_region 1 with (fail)
  generalize hW : World.alloc w _ = W at *
  clear hW
  obtain ⟨cs, hcs, hmk⟩ := mk8 (n + 8) (by omega) W
  have i8 : IntKind.i64.wrap ((n : Int) + 8) = ((n + 8 : Nat) : Int) := IntWalk.i64_in _ (by omega)
  have hmk' : (Instr.makeSlice 28 (.int .i64 0) (.int .i64 ((n : Int) + 8))).run Tryd.prog W = .ok (.slice (some ⟨W.heap.size, 0, none⟩) 0 (n + 8)) (W.alloc (.cells cs 5)) := by
    have e : ((n : Int) + 8) = ((n + 8 : Nat) : Int) := by omega
    rw [e]; exact hmk
  have hown : OwnB (W.alloc (.cells cs 5)) (w.heap.size + 1) (.slice (some ⟨W.heap.size, 0, none⟩) 0 (n + 8)) (sqF 0 s) := own_fresh W _ _ 5 1 (n + 8) cs rfl (by rw [unhide hsz]; omega) (by simp only [maxLen]; omega) hcs
  have hb1 : Below w.heap.size w (W.alloc (.cells cs 5)) := bl_alloc (unhide hb) _
  have hB1 : Blk (W.alloc (.cells cs 5)) w.heap.size 24 (stC (pn 0 s)) := Blk.alloc (unhide hB) _
  have hs1 : w.heap.size + 1 ≤ (W.alloc (.cells cs 5)).heap.size := le_alloc (Nat.le_of_eq (unhide hsz).symm)
  replace hown := hide hown; replace hb1 := hide hb1; replace hB1 := hide hB1; replace hs1 := hide hs1; replace hcs := hide hcs
  clear hmk hB hb hsz
  go_upto_region 6 with (fail)
  generalize W.heap.size = gA at *
  generalize W.alloc (.cells cs 5) = W1 at *
  clear hmk' 
  obtain ⟨N, hN⟩ : ∃ N, N = (n + 7) / 8 := ⟨_, rfl⟩
  have hN1 : N ≤ 16384 := by omega
  replace hN := hide hN
  go_loopw [6] (fun v wr => ∃ j m A c, v = .slice A m c ∧ Hid (m = 8 * j) ∧ j ≤ N ∧ Hid (OwnB wr (w.heap.size + 1) (.slice A m c) (sqF j s)) ∧ Hid (Blk wr w.heap.size 24 (stC (pn j s))) ∧ Hid (Below w.heap.size w wr) ∧ Hid (w.heap.size + 1 ≤ wr.heap.size)) (fun v _ => n - lenOf v)
  case atStart => exact ⟨0, 0, _, _, rfl, hide rfl, Nat.zero_le _, hown, hB1, hb1, hs1⟩
  case round =>
    obtain ⟨j, m, A, c, rfl, hm, hj, o, B, b, hs⟩ := hrel
    by_cases hlt : j < N
    · have hmn : m < n := by have := unhide hm; have := unhide hN; omega
      have k1 : (m : Int) < (n : Int) := by omega
      have hl : (sqF j s).length = m := by rw [sqF_len, unhide hm]; omega
      have hsn := sqF_snoc j s
      have hpn : permF (pn j s) = pn (j + 1) s := rfl
      have hm1 : m + 8 = 8 * (j + 1) := by have := unhide hm; omega
      have hmm : n - (m + 8) < n - m := by omega
      generalize sqF j s = q at *
      obtain ⟨q2, hqe⟩ : ∃ q2, q2 = sqF (j + 1) s := ⟨_, rfl⟩
      rw [← hqe] at hsn
      obtain ⟨S', hSe⟩ : ∃ S', S' = pn (j + 1) s := ⟨_, rfl⟩
      rw [← hSe] at hpn
      generalize pn j s = S at *
      replace hqe := hide hqe; replace hSe := hide hSe
      have c0 : wr.cell? ⟨w.heap.size, 0, none⟩ = some (u32v S.a) := (unhide B).cell 0
      obtain ⟨xa, hxa⟩ : ∃ x, x = S.a := ⟨_, rfl⟩
      obtain ⟨xb, hxb⟩ : ∃ x, x = S.b := ⟨_, rfl⟩
      rw [← hxa] at c0
      have hq1 : (q ++ oct xa).length = m + 4 := by rw [List.length_append, hl, oct_len]
      have hq2 : (q ++ oct xa ++ oct xb).length = m + 8 := by rw [List.length_append, hq1, oct_len]
      rw [← hxa, ← hxb] at hsn
      have hmb : m ≤ 131072 := by omega
      replace hl := hide hl; replace hsn := hide hsn; replace hpn := hide hpn; replace hm1 := hide hm1; replace hmm := hide hmm; replace hq1 := hide hq1; replace hq2 := hide hq2; replace hxa := hide hxa; replace hxb := hide hxb; replace hmb := hide hmb
      clear hmn
      have tok1 : True := trivial
      have q4 : (w.heap.size < w.heap.size + 1) := by omega
      go_wp2_with (first
        | (go_at_call 42
           have _t := tok1
           refine (tell_any (w.heap.size + 1) _ q xa wr (unhide o) (unhide hs) (by have y := unhide hl; have z := unhide hmb; omega)).mono ?_
           rintro e w1 ⟨v1, rfl, o1, hb1⟩
           obtain ⟨A1, c1, rfl⟩ : ∃ A c, v1 = .slice A (m + 4) c := by obtain ⟨A, c, e⟩ := o1.form; exact ⟨A, c, by rw [e, unhide hq1]⟩
           have B1 : Blk w1 w.heap.size 24 (stC S) := Blk.below (unhide B) hb1 q4
           have b1 : Below w.heap.size w w1 := (unhide b).trans (hb1.mono (Nat.le_of_lt q4))
           have hs1 : w.heap.size + 1 ≤ w1.heap.size := Nat.le_trans (unhide hs) hb1.size
           have d1 : w1.cell? ⟨w.heap.size, 1, none⟩ = some (u32v xb) := (B1.cell 1).trans (by rw [unhide hxb]; rfl)
           replace o1 := hide o1; replace B1 := hide B1; replace b1 := hide b1; replace hs1 := hide hs1
           clear tok1 _t hb1)
        | (go_at_call 42
           refine (tell_any (w.heap.size + 1) _ (q ++ oct xa) xb w1 (unhide o1) (unhide hs1) (by have y := unhide hq1; have z := unhide hmb; omega)).mono ?_
           rintro e w4 ⟨v4, rfl, o4, hb4⟩
           obtain ⟨A4, c4, rfl⟩ : ∃ A c, v4 = .slice A (m + 8) c := by obtain ⟨A, c, e⟩ := o4.form; exact ⟨A, c, by rw [e, unhide hq2]⟩
           have B4 : Blk w4 w.heap.size 24 (stC S) := Blk.below (unhide B1) hb4 q4
           have b4 : Below w.heap.size w w4 := (unhide b1).trans (hb4.mono (Nat.le_of_lt q4))
           have hs4 : w.heap.size + 1 ≤ w4.heap.size := Nat.le_trans (unhide hs1) hb4.size
           have hcall := unhide hp S w4 b4
           have l4 := B4.lt
           rw [unhide hpn] at hcall
           replace o4 := hide o4; replace B4 := hide B4; replace b4 := hide b4; replace hs4 := hide hs4; replace hcall := hide hcall
           clear hb4)
        | (refine wpList_load_row rfl 24 (.tmp 2) rfl w.heap.size rfl 24 (stC S) (0, 0) _ (unhide B4) Tryd.underlying24 rfl size24 ?_)
        | (go_at_call 47; refine (unhide hcall).mono ?_; rintro e wd ⟨rfl, hb5⟩
           have B5 := Blk.below (unhide B4) hb5 l4
           have b5 := bl_call (unhide b4) hb5
           have o5 := own_below (unhide o4) hb5 (Nat.le_refl _)
           have hs5 := Nat.le_trans (unhide hs4) hb5.size
           replace B5 := hide B5; replace b5 := hide b5; replace o5 := hide o5; replace hs5 := hide hs5
           clear hb5)
        | (refine wpList_store_row rfl 24 (.tmp 2) (.tmp 27) rfl w.heap.size (stC S') rfl rfl 24 (stC S) (unhide B5) size24 rfl (stC_one _) ?_)
        | fail)
      have B6 : Blk (wd.setRow w.heap.size (stC S')) w.heap.size 24 (stC S') := (unhide B5).row (stC S')
      have b6 := bl_row (g := w.heap.size) (unhide b5) (stC S') (Nat.le_refl _)
      have o6 := own_row_lt (g := w.heap.size) (unhide o5) (stC S') (by omega)
      have hs6 : w.heap.size + 1 ≤ (wd.setRow w.heap.size (stC S')).heap.size := by have := unhide hs5; simp [World.setRow]; omega
      go_frame
      go_roundw
      case rel =>
        refine ⟨j + 1, m + 8, A4, c4, rfl, hm1, by omega, hide ?_, hide ?_, hide b6, hide hs6⟩
        · rw [← unhide hqe, ← unhide hsn]
          exact o6
        · rw [← unhide hSe]
          exact B6
      case measure => exact unhide hmm
    · obtain rfl : j = N := by omega
      have hmn : n ≤ m := by have := unhide hm; have := unhide hN; omega
      have k1 : ¬ (m : Int) < (n : Int) := by omega
      have hl : (sqF j s).length = m := by rw [sqF_len, unhide hm]; omega
      have hsq : (sqF j s).take n = squeezeF s n := by unfold squeezeF; rw [← unhide hN]
      have o' : OwnB wr (w.heap.size + 1) (.slice A m c) (sqF j s) := unhide o
      obtain ⟨A', c', hsl, hb'⟩ := own_cut o' n (n : Int) rfl (by omega)
      rw [hsq] at hb'
      replace hb' := hide hb'
      clear hsq hl o' hmn
      go_wp2_with (fail)
      go_ret2
      exact ⟨A', c', rfl, ownsRow_mono (unhide hb') (by omega), unhide b⟩

set_option maxHeartbeats 1000000 in
theorem SqueezeR_good (s : St) (n : Nat) (w : World) (hn : n ≤ 131072) :
    Calls Tryd.prog 39 #[stV s, .int .i64 n] w fun e w' => ∃ A c, e = .returned (.tuple #[.slice A n c, .int .i64 0]) ∧ Bs w.heap.size w'.heap.size w' (.slice A n c) (squeezeF s n) ∧ Below w.heap.size w w' := by
  obtain ⟨i0, hi0, hz0, hz1, hz2⟩ := info_parts info5
  have hB : Blk (w.alloc (.cells (stC s) 24)) w.heap.size 24 (stC (pn 0 s)) := Blk.new rfl
  have hb : Below w.heap.size w (w.alloc (.cells (stC s) 24)) := bl_alloc (Below.refl _ _) _
  have hsz : (w.alloc (.cells (stC s) 24)).heap.size = w.heap.size + 1 := by simp
  have hp := fun S W' (hb : Below w.heap.size w W') => permR_any S W'
  have hn0 : ¬ (n : Int) < 0 := by omega
  have hn1 : ¬ (131072 : Int) < (n : Int) := by omega
  have ho2 := fun x => u8s_one (oct x)
  replace hB := hide hB; replace hb := hide hb; replace hsz := hide hsz; replace hp := hide hp; replace ho2 := hide ho2
  go_enter Tryd.func39, Tryd.ntmps39
  go_upto_region 1 with (fail)
  generalize hW : World.alloc w _ = W at *
  clear hW
  have hown : OwnB W (w.heap.size + 1) (.slice none 0 0) (sqF 0 s) := World.ownsRow_nil _ _ _ _
  have hs1 : w.heap.size + 1 ≤ W.heap.size := Nat.le_of_eq (unhide hsz).symm
  have hb1 := hb
  have hB1 := hB
  replace hown := hide hown; replace hs1 := hide hs1
  clear hB hb hsz
  go_wp2_with (fail)
  obtain ⟨N, hN⟩ : ∃ N, N = (n + 7) / 8 := ⟨_, rfl⟩
  have hN1 : N ≤ 16384 := by omega
  replace hN := hide hN
  go_loopw [6] (fun v wr => ∃ j m A c, v = .slice A m c ∧ Hid (m = 8 * j) ∧ j ≤ N ∧ Hid (OwnB wr (w.heap.size + 1) (.slice A m c) (sqF j s)) ∧ Hid (Blk wr w.heap.size 24 (stC (pn j s))) ∧ Hid (Below w.heap.size w wr) ∧ Hid (w.heap.size + 1 ≤ wr.heap.size)) (fun v _ => n - lenOf v)
  case atStart => exact ⟨0, 0, _, _, rfl, hide rfl, Nat.zero_le _, hown, hB1, hb1, hs1⟩
  case round =>
    obtain ⟨j, m, A, c, rfl, hm, hj, o, B, b, hs⟩ := hrel
    by_cases hlt : j < N
    · have hmn : m < n := by have := unhide hm; have := unhide hN; omega
      have k1 : (m : Int) < (n : Int) := by omega
      have hl : (sqF j s).length = m := by rw [sqF_len, unhide hm]; omega
      have hsn := sqF_snoc j s
      have hpn : permF (pn j s) = pn (j + 1) s := rfl
      have hm1 : m + 8 = 8 * (j + 1) := by have := unhide hm; omega
      have hmm : n - (m + 8) < n - m := by omega
      generalize sqF j s = q at *
      obtain ⟨q2, hqe⟩ : ∃ q2, q2 = sqF (j + 1) s := ⟨_, rfl⟩
      rw [← hqe] at hsn
      obtain ⟨S', hSe⟩ : ∃ S', S' = pn (j + 1) s := ⟨_, rfl⟩
      rw [← hSe] at hpn
      generalize pn j s = S at *
      replace hqe := hide hqe; replace hSe := hide hSe
      have c0 : wr.cell? ⟨w.heap.size, 0, none⟩ = some (u32v S.a) := (unhide B).cell 0
      obtain ⟨xa, hxa⟩ : ∃ x, x = S.a := ⟨_, rfl⟩
      obtain ⟨xb, hxb⟩ : ∃ x, x = S.b := ⟨_, rfl⟩
      rw [← hxa] at c0
      have hq1 : (q ++ oct xa).length = m + 4 := by rw [List.length_append, hl, oct_len]
      have hq2 : (q ++ oct xa ++ oct xb).length = m + 8 := by rw [List.length_append, hq1, oct_len]
      rw [← hxa, ← hxb] at hsn
      have hmb : m ≤ 131072 := by omega
      replace hl := hide hl; replace hsn := hide hsn; replace hpn := hide hpn; replace hm1 := hide hm1; replace hmm := hide hmm; replace hq1 := hide hq1; replace hq2 := hide hq2; replace hxa := hide hxa; replace hxb := hide hxb; replace hmb := hide hmb
      clear hmn
      have tok1 : True := trivial
      have tok2 : True := trivial
      have q4 : (w.heap.size < w.heap.size + 1) := by omega
      have y3 : m + 4 ≤ maxLen := by have z := unhide hmb; simp only [maxLen]; omega
      have y4 : (m + 4) * 1 ≤ 140737488355328 := by have z := unhide hmb; omega
      have z3 : m + 4 + 4 ≤ maxLen := by have z := unhide hmb; simp only [maxLen]; omega
      have z4 : (m + 4 + 4) * 1 ≤ 140737488355328 := by have z := unhide hmb; omega
      have o' : wr.ownsRow (w.heap.size + 1) 5 1 (.slice A m c) m (q.map u8v) := by have := unhide o; unfold OwnB at this; rw [unhide hl] at this; exact this
      replace y3 := hide y3; replace y4 := hide y4; replace z3 := hide z3; replace z4 := hide z4; replace o' := hide o'
      clear o
      go_wp2_with (first
        | (go_at_call 43
           have _t := tok1
           refine (octetsR_any xa wr).mono ?_
           rintro e w1 ⟨rfl, rfl⟩
           clear tok1 _t)
        | (at_builtin
           have _t := tok2
           refine wpList_app _ rfl (.tmp 15) (.tmp 18) 28 rfl (w.heap.size + 1) 5 i0 _ 1 1 Tryd.underlying28 hi0 hz0 hz1 hz2 rfl (Nat.succ_pos _) _ m (q.map u8v) rfl ((unhide o').alloc _) (some ⟨wr.heap.size, 0, none⟩) 4 4 ((oct xa).map u8v) rfl rfl (octC_src wr xa) (unhide ho2 xa) (unhide y3) (unhide y4) (le_alloc (unhide hs)) ?_
           intro v1 w1 hown1 hg1
           have hb1 : Below (w.heap.size + 1) wr w1 := bl_app (unhide hs) (unhide o') hg1
           obtain ⟨A1, c1, rfl⟩ := ownsRow_form hown1
           rw [← List.map_append] at hown1
           have B1 : Blk w1 w.heap.size 24 (stC S) := Blk.below (unhide B) hb1 q4
           have b1 : Below w.heap.size w w1 := (unhide b).trans (hb1.mono (Nat.le_of_lt q4))
           have hs1 : w.heap.size + 1 ≤ w1.heap.size := Nat.le_trans (unhide hs) hb1.size
           have d1 : w1.cell? ⟨w.heap.size, 1, none⟩ = some (u32v xb) := (B1.cell 1).trans (by rw [unhide hxb]; rfl)
           replace hown1 := hide hown1; replace B1 := hide B1; replace b1 := hide b1; replace hs1 := hide hs1
           clear tok2 _t hg1 hb1)
        | (go_at_call 43
           refine (octetsR_any xb w1).mono ?_
           rintro e w2 ⟨rfl, rfl⟩)
        | (at_builtin
           refine wpList_app _ rfl (.tmp 20) (.tmp 23) 28 rfl (w.heap.size + 1) 5 i0 _ 1 1 Tryd.underlying28 hi0 hz0 hz1 hz2 rfl (Nat.succ_pos _) _ (m + 4) ((q ++ oct xa).map u8v) rfl ((unhide hown1).alloc _) (some ⟨w1.heap.size, 0, none⟩) 4 4 ((oct xb).map u8v) rfl rfl (octC_src w1 xb) (unhide ho2 xb) (unhide z3) (unhide z4) (le_alloc (unhide hs1)) ?_
           intro v4 w4 hown4 hg4
           have hb4 : Below (w.heap.size + 1) w1 w4 := bl_app (unhide hs1) (unhide hown1) hg4
           have o4 : OwnB w4 (w.heap.size + 1) v4 (q ++ oct xa ++ oct xb) := own_app hown4 (by rw [unhide hq2])
           obtain ⟨A4, c4, rfl⟩ : ∃ A c, v4 = .slice A (m + 8) c := by obtain ⟨A, c, e⟩ := o4.form; exact ⟨A, c, by rw [e, unhide hq2]⟩
           have B4 : Blk w4 w.heap.size 24 (stC S) := Blk.below (unhide B1) hb4 q4
           have b4 : Below w.heap.size w w4 := (unhide b1).trans (hb4.mono (Nat.le_of_lt q4))
           have hs4 : w.heap.size + 1 ≤ w4.heap.size := Nat.le_trans (unhide hs1) hb4.size
           have hcall := unhide hp S w4 b4
           have l4 := B4.lt
           rw [unhide hpn] at hcall
           replace o4 := hide o4; replace B4 := hide B4; replace b4 := hide b4; replace hs4 := hide hs4; replace hcall := hide hcall
           clear hb4 hg4 hown4)
        | (refine wpList_load_row rfl 24 (.tmp 2) rfl w.heap.size rfl 24 (stC S) (0, 0) _ (unhide B4) Tryd.underlying24 rfl size24 ?_)
        | (go_at_call 48; refine (unhide hcall).mono ?_; rintro e wd ⟨rfl, hb5⟩
           have B5 := Blk.below (unhide B4) hb5 l4
           have b5 := bl_call (unhide b4) hb5
           have o5 := own_below (unhide o4) hb5 (Nat.le_refl _)
           have hs5 := Nat.le_trans (unhide hs4) hb5.size
           replace B5 := hide B5; replace b5 := hide b5; replace o5 := hide o5; replace hs5 := hide hs5
           clear hb5)
        | (refine wpList_store_row rfl 24 (.tmp 2) (.tmp 26) rfl w.heap.size (stC S') rfl rfl 24 (stC S) (unhide B5) size24 rfl (stC_one _) ?_)
        | fail)
      have B6 : Blk (wd.setRow w.heap.size (stC S')) w.heap.size 24 (stC S') := (unhide B5).row (stC S')
      have b6 := bl_row (g := w.heap.size) (unhide b5) (stC S') (Nat.le_refl _)
      have o6 := own_row_lt (g := w.heap.size) (unhide o5) (stC S') (by omega)
      have hs6 : w.heap.size + 1 ≤ (wd.setRow w.heap.size (stC S')).heap.size := by have := unhide hs5; simp [World.setRow]; omega
      go_frame
      go_roundw
      case rel =>
        refine ⟨j + 1, m + 8, A4, c4, rfl, hm1, by omega, hide ?_, hide ?_, hide b6, hide hs6⟩
        · rw [← unhide hqe, ← unhide hsn]
          exact o6
        · rw [← unhide hSe]
          exact B6
      case measure => exact unhide hmm
    · obtain rfl : j = N := by omega
      have hmn : n ≤ m := by have := unhide hm; have := unhide hN; omega
      have k1 : ¬ (m : Int) < (n : Int) := by omega
      have hl : (sqF j s).length = m := by rw [sqF_len, unhide hm]; omega
      have hsq : (sqF j s).take n = squeezeF s n := by unfold squeezeF; rw [← unhide hN]
      have o' : OwnB wr (w.heap.size + 1) (.slice A m c) (sqF j s) := unhide o
      have hbs : Bs (w.heap.size + 1) wr.heap.size wr (.slice A m c) (sqF j s) := Bs.of_own o'
      obtain ⟨A', c', hsl, hb'⟩ := hbs.cut_h n (n : Int) rfl (by omega)
      rw [hsq] at hb'
      replace hb' := hide hb'
      clear hbs hsq hl o' hmn
      go_wp2_with (fail)
      go_ret2
      exact ⟨A', c', rfl, (unhide hb').mono (by omega) (Nat.le_refl _), unhide b⟩
end Go.Proofs.YtlgahaidnpgnaaaDoor
