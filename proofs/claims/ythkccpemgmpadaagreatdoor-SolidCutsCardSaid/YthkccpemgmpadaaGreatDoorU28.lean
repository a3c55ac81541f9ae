import Derived.Test.YthkccpemgmpadaaGreatDoorU27
namespace Go.Proofs.YthkccpemgmpadaaGreatDoor
set_option maxRecDepth 100000
open Go.RowKit
def lenOf : Value → Nat
  | .slice _ n _ => n
  | _ => 0
def pn : Nat → St → St
  | 0, s => s
  | j + 1, s => permF (pn j s)
theorem pn_perm (j : Nat) (s : St) : pn j (permF s) = permF (pn j s) := by
  induction j with
  | zero => rfl
  | succ j ih => rw [pn, ih]; rfl
theorem sqF_snoc (j : Nat) (s : St) : sqF j s ++ oct (pn j s).a ++ oct (pn j s).b = sqF (j + 1) s := by
  induction j generalizing s with
  | zero => simp [sqF, pn]
  | succ j ih =>
    rw [sqF, sqF, ← ih (permF s), pn_perm]
    simp [pn, List.append_assoc]
set_option maxHeartbeats 1000000 in
theorem Squeeze_good (s : St) (n : Nat) (w : World) (ht : Tab w) (hn : n ≤ 131072) :
    Calls Tryz.prog 123 #[stV s, .int .i64 n] w fun e w' => ∃ A c, e = .returned (.tuple #[.slice A n c, .int .i64 0]) ∧ OwnB w' w.heap.size (.slice A n c) (squeezeF s n) ∧ Below w.heap.size w w' := by
  obtain ⟨i0, hi0, hz0, hz1, hz2⟩ := info_parts info5
  have hB : Blk (w.alloc (.cells (stC s) 24)) w.heap.size 24 (stC (pn 0 s)) := Blk.new rfl
  have hb : Below w.heap.size w (w.alloc (.cells (stC s) 24)) := bl_alloc (Below.refl _ _) _
  have hsz : (w.alloc (.cells (stC s) 24)).heap.size = w.heap.size + 1 := by simp
  have hp := fun S W' (hb : Below w.heap.size w W') => perm_any S W' (ht.below hb (Nat.le_refl _))
  have hn0 : ¬ (n : Int) < 0 := by omega
  have hn1 : ¬ (131072 : Int) < (n : Int) := by omega
  have ho2 := fun x => u8s_one (oct x)
  replace hB := hide hB; replace hb := hide hb; replace hsz := hide hsz; replace hp := hide hp; replace ho2 := hide ho2
  go_enter Tryz.func123, Tryz.ntmps123
  go_upto_region 1 with (fail)
  generalize hW : World.alloc w _ = W at *
  clear hW
  obtain ⟨cs, hcs, hmk⟩ := mk8 (n + 8) (by omega) W
  have i8 : IntKind.i64.wrap ((n : Int) + 8) = ((n + 8 : Nat) : Int) := IntWalk.i64_in _ (by omega)
  have hmk' : (Instr.makeSlice 29 (.int .i64 0) (.int .i64 ((n : Int) + 8))).run Tryz.prog W = .ok (.slice (some ⟨W.heap.size, 0, none⟩) 0 (n + 8)) (W.alloc (.cells cs 5)) := by
    have e : ((n : Int) + 8) = ((n + 8 : Nat) : Int) := by omega
    rw [e]; exact hmk
  have hown : OwnB (W.alloc (.cells cs 5)) (w.heap.size + 1) (.slice (some ⟨W.heap.size, 0, none⟩) 0 (n + 8)) (sqF 0 s) := own_fresh W _ _ 5 1 (n + 8) cs rfl (by rw [unhide hsz]; omega) (by simp only [maxLen]; omega) hcs
  have hb1 : Below w.heap.size w (W.alloc (.cells cs 5)) := bl_alloc (unhide hb) _
  have hB1 : Blk (W.alloc (.cells cs 5)) w.heap.size 24 (stC (pn 0 s)) := Blk.alloc (unhide hB) _
  have hs1 : w.heap.size + 1 ≤ (W.alloc (.cells cs 5)).heap.size := le_alloc (Nat.le_of_eq (unhide hsz).symm)
  replace hown := hide hown; replace hb1 := hide hb1; replace hB1 := hide hB1; replace hs1 := hide hs1; replace hcs := hide hcs
  clear hmk hB hb hsz
  go_upto_region 6 with (fail)
  generalize W.heap.size = gA at *
  generalize W.alloc (.cells cs 5) = W1 at *
  clear hmk' 
  obtain ⟨N, hN⟩ : ∃ N, N = (n + 7) / 8 := ⟨_, rfl⟩
  have hN1 : N ≤ 16384 := by omega
  replace hN := hide hN
  go_loopw [6] (fun v wr => ∃ j m A c, v = .slice A m c ∧ Hid (m = 8 * j) ∧ j ≤ N ∧ Hid (OwnB wr (w.heap.size + 1) (.slice A m c) (sqF j s)) ∧ Hid (Blk wr w.heap.size 24 (stC (pn j s))) ∧ Hid (Below w.heap.size w wr) ∧ Hid (w.heap.size + 1 ≤ wr.heap.size)) (fun v _ => n - lenOf v)
  case atStart => exact ⟨0, 0, _, _, rfl, hide rfl, Nat.zero_le _, hown, hB1, hb1, hs1⟩
  case round =>
    obtain ⟨j, m, A, c, rfl, hm, hj, o, B, b, hs⟩ := hrel
    by_cases hlt : j < N
    · have hmn : m < n := by have := unhide hm; have := unhide hN; omega
      have k1 : (m : Int) < (n : Int) := by omega
      have hl : (sqF j s).length = m := by rw [sqF_len, unhide hm]; omega
      have hsn := sqF_snoc j s
      have hpn : permF (pn j s) = pn (j + 1) s := rfl
      have hm1 : m + 8 = 8 * (j + 1) := by have := unhide hm; omega
      have hmm : n - (m + 8) < n - m := by omega
      generalize sqF j s = q at *
      obtain ⟨q2, hqe⟩ : ∃ q2, q2 = sqF (j + 1) s := ⟨_, rfl⟩
      rw [← hqe] at hsn
      obtain ⟨S', hSe⟩ : ∃ S', S' = pn (j + 1) s := ⟨_, rfl⟩
      rw [← hSe] at hpn
      generalize pn j s = S at *
      replace hqe := hide hqe; replace hSe := hide hSe
      have c0 : wr.cell? ⟨w.heap.size, 0, none⟩ = some (u32v S.a) := (unhide B).cell 0
      obtain ⟨xa, hxa⟩ : ∃ x, x = S.a := ⟨_, rfl⟩
      obtain ⟨xb, hxb⟩ : ∃ x, x = S.b := ⟨_, rfl⟩
      rw [← hxa] at c0
      have hq1 : (q ++ oct xa).length = m + 4 := by rw [List.length_append, hl, oct_len]
      have hq2 : (q ++ oct xa ++ oct xb).length = m + 8 := by rw [List.length_append, hq1, oct_len]
      rw [← hxa, ← hxb] at hsn
      have hmb : m ≤ 131072 := by omega
      replace hl := hide hl; replace hsn := hide hsn; replace hpn := hide hpn; replace hm1 := hide hm1; replace hmm := hide hmm; replace hq1 := hide hq1; replace hq2 := hide hq2; replace hxa := hide hxa; replace hxb := hide hxb; replace hmb := hide hmb
      clear hmn
      have tok1 : True := trivial
      have q4 : (w.heap.size < w.heap.size + 1) := by omega
      go_wp2_with (first
        | (go_at_call 96
           have _t := tok1
           refine (tell_any (w.heap.size + 1) _ q xa wr (unhide o) (unhide hs) (by have y := unhide hl; have z := unhide hmb; omega)).mono ?_
           rintro e w1 ⟨v1, rfl, o1, hb1⟩
           obtain ⟨A1, c1, rfl⟩ : ∃ A c, v1 = .slice A (m + 4) c := by obtain ⟨A, c, e⟩ := o1.form; exact ⟨A, c, by rw [e, unhide hq1]⟩
           have B1 : Blk w1 w.heap.size 24 (stC S) := Blk.below (unhide B) hb1 q4
           have b1 : Below w.heap.size w w1 := (unhide b).trans (hb1.mono (Nat.le_of_lt q4))
           have hs1 : w.heap.size + 1 ≤ w1.heap.size := Nat.le_trans (unhide hs) hb1.size
           have d1 : w1.cell? ⟨w.heap.size, 1, none⟩ = some (u32v xb) := (B1.cell 1).trans (by rw [unhide hxb]; rfl)
           replace o1 := hide o1; replace B1 := hide B1; replace b1 := hide b1; replace hs1 := hide hs1
           clear tok1 _t hb1)
        | (go_at_call 96
           refine (tell_any (w.heap.size + 1) _ (q ++ oct xa) xb w1 (unhide o1) (unhide hs1) (by have y := unhide hq1; have z := unhide hmb; omega)).mono ?_
           rintro e w4 ⟨v4, rfl, o4, hb4⟩
           obtain ⟨A4, c4, rfl⟩ : ∃ A c, v4 = .slice A (m + 8) c := by obtain ⟨A, c, e⟩ := o4.form; exact ⟨A, c, by rw [e, unhide hq2]⟩
           have B4 : Blk w4 w.heap.size 24 (stC S) := Blk.below (unhide B1) hb4 q4
           have b4 : Below w.heap.size w w4 := (unhide b1).trans (hb4.mono (Nat.le_of_lt q4))
           have hs4 : w.heap.size + 1 ≤ w4.heap.size := Nat.le_trans (unhide hs1) hb4.size
           have hcall := unhide hp S w4 b4
           have l4 := B4.lt
           rw [unhide hpn] at hcall
           replace o4 := hide o4; replace B4 := hide B4; replace b4 := hide b4; replace hs4 := hide hs4; replace hcall := hide hcall
           clear hb4)
        | (refine wpList_load_row rfl 24 (.tmp 2) rfl w.heap.size rfl 24 (stC S) (0, 0) _ (unhide B4) Tryz.underlying24 rfl size24 ?_)
        | (go_at_call 136; refine (unhide hcall).mono ?_; rintro e wd ⟨rfl, hb5⟩
           have B5 := Blk.below (unhide B4) hb5 l4
           have b5 := bl_call (unhide b4) hb5
           have o5 := own_below (unhide o4) hb5 (Nat.le_refl _)
           have hs5 := Nat.le_trans (unhide hs4) hb5.size
           replace B5 := hide B5; replace b5 := hide b5; replace o5 := hide o5; replace hs5 := hide hs5
           clear hb5)
        | (refine wpList_store_row rfl 24 (.tmp 2) (.tmp 27) rfl w.heap.size (stC S') rfl rfl 24 (stC S) (unhide B5) size24 rfl (stC_one _) ?_)
        | fail)
      have B6 : Blk (wd.setRow w.heap.size (stC S')) w.heap.size 24 (stC S') := (unhide B5).row (stC S')
      have b6 := bl_row (g := w.heap.size) (unhide b5) (stC S') (Nat.le_refl _)
      have o6 := own_row_lt (g := w.heap.size) (unhide o5) (stC S') (by omega)
      have hs6 : w.heap.size + 1 ≤ (wd.setRow w.heap.size (stC S')).heap.size := by have := unhide hs5; simp [World.setRow]; omega
      go_frame
      go_roundw
      case rel =>
        refine ⟨j + 1, m + 8, A4, c4, rfl, hm1, by omega, hide ?_, hide ?_, hide b6, hide hs6⟩
        · rw [← unhide hqe, ← unhide hsn]
          exact o6
        · rw [← unhide hSe]
          exact B6
      case measure => exact unhide hmm
    · obtain rfl : j = N := by omega
      have hmn : n ≤ m := by have := unhide hm; have := unhide hN; omega
      have k1 : ¬ (m : Int) < (n : Int) := by omega
      have hl : (sqF j s).length = m := by rw [sqF_len, unhide hm]; omega
      have hsq : (sqF j s).take n = squeezeF s n := by unfold squeezeF; rw [← unhide hN]
      have o' : OwnB wr (w.heap.size + 1) (.slice A m c) (sqF j s) := unhide o
      obtain ⟨A', c', hsl, hb'⟩ := own_cut o' n (n : Int) rfl (by omega)
      rw [hsq] at hb'
      replace hb' := hide hb'
      clear hsq hl o' hmn
      go_wp2_with (fail)
      go_ret2
      exact ⟨A', c', rfl, ownsRow_mono (unhide hb') (by omega), unhide b⟩
set_option maxHeartbeats 1000000 in
theorem SqueezeR_good (s : St) (n : Nat) (w : World) (hn : n ≤ 131072) :
    Calls Tryz.prog 114 #[stV s, .int .i64 n] w fun e w' => ∃ A c, e = .returned (.tuple #[.slice A n c, .int .i64 0]) ∧ Bs w.heap.size w'.heap.size w' (.slice A n c) (squeezeF s n) ∧ Below w.heap.size w w' := by
  obtain ⟨i0, hi0, hz0, hz1, hz2⟩ := info_parts info5
  have hB : Blk (w.alloc (.cells (stC s) 24)) w.heap.size 24 (stC (pn 0 s)) := Blk.new rfl
  have hb : Below w.heap.size w (w.alloc (.cells (stC s) 24)) := bl_alloc (Below.refl _ _) _
  have hsz : (w.alloc (.cells (stC s) 24)).heap.size = w.heap.size + 1 := by simp
  have hp := fun S W' (hb : Below w.heap.size w W') => permR_any S W'
  have hn0 : ¬ (n : Int) < 0 := by omega
  have hn1 : ¬ (131072 : Int) < (n : Int) := by omega
  have ho2 := fun x => u8s_one (oct x)
  replace hB := hide hB; replace hb := hide hb; replace hsz := hide hsz; replace hp := hide hp; replace ho2 := hide ho2
  go_enter Tryz.func114, Tryz.ntmps114
  go_upto_region 1 with (fail)
  generalize hW : World.alloc w _ = W at *
  clear hW
  have hown : OwnB W (w.heap.size + 1) (.slice none 0 0) (sqF 0 s) := World.ownsRow_nil _ _ _ _
  have hs1 : w.heap.size + 1 ≤ W.heap.size := Nat.le_of_eq (unhide hsz).symm
  have hb1 := hb
  have hB1 := hB
  replace hown := hide hown; replace hs1 := hide hs1
  clear hB hb hsz
  go_wp2_with (fail)
  obtain ⟨N, hN⟩ : ∃ N, N = (n + 7) / 8 := ⟨_, rfl⟩
  have hN1 : N ≤ 16384 := by omega
  replace hN := hide hN
  go_loopw [6] (fun v wr => ∃ j m A c, v = .slice A m c ∧ Hid (m = 8 * j) ∧ j ≤ N ∧ Hid (OwnB wr (w.heap.size + 1) (.slice A m c) (sqF j s)) ∧ Hid (Blk wr w.heap.size 24 (stC (pn j s))) ∧ Hid (Below w.heap.size w wr) ∧ Hid (w.heap.size + 1 ≤ wr.heap.size)) (fun v _ => n - lenOf v)
  case atStart => exact ⟨0, 0, _, _, rfl, hide rfl, Nat.zero_le _, hown, hB1, hb1, hs1⟩
  case round =>
    obtain ⟨j, m, A, c, rfl, hm, hj, o, B, b, hs⟩ := hrel
    by_cases hlt : j < N
    · have hmn : m < n := by have := unhide hm; have := unhide hN; omega
      have k1 : (m : Int) < (n : Int) := by omega
      have hl : (sqF j s).length = m := by rw [sqF_len, unhide hm]; omega
      have hsn := sqF_snoc j s
      have hpn : permF (pn j s) = pn (j + 1) s := rfl
      have hm1 : m + 8 = 8 * (j + 1) := by have := unhide hm; omega
      have hmm : n - (m + 8) < n - m := by omega
      generalize sqF j s = q at *
      obtain ⟨q2, hqe⟩ : ∃ q2, q2 = sqF (j + 1) s := ⟨_, rfl⟩
      rw [← hqe] at hsn
      obtain ⟨S', hSe⟩ : ∃ S', S' = pn (j + 1) s := ⟨_, rfl⟩
      rw [← hSe] at hpn
      generalize pn j s = S at *
      replace hqe := hide hqe; replace hSe := hide hSe
      have c0 : wr.cell? ⟨w.heap.size, 0, none⟩ = some (u32v S.a) := (unhide B).cell 0
      obtain ⟨xa, hxa⟩ : ∃ x, x = S.a := ⟨_, rfl⟩
      obtain ⟨xb, hxb⟩ : ∃ x, x = S.b := ⟨_, rfl⟩
      rw [← hxa] at c0
      have hq1 : (q ++ oct xa).length = m + 4 := by rw [List.length_append, hl, oct_len]
      have hq2 : (q ++ oct xa ++ oct xb).length = m + 8 := by rw [List.length_append, hq1, oct_len]
      rw [← hxa, ← hxb] at hsn
      have hmb : m ≤ 131072 := by omega
      replace hl := hide hl; replace hsn := hide hsn; replace hpn := hide hpn; replace hm1 := hide hm1; replace hmm := hide hmm; replace hq1 := hide hq1; replace hq2 := hide hq2; replace hxa := hide hxa; replace hxb := hide hxb; replace hmb := hide hmb
      clear hmn
      have tok1 : True := trivial
      have tok2 : True := trivial
      have q4 : (w.heap.size < w.heap.size + 1) := by omega
      have y3 : m + 4 ≤ maxLen := by have z := unhide hmb; simp only [maxLen]; omega
      have y4 : (m + 4) * 1 ≤ 140737488355328 := by have z := unhide hmb; omega
      have z3 : m + 4 + 4 ≤ maxLen := by have z := unhide hmb; simp only [maxLen]; omega
      have z4 : (m + 4 + 4) * 1 ≤ 140737488355328 := by have z := unhide hmb; omega
      have o' : wr.ownsRow (w.heap.size + 1) 5 1 (.slice A m c) m (q.map u8v) := by have := unhide o; unfold OwnB at this; rw [unhide hl] at this; exact this
      replace y3 := hide y3; replace y4 := hide y4; replace z3 := hide z3; replace z4 := hide z4; replace o' := hide o'
      clear o
      go_wp2_with (first
        | (go_at_call 104
           have _t := tok1
           refine (octetsR_any xa wr).mono ?_
           rintro e w1 ⟨rfl, rfl⟩
           clear tok1 _t)
        | (at_builtin
           have _t := tok2
           refine wpList_app _ rfl (.tmp 15) (.tmp 18) 29 rfl (w.heap.size + 1) 5 i0 _ 1 1 Tryz.underlying29 hi0 hz0 hz1 hz2 rfl (Nat.succ_pos _) _ m (q.map u8v) rfl ((unhide o').alloc _) (some ⟨wr.heap.size, 0, none⟩) 4 4 ((oct xa).map u8v) rfl rfl (octC_src wr xa) (unhide ho2 xa) (unhide y3) (unhide y4) (le_alloc (unhide hs)) ?_
           intro v1 w1 hown1 hg1
           have hb1 : Below (w.heap.size + 1) wr w1 := bl_app (unhide hs) (unhide o') hg1
           obtain ⟨A1, c1, rfl⟩ := ownsRow_form hown1
           rw [← List.map_append] at hown1
           have B1 : Blk w1 w.heap.size 24 (stC S) := Blk.below (unhide B) hb1 q4
           have b1 : Below w.heap.size w w1 := (unhide b).trans (hb1.mono (Nat.le_of_lt q4))
           have hs1 : w.heap.size + 1 ≤ w1.heap.size := Nat.le_trans (unhide hs) hb1.size
           have d1 : w1.cell? ⟨w.heap.size, 1, none⟩ = some (u32v xb) := (B1.cell 1).trans (by rw [unhide hxb]; rfl)
           replace hown1 := hide hown1; replace B1 := hide B1; replace b1 := hide b1; replace hs1 := hide hs1
           clear tok2 _t hg1 hb1)
        | (go_at_call 104
           refine (octetsR_any xb w1).mono ?_
           rintro e w2 ⟨rfl, rfl⟩)
        | (at_builtin
           refine wpList_app _ rfl (.tmp 20) (.tmp 23) 29 rfl (w.heap.size + 1) 5 i0 _ 1 1 Tryz.underlying29 hi0 hz0 hz1 hz2 rfl (Nat.succ_pos _) _ (m + 4) ((q ++ oct xa).map u8v) rfl ((unhide hown1).alloc _) (some ⟨w1.heap.size, 0, none⟩) 4 4 ((oct xb).map u8v) rfl rfl (octC_src w1 xb) (unhide ho2 xb) (unhide z3) (unhide z4) (le_alloc (unhide hs1)) ?_
           intro v4 w4 hown4 hg4
           have hb4 : Below (w.heap.size + 1) w1 w4 := bl_app (unhide hs1) (unhide hown1) hg4
           have o4 : OwnB w4 (w.heap.size + 1) v4 (q ++ oct xa ++ oct xb) := own_app hown4 (by rw [unhide hq2])
           obtain ⟨A4, c4, rfl⟩ : ∃ A c, v4 = .slice A (m + 8) c := by obtain ⟨A, c, e⟩ := o4.form; exact ⟨A, c, by rw [e, unhide hq2]⟩
           have B4 : Blk w4 w.heap.size 24 (stC S) := Blk.below (unhide B1) hb4 q4
           have b4 : Below w.heap.size w w4 := (unhide b1).trans (hb4.mono (Nat.le_of_lt q4))
           have hs4 : w.heap.size + 1 ≤ w4.heap.size := Nat.le_trans (unhide hs1) hb4.size
           have hcall := unhide hp S w4 b4
           have l4 := B4.lt
           rw [unhide hpn] at hcall
           replace o4 := hide o4; replace B4 := hide B4; replace b4 := hide b4; replace hs4 := hide hs4; replace hcall := hide hcall
           clear hb4 hg4 hown4)
        | (refine wpList_load_row rfl 24 (.tmp 2) rfl w.heap.size rfl 24 (stC S) (0, 0) _ (unhide B4) Tryz.underlying24 rfl size24 ?_)
        | (go_at_call 113; refine (unhide hcall).mono ?_; rintro e wd ⟨rfl, hb5⟩
           have B5 := Blk.below (unhide B4) hb5 l4
           have b5 := bl_call (unhide b4) hb5
           have o5 := own_below (unhide o4) hb5 (Nat.le_refl _)
           have hs5 := Nat.le_trans (unhide hs4) hb5.size
           replace B5 := hide B5; replace b5 := hide b5; replace o5 := hide o5; replace hs5 := hide hs5
           clear hb5)
        | (refine wpList_store_row rfl 24 (.tmp 2) (.tmp 26) rfl w.heap.size (stC S') rfl rfl 24 (stC S) (unhide B5) size24 rfl (stC_one _) ?_)
        | fail)
      have B6 : Blk (wd.setRow w.heap.size (stC S')) w.heap.size 24 (stC S') := (unhide B5).row (stC S')
      have b6 := bl_row (g := w.heap.size) (unhide b5) (stC S') (Nat.le_refl _)
      have o6 := own_row_lt (g := w.heap.size) (unhide o5) (stC S') (by omega)
      have hs6 : w.heap.size + 1 ≤ (wd.setRow w.heap.size (stC S')).heap.size := by have := unhide hs5; simp [World.setRow]; omega
      go_frame
      go_roundw
      case rel =>
        refine ⟨j + 1, m + 8, A4, c4, rfl, hm1, by omega, hide ?_, hide ?_, hide b6, hide hs6⟩
        · rw [← unhide hqe, ← unhide hsn]
          exact o6
        · rw [← unhide hSe]
          exact B6
      case measure => exact unhide hmm
    · obtain rfl : j = N := by omega
      have hmn : n ≤ m := by have := unhide hm; have := unhide hN; omega
      have k1 : ¬ (m : Int) < (n : Int) := by omega
      have hl : (sqF j s).length = m := by rw [sqF_len, unhide hm]; omega
      have hsq : (sqF j s).take n = squeezeF s n := by unfold squeezeF; rw [← unhide hN]
      have o' : OwnB wr (w.heap.size + 1) (.slice A m c) (sqF j s) := unhide o
      have hbs : Bs (w.heap.size + 1) wr.heap.size wr (.slice A m c) (sqF j s) := Bs.of_own o'
      obtain ⟨A', c', hsl, hb'⟩ := hbs.cut_h n (n : Int) rfl (by omega)
      rw [hsq] at hb'
      replace hb' := hide hb'
      clear hbs hsq hl o' hmn
      go_wp2_with (fail)
      go_ret2
      exact ⟨A', c', rfl, (unhide hb').mono (by omega) (Nat.le_refl _), unhide b⟩
end Go.Proofs.YthkccpemgmpadaaGreatDoor

namespace Go.Proofs.YthkccpemgmpadaaGreatDoor
set_option maxRecDepth 100000
open Go.RowKit
set_option maxHeartbeats 400000 in
theorem bclone0 (lo : Nat) (v : Value) (l : List UInt8) (w : World) (h : Bs lo w.heap.size w v l) (hL : l.length ≤ 1000000) :
    Calls Tryz.prog 37 #[v] w fun e w' => ∃ v', e = .returned v' ∧ w'.ownsRow w.heap.size 5 1 v' l.length (l.map u8v) ∧ Below w.heap.size w w' := by
  obtain ⟨i0, hi0, hz0, hz1, hz2⟩ := info_parts info5
  have h' := h
  obtain ⟨A, c, rfl, h1, h2, h3⟩ := h'
  have hs := h.src
  clear h h3
  have q22 : ∀ (w : World) (a : Option Addr) (n c : Nat), (binOp .eql 29 (.slice a n c) (.slice none 0 0)).run Tryz.prog w = .ok (.bool a.isNone) w := fun w a n c => Lib.run_eql_slice_nil w _ _ a n c 0 0 Tryz.underlying29
  obtain ⟨xs, hxs⟩ : ∃ xs, xs = l.map u8v := ⟨_, rfl⟩
  have hxl : xs.length = l.length := by rw [hxs]; simp
  have hx1 : ∀ u ∈ xs, u.oneCell' = true := by rw [hxs]; exact u8s_one l
  rw [← hxs] at hs ⊢
  clear hxs
  generalize l.length = n at *
  have HS := hs.2
  have HX := Lib.hid hxl; have HX1 := Lib.hid hx1; clear hs hxl hx1
  have hb1 : 0 + n ≤ maxLen := by simp only [maxLen]; omega
  have hb2 : (0 + n) * 1 ≤ 140737488355328 := by omega
  rcases A with _ | ad
  · have hn0 : n = 0 := by
      rcases Nat.eq_zero_or_pos n with h0 | h0
      · exact h0
      · obtain ⟨ad, e, _⟩ := HS h0; cases e
    subst hn0
    obtain rfl : xs = [] := List.eq_nil_of_length_eq_zero HX.out
    go_enter Tryz.func37, Tryz.ntmps37
    go_wp2
    go_ret
    exact ⟨_, rfl, World.ownsRow_nil _ _ _ _, Below.refl _ _⟩
  · have hz : w.heap.size ≤ (w.alloc (.cells #[] 5)).heap.size := by simp
    have HZ := Lib.hid hz; clear hz
    go_enter Tryz.func37, Tryz.ntmps37
    go_wp2_with (first
      | (at_builtin
         refine wpList_app _ rfl (.tmp 5) (.tmp 6) 29 rfl w.heap.size 5 i0 _ 1 1 Tryz.underlying29 hi0 hz0 hz1 hz2 rfl (Nat.succ_pos _) _ 0 [] rfl (World.ownsRow_lit w #[] 0 (Nat.le_refl _) (Nat.zero_le _) rfl) (some ad) n c xs rfl (HX.out.trans (Nat.mul_one _).symm) (HS.below ((Below.refl _ _).alloc (Nat.le_refl _) _)) HX1.out hb1 hb2 HZ.out ?_
         intro v' w1 hown hg))
    go_ret
    refine ⟨_, rfl, by simpa using hown, ?_⟩
    refine bl_grown ((Below.refl _ _).alloc (Nat.le_refl _) _) hg ?_
    intro k hk
    simp [Act.eval, Value.ownBlock] at hk
    omega
theorem bclone (lo : Nat) (v : Value) (l : List UInt8) (w : World) (h : Bs lo w.heap.size w v l) (hL : l.length ≤ 1000000) :
    Calls Tryz.prog 37 #[v] w fun e w' => ∃ A' c', e = .returned (.slice A' l.length c') ∧ w'.ownsRow w.heap.size 5 1 (.slice A' l.length c') l.length (l.map u8v) ∧ Below w.heap.size w w' :=
  (bclone0 lo v l w h hL).mono fun e w' ⟨v', he, ho, hb⟩ => by
    obtain ⟨A', c', rfl⟩ := ownsRow_form ho
    exact ⟨A', c', he, ho, hb⟩
set_option maxHeartbeats 1000000 in
theorem grow_any (n : Nat) (w : World) (h0 : 0 < n) (hn : n ≤ 1000000) :
    Calls Tryz.prog 38 #[.slice none 0 0, .int .i64 n] w fun e w' => ∃ A c, e = .returned (.slice A 0 c) ∧ w'.ownsRow w.heap.size 5 1 (.slice A 0 c) 0 [] ∧ Below w.heap.size w w' := by
  obtain ⟨i0, hi0, hz0, hz1, hz2⟩ := info_parts info5
  have hrun := fun W => Lib.run_append_nil_zeros (P := Tryz.prog) W 29 3 29 5 i0 _ .i64 .i64 Tryz.underlying29 Tryz.underlying3 hi0 hz0 n h0 (by rw [hz1]; omega) (by omega) (by rw [hz2]; omega)
  have hge := grownCap_ge w n 0 5
  have hle := grownCap_le_maxLen w n 0 5 (by simp [maxLen]; omega)
  have y0 : (0 : Int) < (n : Int) := by omega
  have y1 : (0 : Int) ≤ (n : Int) := by omega
  replace hrun := hide hrun
  go_enter Tryz.func38, Tryz.ntmps38
  go_wp2_with (first
    | (at_builtin
       refine Lib.wpList_append_run _ rfl (.tmp 20) (.tmp 21) 29 3 rfl _ _ rfl rfl _ _ (unhide hrun _) ?_)
    | fail)
  go_ret
  refine ⟨_, _, rfl, own_drew (own_fresh _ _ _ 5 1 _ _ rfl (Nat.le_refl _) hle ?_), by (repeat (first | with_reducible exact Below.refl _ _ | with_reducible assumption | with_reducible refine Below.drew ?_ | with_reducible refine bl_alloc ?_ _ | with_reducible refine bl_call ?_ (by assumption) | (focus (with_reducible refine Below.setCell ?_ ?_ _; rotate_left; focus (first | omega | (simp <;> omega)))) | fail))⟩
  simp [Builtin.zeroCells]
  omega
def Lists (lo : Nat) (w : World) (g : Nat) (Ls : List (List UInt8)) : Prop :=
  ∀ k (hk : k < Ls.length), ∃ A c, w.cell? ⟨g, k, none⟩ = some (.slice A Ls[k].length c) ∧ Bs lo w.heap.size w (.slice A Ls[k].length c) Ls[k]
theorem take_flat {Ls : List (List UInt8)} {k : Nat} (hk : k < Ls.length) : (Ls.take (k + 1)).flatten = (Ls.take k).flatten ++ Ls[k] := by
  have h : Ls.take (k + 1) = Ls.take k ++ [Ls[k]] := by
    rw [List.take_add_one, List.getElem?_eq_getElem hk]; rfl
  rw [h, List.flatten_append, List.flatten_singleton]
def upto (Ls : List (List UInt8)) (k : Nat) : Nat := (Ls.take k).flatten.length
theorem upto_succ {Ls : List (List UInt8)} {k : Nat} (hk : k < Ls.length) : upto Ls (k + 1) = upto Ls k + Ls[k].length := by
  unfold upto; rw [take_flat hk, List.length_append]
def cat (Ls : List (List UInt8)) (k : Nat) : List UInt8 := (Ls.take k).flatten
theorem cat_succ {Ls : List (List UInt8)} {k : Nat} (hk : k < Ls.length) : cat Ls (k + 1) = cat Ls k ++ Ls[k] := take_flat hk
theorem upto_cat (Ls : List (List UInt8)) (k : Nat) : (cat Ls k).length = upto Ls k := rfl
theorem flat_le (Ls : List (List UInt8)) (k : Nat) : upto Ls k ≤ upto Ls Ls.length := by
  unfold upto
  rw [List.take_length]
  have h : Ls.flatten = (Ls.take k).flatten ++ (Ls.drop k).flatten := by rw [← List.flatten_append, List.take_append_drop]
  rw [h]; simp
set_option maxHeartbeats 2000000 in
theorem concat_any (lo g : Nat) (Ls : List (List UInt8)) (w : World) (h : Lists lo w g Ls) (hg : g < w.heap.size) (hn : Ls.length ≤ 1000) (h0 : 0 < upto Ls Ls.length) (hL : upto Ls Ls.length ≤ 1000000) :
    Calls Tryz.prog 20 #[.slice (some ⟨g, 0, none⟩) Ls.length Ls.length] w fun e w' => ∃ A c, e = .returned (.slice A (upto Ls Ls.length) c) ∧ w'.ownsRow w.heap.size 5 1 (.slice A (upto Ls Ls.length) c) (upto Ls Ls.length) ((cat Ls Ls.length).map u8v) ∧ Below w.heap.size w w' := by
  obtain ⟨i0, hi0, hz0, hz1, hz2⟩ := info_parts info5
  obtain ⟨n, hn'⟩ : ∃ n, n = Ls.length := ⟨_, rfl⟩
  have hfl := flat_le Ls
  have hgrow := fun W => grow_any (upto Ls Ls.length) W h0 hL
  rw [← hn'] at hfl hgrow hL h0 ⊢
  replace h := hide h; replace hn' := hide hn'; replace hfl := hide hfl; replace hgrow := hide hgrow
  have hn2 : n ≤ 1000 := by rw [unhide hn']; exact hn
  clear hn
  go_enter Tryz.func20, Tryz.ntmps20
  go_wp2_with fail
  go_loopw [3, 11] (fun s3 s11 wr => ∃ k : Nat, k ≤ n ∧ s11 = .int .i64 k ∧ s3 = .int .i64 (upto Ls k : Nat) ∧ w = wr) (fun _ i _ => n - (intOf i).toNat)
  case atStart => exact ⟨0, by omega, rfl, rfl, rfl⟩
  case round =>
    obtain ⟨k, hk, rfl, rfl, rfl⟩ := hrel
    by_cases hlt : k < n
    · have hlt' : k < Ls.length := by rw [← unhide hn']; exact hlt
      obtain ⟨A, c, hc, _⟩ := unhide h k hlt'
      have ha : upto Ls (k + 1) = upto Ls k + Ls[k].length := upto_succ hlt'
      have hb := unhide hfl (k + 1)
      rw [ha] at hb
      generalize ha1 : upto Ls k = a at *
      generalize Ls[k].length = b at *
      replace ha := hide ha
      have w1 : (0 : Int) ≤ (a : Int) + (b : Int) := by omega
      have w2 : (a : Int) + (b : Int) ≤ 1000000 := by omega
      go_wp2_with fail
      go_roundw
      case rel => exact ⟨k + 1, by omega, by go_num, by rw [unhide ha]; go_num, by simp⟩
      case measure => simp [intOf]; omega
    · obtain rfl : k = n := by omega
      have hgz : Hid (g < w.heap.size) := hg
      go_wp2_with (go_at_call 38; refine (unhide hgrow _).mono ?_; rintro e w1 ⟨A1, c1, rfl, hown, hb1⟩)
      replace hown := hide hown; replace hb1 := hide hb1
      go_loopw [6, 27] (fun s6 s27 wx => ∃ (j : Nat) (A2 : Option Addr) (c2 : Nat), j ≤ k ∧ s27 = .int .i64 j ∧ s6 = .slice A2 (upto Ls j) c2 ∧ Hid (wx.ownsRow w.heap.size 5 1 (.slice A2 (upto Ls j) c2) (upto Ls j) ((cat Ls j).map u8v)) ∧ Hid (Below w.heap.size w wx)) (fun _ i _ => k - (intOf i).toNat)
      case atStart => exact ⟨0, A1, c1, by omega, rfl, rfl, hide (unhide hown), hb1⟩
      case round =>
        obtain ⟨j, A2, c2, hj, rfl, rfl, o2, b2⟩ := hrel
        by_cases hlt2 : j < k
        · have hlt' : j < Ls.length := by rw [← unhide hn']; exact hlt2
          obtain ⟨A, c, hc, hx⟩ := unhide h j hlt'
          have ha : cat Ls (j + 1) = cat Ls j ++ Ls[j] := cat_succ hlt'
          have ha' : upto Ls (j + 1) = upto Ls j + Ls[j].length := upto_succ hlt'
          have hb := unhide hfl (j + 1)
          rw [ha'] at hb
          have hsrc := SrcOk.below hx.src.2 (unhide b2)
          have hc' := ((unhide b2).cell (p := ⟨g, j, none⟩) hg).trans hc
          have hgx : g < wr.heap.size := Nat.lt_of_lt_of_le hg (unhide b2).size
          have hnl : (Ls[j].map u8v).length = Ls[j].length * 1 := by simp
          have hno := u8s_one Ls[j]
          have hsz := (unhide b2).size
          generalize Ls[j] = N at *
          generalize upto Ls j = m at *
          have u1 : m + N.length ≤ maxLen := by simp only [maxLen]; omega
          have u2 : (m + N.length) * 1 ≤ 140737488355328 := by omega
          replace ha := hide ha; replace hsrc := hide hsrc; replace hnl := hide hnl; replace hno := hide hno; replace u1 := hide u1; replace u2 := hide u2; replace hb := hide hb
          replace ha' := hide ha'
          clear hc hx
          go_wp2_with (first
            | (at_builtin
               refine wpList_app _ rfl (.tmp 31) (.tmp 32) 29 rfl w.heap.size 5 i0 _ 1 1 Tryz.underlying29 hi0 hz0 hz1 hz2 rfl (Nat.succ_pos _) _ m ((cat Ls j).map u8v) rfl (unhide o2) A N.length c (N.map u8v) rfl (unhide hnl) (unhide hsrc) (unhide hno) (unhide u1) (unhide u2) hsz ?_
               intro v' w2 hown2 hg2
               obtain ⟨A3, c3, rfl⟩ := ownsRow_form hown2))
          have hal : (cat Ls j).map u8v ++ N.map u8v = (cat Ls (j + 1)).map u8v := by rw [unhide ha, List.map_append]
          rw [hal, ← unhide ha'] at hown2
          go_roundw
          case rel => exact ⟨j + 1, A3, c3, by omega, by go_num, by rw [unhide ha'], hide hown2, hide (bl_grown (unhide b2) hg2 (own_base (unhide o2)))⟩
          case measure => simp [intOf]; omega
        · obtain rfl : j = k := by omega
          go_wp2_with fail
          go_ret
          exact ⟨A2, c2, rfl, unhide o2, unhide b2⟩
end Go.Proofs.YthkccpemgmpadaaGreatDoor

namespace Go.Proofs.YthkccpemgmpadaaGreatDoor
set_option maxRecDepth 100000
open Go.RowKit
def n64 (x : Nx) : Int := (x.toNat : Int)
abbrev u64v (x : Nx) : Value := .int .u64 (n64 x)
theorem n64_lit (n : Nat) (h : n < 18446744073709551616) : (n : Int) = n64 (BitVec.ofNat 64 n) := by
  unfold n64
  rw [BitVec.toNat_ofNat, Nat.mod_eq_of_lt (by omega)]
theorem n64_inj {x y : Nx} (h : n64 x = n64 y) : x = y := by
  unfold n64 at h
  exact BitVec.eq_of_toNat_eq (by omega)
section
variable (x y : Nx) (c : UInt8)
theorem ofInt_nx : BitVec.ofInt IntKind.u64.bits (n64 x) = x := by
  show BitVec.ofInt 64 (x.toNat : Int) = x
  rw [BitVec.ofInt_natCast, BitVec.ofNat_toNat, BitVec.setWidth_eq]
theorem wrap_nx : IntKind.u64.wrap ((x.toNat : Nat) : Int) = n64 x := by
  unfold n64
  have := x.isLt
  rw [IntKind.wrap_u64]
  omega
theorem q_or : bits .or .u64 (n64 x) (n64 y) = n64 (x ||| y) := by
  show IntKind.u64.wrap _ = _
  rw [ofInt_nx, ofInt_nx]
  exact wrap_nx (x ||| y)
theorem q_add : (n64 x + n64 y) % (18446744073709551616 : Int) = n64 (x + y) := by
  unfold n64
  rw [BitVec.toNat_add]
  omega
theorem q_add1 : (n64 x + (1 : Int)) % (18446744073709551616 : Int) = n64 (x + 1#64) := q_add x 1#64
theorem q_mul : (n64 x * n64 y) % (18446744073709551616 : Int) = n64 (x * y) := by
  unfold n64
  rw [BitVec.toNat_mul, ← Int.natCast_mul]
  generalize x.toNat * y.toNat = z
  omega
theorem q_mul256 : ((256 : Int) * n64 y) % (18446744073709551616 : Int) = n64 (256#64 * y) := q_mul 256#64 y
theorem q_shr8 : n64 x / (256 : Int) = n64 (x >>> 8) := by
  unfold n64
  rw [BitVec.toNat_ushiftRight, Nat.shiftRight_eq_div_pow]
  omega
theorem q_conv : n8 c % (18446744073709551616 : Int) = n64 (oc8 c) := by
  have := c.toNat_lt
  unfold n8 n64
  simp [oc8]
  omega
theorem q_low : n64 x % (256 : Int) = n8 (⟨x.setWidth 8⟩ : UInt8) := by
  unfold n8 n64
  show _ = ((x.setWidth 8).toNat : Int)
  rw [BitVec.toNat_setWidth]
  omega
theorem q_tm : (n64 x).tmod (256 : Int) = n8 (⟨x.setWidth 8⟩ : UInt8) := by
  rw [Int.tmod_eq_emod_of_nonneg (by unfold n64; omega)]; exact q_low x
theorem q_td : (n64 x).tdiv (256 : Int) = n64 (x >>> 8) := by
  rw [Int.tdiv_eq_ediv_of_nonneg (by unfold n64; omega)]; exact q_shr8 x
end
section
attribute [local go_sem] q_shr8 q_low
set_option maxHeartbeats 1000000 in
theorem octets_any (n : Nx) (w : World) : Calls Tryz.prog 60 #[u64v n] w fun e w' => ∃ v, e = .returned v ∧ OwnB w' w.heap.size v (eight n) ∧ Below w.heap.size w w' := by
  obtain ⟨i0, hi0, hz0, hz1, hz2⟩ := info_parts info5
  obtain ⟨cs, hcs, hmk⟩ := show ∃ cs : Array Value, cs.size = 8 * 1 ∧ (Instr.makeSlice 29 (.int .i64 0) (.int .i64 8)).run Tryz.prog w = .ok (.slice (some ⟨w.heap.size, 0, none⟩) 0 8) (w.alloc (.cells cs 5)) from mk8 8 (by omega) w
  have hown : OwnB (w.alloc (.cells cs 5)) w.heap.size (.slice (some ⟨w.heap.size, 0, none⟩) 0 8) (eightK n 0) := own_fresh w _ _ 5 1 8 cs rfl (Nat.le_refl _) (by simp [maxLen]) hcs
  have hb : Below w.heap.size w (w.alloc (.cells cs 5)) := bl_alloc (Below.refl _ _) _
  have ho := fun x => u8s_one [x]
  have hz := shrK_zero n
  replace hown := hide hown; replace hb := hide hb; replace hcs := hide hcs; replace ho := hide ho; replace hz := hide hz
  go_enter Tryz.func60, Tryz.ntmps60
  go_upto_region 2 with (fail)
  generalize hW1 : World.alloc w _ = W1 at *
  clear hW1 hmk
  go_wp2
  go_loopw [0, 3, 5] (fun s v i wr => ∃ k : Nat, k ≤ 8 ∧ s = u64v (shrK n k) ∧ i = .int .i64 k ∧ (∃ A c, v = .slice A k c) ∧ Hid (OwnB wr w.heap.size v (eightK n k)) ∧ Hid (Below w.heap.size w wr)) (fun _ _ i _ => 8 - (intOf i).toNat)
  case atStart => exact ⟨0, by omega, by rw [unhide hz], rfl, ⟨_, _, rfl⟩, hown, hb⟩
  case round =>
    obtain ⟨k, hk, rfl, rfl, ⟨A, c, rfl⟩, o, b⟩ := hrel
    by_cases hlt : k < 8
    · have k1 : (k : Int) < 8 := by omega
      have hl := eightK_len n k
      have o' : wr.ownsRow w.heap.size 5 1 (.slice A k c) k ((eightK n k).map u8v) := by have := unhide o; unfold OwnB at this; rw [hl] at this; exact this
      have hs := shrK_succ n k
      have hn : eightK n k ++ [(⟨(shrK n k).setWidth 8⟩ : UInt8)] = eightK n (k + 1) := rfl
      have hl1 := eightK_len n (k + 1)
      have b3 : k + 1 ≤ maxLen := by simp only [maxLen]; omega
      have b4 : (k + 1) * 1 ≤ 140737488355328 := by omega
      have hsz := (unhide b).size
      generalize shrK n k = q at *
      replace o' := hide o'; replace hs := hide hs; replace hn := hide hn; replace hl1 := hide hl1; replace b3 := hide b3; replace b4 := hide b4; replace hsz := hide hsz
      clear o hl
      go_wp2_with (first
        | (at_builtin
           simp only [q_low]
           refine wpList_app _ rfl (.tmp 7) (.tmp 10) 29 rfl w.heap.size 5 i0 _ 1 1 Tryz.underlying29 hi0 hz0 hz1 hz2 rfl (Nat.succ_pos _) _ k ((eightK n k).map u8v) rfl ((unhide o').alloc _) (some ⟨wr.heap.size, 0, none⟩) 1 1 (([(⟨q.setWidth 8⟩ : UInt8)] : List UInt8).map u8v) rfl rfl (one_src wr _) (unhide ho _) (unhide b3) (unhide b4) (le_alloc (unhide hsz)) ?_
           intro v4 w4 hown4 hg4
           have hb4 : Below w.heap.size w w4 := (unhide b).trans (bl_app (unhide hsz) (unhide o') hg4)
           obtain ⟨A4, c4, rfl⟩ := ownsRow_form hown4
           rw [← List.map_append, unhide hn] at hown4
           clear hg4
           replace hown4 := hide hown4; replace hb4 := hide hb4)
        | fail)
      go_roundw
      case rel => exact ⟨k + 1, by omega, by rw [unhide hs], by go_num, ⟨_, _, rfl⟩, by unfold OwnB; rw [unhide hl1]; exact hown4, hb4⟩
      case measure => simp [intOf]; omega
    · obtain rfl : k = 8 := by omega
      have he := eightK_all n
      replace he := hide he
      go_wp2
      go_ret
      exact ⟨_, rfl, by rw [← unhide he]; exact unhide o, unhide b⟩
end
end Go.Proofs.YthkccpemgmpadaaGreatDoor

namespace Go.Proofs.YthkccpemgmpadaaGreatDoor
set_option maxRecDepth 100000
open Go.RowKit
theorem q_wrap (x : Nx) : IntKind.u64.wrap (n64 x) = n64 x := wrap_nx x
theorem q_shl (x : Nx) (k : Nat) : IntKind.u64.wrap (n64 x * 2 ^ k) = n64 (x <<< k) := by
  rw [IntKind.wrap_u64]
  unfold n64
  rw [BitVec.toNat_shiftLeft, Nat.shiftLeft_eq]
  have : ((x.toNat : Int) * 2 ^ k) = ((x.toNat * 2 ^ k : Nat) : Int) := by rw [Int.natCast_mul, Int.natCast_pow]; rfl
  rw [this]
  omega
theorem q_put (p : Nx) (c : UInt8) (k : Nat) : bits .or .u64 (n64 p) (IntKind.u64.wrap (IntKind.u64.wrap (n8 c) * 2 ^ k)) = n64 (p ||| oc8 c <<< k) := by
  have h : IntKind.u64.wrap (n8 c) = n64 (oc8 c) := by rw [IntKind.wrap_u64]; exact q_conv c
  rw [h, q_shl, q_or]
section
attribute [local go_sem] q_tm q_td q_low q_conv q_or
set_option maxHeartbeats 400000 in
theorem number8_any (lo hi : Nat) (v : Value) (l : List UInt8) (w : World) (h : Bs lo hi w v l) (hl : l.length = 8) : Calls Tryz.prog 72 #[v] w fun e w' => e = .returned (u64v (of8 l)) ∧ w = w' := by
  obtain ⟨A, c, rfl, h1, h2, h3⟩ := h
  obtain ⟨b, off, rfl, hb, hb', hc⟩ := h3 (by omega)
  have hz : numK l 0 = 0#64 := rfl
  have he := numK_all l
  have hs : ∀ k, numK l (k + 1) = numK l k ||| oc8 (l.getD k 0) <<< (8 * k) := fun _ => rfl
  have hx : ∀ k, k < 8 → w.cell? ⟨b, off + k, none⟩ = some (u8v (l.getD k 0)) := fun k hk => by rw [hc k (by omega)]; simp [List.getD_eq_getElem?_getD, show k < l.length by omega]
  replace hx := hide hx; replace hs := hide hs; replace he := hide he; replace hz := hide hz
  clear hc h3
  rw [hl] at h1 ⊢
  clear hl
  go_enter Tryz.func72, Tryz.ntmps72
  go_wp2
  go_loopw [3, 4, 5, 8] (fun s _ _ i wr => ∃ k : Nat, k ≤ 8 ∧ s = u64v (numK l k) ∧ i = .int .i64 k ∧ w = wr) (fun _ _ _ i _ => 8 - (intOf i).toNat)
  case atStart => exact ⟨0, by omega, by rw [unhide hz]; rfl, rfl, rfl⟩
  case round =>
    obtain ⟨k, hk, rfl, rfl, rfl⟩ := hrel
    by_cases hlt : k < 8
    · have k1 : (k : Int) < 8 := by omega
      have hxk := unhide hx k hlt
      have hsk := unhide hs k
      generalize l.getD k 0 = q at *
      generalize numK l k = p at *
      replace hsk := hide hsk
      go_wp2_with (fail)
      go_roundw
      case rel => exact ⟨k + 1, by omega, by rw [unhide hsk, q_put], by go_num, trivial⟩
      case measure => simp [intOf]; omega
    · obtain rfl : k = 8 := by omega
      go_wp2
      go_ret
      exact ⟨by simp [unhide he], rfl⟩
set_option maxHeartbeats 1000000 in
theorem eightR_any (n : Nx) (w : World) : Calls Tryz.prog 66 #[u64v n] w fun e w' => ∃ v, e = .returned v ∧ OwnB w' w.heap.size v (eight n) ∧ Below w.heap.size w w' := by
  obtain ⟨i0, hi0, hz0, hz1, hz2⟩ := info_parts info5
  have hown : OwnB w w.heap.size (.slice none 0 0) (eightK n 0) := World.ownsRow_nil _ _ _ _
  have hb : Below w.heap.size w w := Below.refl _ _
  have ho := fun x => u8s_one [x]
  have hz := shrK_zero n
  replace hown := hide hown; replace hb := hide hb; replace ho := hide ho; replace hz := hide hz
  go_enter Tryz.func66, Tryz.ntmps66
  go_wp2
  go_loopw [0, 3, 4] (fun s v i wr => ∃ k : Nat, k ≤ 8 ∧ s = u64v (shrK n k) ∧ i = .int .i64 k ∧ (∃ A c, v = .slice A k c) ∧ Hid (OwnB wr w.heap.size v (eightK n k)) ∧ Hid (Below w.heap.size w wr)) (fun _ _ i _ => 8 - (intOf i).toNat)
  case atStart => exact ⟨0, by omega, by rw [unhide hz], rfl, ⟨_, _, rfl⟩, hown, hb⟩
  case round =>
    obtain ⟨k, hk, rfl, rfl, ⟨A, c, rfl⟩, o, b⟩ := hrel
    by_cases hlt : k < 8
    · have k1 : (k : Int) < 8 := by omega
      have hl := eightK_len n k
      have o' : wr.ownsRow w.heap.size 5 1 (.slice A k c) k ((eightK n k).map u8v) := by have := unhide o; unfold OwnB at this; rw [hl] at this; exact this
      have hs := shrK_succ n k
      have hn : eightK n k ++ [(⟨(shrK n k).setWidth 8⟩ : UInt8)] = eightK n (k + 1) := rfl
      have hl1 := eightK_len n (k + 1)
      have b3 : k + 1 ≤ maxLen := by simp only [maxLen]; omega
      have b4 : (k + 1) * 1 ≤ 140737488355328 := by omega
      have hsz := (unhide b).size
      generalize shrK n k = q at *
      replace o' := hide o'; replace hs := hide hs; replace hn := hide hn; replace hl1 := hide hl1; replace b3 := hide b3; replace b4 := hide b4; replace hsz := hide hsz
      clear o hl
      go_wp2_with (first
        | (at_builtin
           simp only [r_small]
           refine wpList_app _ rfl (.tmp 6) (.tmp 10) 29 rfl w.heap.size 5 i0 _ 1 1 Tryz.underlying29 hi0 hz0 hz1 hz2 rfl (Nat.succ_pos _) _ k ((eightK n k).map u8v) rfl ((unhide o').alloc _) (some ⟨wr.heap.size, 0, none⟩) 1 1 (([(⟨q.setWidth 8⟩ : UInt8)] : List UInt8).map u8v) rfl rfl (one_src wr _) (unhide ho _) (unhide b3) (unhide b4) (le_alloc (unhide hsz)) ?_
           intro v4 w4 hown4 hg4
           have hb4 : Below w.heap.size w w4 := (unhide b).trans (bl_app (unhide hsz) (unhide o') hg4)
           obtain ⟨A4, c4, rfl⟩ := ownsRow_form hown4
           rw [← List.map_append, unhide hn] at hown4
           clear hg4
           replace hown4 := hide hown4; replace hb4 := hide hb4)
        | fail)
      go_roundw
      case rel => exact ⟨k + 1, by omega, by rw [unhide hs, q_wrap], by go_num, ⟨_, _, rfl⟩, by unfold OwnB; rw [unhide hl1]; exact hown4, hb4⟩
      case measure => simp [intOf]; omega
    · obtain rfl : k = 8 := by omega
      have he := eightK_all n
      replace he := hide he
      go_wp2
      go_ret
      exact ⟨_, rfl, by rw [← unhide he]; exact unhide o, unhide b⟩
end
end Go.Proofs.YthkccpemgmpadaaGreatDoor

namespace Go.Proofs.YthkccpemgmpadaaGreatDoor
set_option maxRecDepth 100000
open Go.RowKit
theorem Bs.to {lo : Nat} {w w' : World} {v : Value} {l : List UInt8} (h : Bs lo w.heap.size w v l) (hb : Below w.heap.size w w') : Bs lo w'.heap.size w' v l := (h.below hb (Nat.le_refl _)).mono (Nat.le_refl _) hb.size
theorem Bs.form {lo hi : Nat} {w : World} {v : Value} {l : List UInt8} (h : Bs lo hi w v l) : ∃ A c, v = .slice A l.length c := by obtain ⟨A, c, e, _⟩ := h; exact ⟨A, c, e⟩
theorem Bs.of_own0 {base : Nat} {w : World} {v : Value} {l : List UInt8} (h : OwnB w base v l) : Bs 0 w.heap.size w v l := (Bs.of_own h).mono (Nat.zero_le _) (Nat.le_refl _)
theorem concat2 (v1 v2 : Value) (l1 l2 : List UInt8) (W : World) (h1 : Bs 0 W.heap.size W v1 l1) (h2 : Bs 0 W.heap.size W v2 l2) (h0 : 0 < (l1 ++ l2).length) (hL : (l1 ++ l2).length ≤ 1000000) :
    Calls Tryz.prog 20 #[.slice (some ⟨W.heap.size, 0, none⟩) 2 2] (W.alloc (.cells #[v1, v2] 29)) fun e w' => ∃ A c, e = .returned (.slice A (l1 ++ l2).length c) ∧ OwnB w' W.heap.size (.slice A (l1 ++ l2).length c) (l1 ++ l2) ∧ Below W.heap.size W w' := by
  have hB : Blk (W.alloc (.cells #[v1, v2] 29)) W.heap.size 29 #[v1, v2] := Blk.new rfl
  have hb : Below W.heap.size W (W.alloc (.cells #[v1, v2] 29)) := bl_alloc (Below.refl _ _) _
  obtain ⟨A1, c1, rfl⟩ := h1.form
  obtain ⟨A2, c2, rfl⟩ := h2.form
  have hLs : Lists 0 (W.alloc (.cells #[.slice A1 l1.length c1, .slice A2 l2.length c2] 29)) W.heap.size [l1, l2] := by
    intro k hk
    match k, hk with
    | 0, _ => exact ⟨A1, c1, hB.cell 0, h1.to hb⟩
    | 1, _ => exact ⟨A2, c2, hB.cell 1, h2.to hb⟩
  have e1 : cat [l1, l2] 2 = l1 ++ l2 := by simp [cat]
  have e2 : upto [l1, l2] 2 = (l1 ++ l2).length := by rw [← upto_cat, e1]
  have h := concat_any 0 W.heap.size [l1, l2] _ hLs (by simp) (by simp) (by show 0 < upto [l1, l2] 2; omega) (by show upto [l1, l2] 2 ≤ _; omega)
  have e3 : [l1, l2].length = 2 := rfl
  rw [e3, e2, e1] at h
  refine h.mono ?_
  rintro e w' ⟨A, c, rfl, ho, hb'⟩
  exact ⟨A, c, rfl, ownsRow_mono ho hb.size, bl_call hb hb'⟩
set_option maxHeartbeats 1000000 in
theorem behind_any (s : St) (vt va : Value) (t a : List UInt8) (w : World) (ht : Tab w) (h1 : Bs 0 w.heap.size w va a) (h2 : Bs 0 w.heap.size w vt t) (h0 : 0 < a.length) (hL : (a ++ t).length ≤ 131072) :
    Calls Tryz.prog 95 #[stV s, vt, va] w fun e w' => e = .returned (.tuple #[stV (absorbF s (a ++ t)), .int .i64 0]) ∧ Below w.heap.size w w' := by
  have hB : Blk ((w.alloc (.cells (stC s) 24)).alloc (.cells zC 24)) w.heap.size 24 (stC s) := Blk.alloc (Blk.new rfl) _
  have hZ : Blk ((w.alloc (.cells (stC s) 24)).alloc (.cells zC 24)) (w.heap.size + 1) 24 zC := Blk.new (by simp)
  have hb : Below w.heap.size w ((w.alloc (.cells (stC s) 24)).alloc (.cells zC 24)) := bl_alloc (bl_alloc (Below.refl _ _) _) _
  have hc := fun W (hb : Below w.heap.size w W) => concat2 va vt a t W (h1.to hb) (h2.to hb) (by rw [List.length_append]; omega) (by omega)
  have hq := fun v W (hb : Below w.heap.size w W) (h : Bs 0 W.heap.size W v (a ++ t)) => Absorb_good 0 s v _ W (ht.below hb (Nat.le_refl _)) h hL
  obtain ⟨A1, c1, rfl⟩ := h1.form
  obtain ⟨A2, c2, rfl⟩ := h2.form
  obtain ⟨S', hS'⟩ : ∃ S', S' = absorbF s (a ++ t) := ⟨_, rfl⟩
  rw [← hS']
  rw [← hS'] at hq
  generalize a ++ t = l at *
  replace hB := hide hB; replace hZ := hide hZ; replace hb := hide hb; replace hc := hide hc; replace hq := hide hq; replace hS' := hide hS'
  clear h1 h2 h0 hL
  go_enter Tryz.func95, Tryz.ntmps95
  go_upto_region 1 with (fail)
  generalize hW : World.alloc (World.alloc w _) _ = W at *
  clear hW
  have l0 := (unhide hB).lt
  have l1 := (unhide hZ).lt
  have c0 : W.cell? ⟨w.heap.size, 0, none⟩ = some (u32v s.a) := (unhide hB).cell 0
  have c1' : W.cell? ⟨w.heap.size, 1, none⟩ = some (u32v s.b) := (unhide hB).cell 1
  have c2' : W.cell? ⟨w.heap.size, 2, none⟩ = some (u32v s.c) := (unhide hB).cell 2
  have c3 : W.cell? ⟨w.heap.size, 3, none⟩ = some (u32v s.d) := (unhide hB).cell 3
  go_region_law (first
    | (go_simp; go_at_call 20; refine (unhide hc _ (unhide hb).drew).mono ?_; rintro e w5 ⟨A5, c5, rfl, o5, hb5⟩
       have B5 : Blk w5 w.heap.size 24 (stC s) := Blk.below ((unhide hB).drew) hb5 l0
       have Z5 : Blk w5 (w.heap.size + 1) 24 zC := Blk.below ((unhide hZ).drew) hb5 l1
       have b5 : Below w.heap.size w w5 := bl_call (unhide hb).drew hb5
       have p0 : w5.cell? ⟨w.heap.size, 0, none⟩ = some (u32v s.a) := B5.cell 0
       have p1 : w5.cell? ⟨w.heap.size, 1, none⟩ = some (u32v s.b) := B5.cell 1
       have p2 : w5.cell? ⟨w.heap.size, 2, none⟩ = some (u32v s.c) := B5.cell 2
       have p3 : w5.cell? ⟨w.heap.size, 3, none⟩ = some (u32v s.d) := B5.cell 3
       have l5 := Z5.lt
       have x5 := Bs.of_own0 o5
       replace B5 := hide B5; replace Z5 := hide Z5; replace b5 := hide b5; replace x5 := hide x5
       clear o5 hb5)
    | (go_simp; go_at_call 124; refine (unhide hq _ _ (unhide b5) (unhide x5)).mono ?_; rintro e w7 ⟨rfl, hb7⟩
       have Z7 : Blk w7 (w.heap.size + 1) 24 zC := Blk.below (unhide Z5) hb7 l5
       have bb : Below w.heap.size w w7 := bl_call (unhide b5) hb7
       have d0 : w7.cell? ⟨w.heap.size + 1, 0, none⟩ = some (.int .u32 0) := Z7.cell 0
       have d1 : w7.cell? ⟨w.heap.size + 1, 1, none⟩ = some (.int .u32 0) := Z7.cell 1
       have d2 : w7.cell? ⟨w.heap.size + 1, 2, none⟩ = some (.int .u32 0) := Z7.cell 2
       have d3 : w7.cell? ⟨w.heap.size + 1, 3, none⟩ = some (.int .u32 0) := Z7.cell 3
       have f0 : w7.frozen? ⟨w.heap.size + 1, 0, none⟩ = false := Z7.frozen 0
       have f1 : w7.frozen? ⟨w.heap.size + 1, 1, none⟩ = false := Z7.frozen 1
       have f2 : w7.frozen? ⟨w.heap.size + 1, 2, none⟩ = false := Z7.frozen 2
       have f3 : w7.frozen? ⟨w.heap.size + 1, 3, none⟩ = false := Z7.frozen 3
       replace Z7 := hide Z7; replace bb := hide bb))
  all_goals
    have Z8 : Blk _ (w.heap.size + 1) 24 (stC S') := Blk.set4 (x := u32v S'.a) (y := u32v S'.b) (z := u32v S'.c) (u := u32v S'.d) (unhide Z7)
    have bb8 : Below w.heap.size w _ := below_set4 (g := w.heap.size + 1) (x := u32v S'.a) (y := u32v S'.b) (z := u32v S'.c) (u := u32v S'.d) (unhide bb) (by omega)
    replace Z8 := hide Z8; replace bb8 := hide bb8
    go_wp2_with (fail)
    exact ret_st2 rfl (w.heap.size + 1) S' (.int .i64 0) rfl rfl (unhide Z8) rfl ⟨by rw [unhide hS'], unhide bb8⟩
end Go.Proofs.YthkccpemgmpadaaGreatDoor
