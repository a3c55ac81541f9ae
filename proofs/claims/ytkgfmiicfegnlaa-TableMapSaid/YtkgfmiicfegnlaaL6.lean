import Derived.Test.YtkgfmiicfegnlaaO2
namespace Go.Proofs.Ytkgfmiicfegnlaa
open Go.RowKit
attribute [local go_sem] bz_size bz_toList run_store_float
set_option maxRecDepth 100000

def nmAt (l : List (List UInt8)) (k : Nat) : List UInt8 := l.getD k []
theorem nmAt_get {l : List (List UInt8)} {k : Nat} (h : k < l.length) : nmAt l k = l[k] := by unfold nmAt; simp [List.getD, h]
def zAt (l : List Int) (k : Nat) : Int := l.getD k 0
theorem zAt_get {l : List Int} {k : Nat} (h : k < l.length) : zAt l k = l[k] := by unfold zAt; simp [List.getD, h]
/-- The first names may be. -/
def Good (l : List (List UInt8)) (k : Nat) : Prop := ∀ j, j < k → (nmAt l j).length ≤ 200 ∧ nameB (nmAt l j) = true
theorem good_succ {l : List (List UInt8)} {k : Nat} (h : Good l k) (h1 : (nmAt l k).length ≤ 200) (h2 : nameB (nmAt l k) = true) : Good l (k + 1) := fun j hj => by
  rcases Nat.lt_or_ge j k with h3 | h3
  · exact h j h3
  · rw [show j = k by omega]; exact ⟨h1, h2⟩
/-- What the table is behind so many steps. -/
structure TI (t : List Fl) (i : Nat) : Prop where
  tab : tabB t = true
  len : t.length ≤ i
  ln : ∀ f ∈ t, 1 ≤ f.ln
  sm : SmL t
theorem ti_nil : TI [] 0 := ⟨tab_nil, Nat.le_refl _, (fun _ h => by cases h), (fun _ h => by cases h)⟩
theorem TI.same {t : List Fl} {i : Nat} (h : TI t i) : TI t (i + 1) := ⟨h.tab, by have := h.len; omega, h.ln, h.sm⟩
theorem TI.put {t : List Fl} {i : Nat} (h : TI t i) {f : Fl} (hf : okF f = true) (hs : SmF f) (hl : 1 ≤ f.ln) (hi : i < 200) : TI (putF t f) (i + 1) :=
  ⟨tab_put h.tab hf (.inr (by have := h.len; omega)), by have := len_put_le (tab_up h.tab) f; have := h.len; omega, fun x hx => by
    rcases mem_put.1 hx with rfl | ⟨h1, _⟩
    · exact hl
    · exact h.ln x h1, sm_putF h.sm hs⟩
theorem TI.del {t : List Fl} {i : Nat} (h : TI t i) (p : List UInt8) : TI (delF t p) (i + 1) :=
  ⟨tab_del h.tab p, by have := len_del (tab_up h.tab) p; have := h.len; omega, fun x hx => h.ln x (mem_del.1 hx).1, sm_del h.sm p⟩
theorem TI.pos {t : List Fl} {i : Nat} (h : TI t i) {p : List UInt8} (hp : thereB t p = true) : 1 ≤ lnOf t p := by
  obtain ⟨x, hx, rfl⟩ := there_iff.1 hp
  rw [ln_mem (tab_up h.tab) hx]; exact h.ln x hx
theorem i64_wf_of {z : Int} (h : -9223372036854775808 ≤ z ∧ z ≤ 9223372036854775807) : (Lit.int .i64 z).wf = true := by
  have e1 : IntKind.i64.min = -9223372036854775808 := by decide
  have e2 : IntKind.i64.max = 9223372036854775807 := by decide
  simp only [Lit.wf, e1, e2]
  simpa using h
theorem ok_ln {f : Fl} (h : okF f = true) : 0 ≤ f.ln ∧ f.ln ≤ 65536 := by
  unfold okF upB at h
  simp at h
  omega
theorem ok_nm {f : Fl} {q : List UInt8} (h : okF f = true) (hq : nameB q = true) : okF (nmF f q) = true := by
  unfold okF at *
  simp only [nmF, Bool.and_eq_true] at *
  exact ⟨⟨⟨hq, h.1.1.2⟩, h.1.2⟩, h.2⟩
theorem del_none {t : List Fl} (h : Up t) {p : List UInt8} (hp : thereB t p = false) : delF t p = t := by
  refine up_ext (up_del h p) h fun x => ?_
  rw [mem_del]
  exact ⟨fun a => a.1, fun a => ⟨a, there_no.1 hp x a⟩⟩
theorem TI.mov {t : List Fl} {i : Nat} (h : TI t i) {p q : List UInt8} (hp : thereB t p = true) (hq : nameB q = true) (hl : q.length ≤ 200) (hi : i < 200) : TI (putF (delF t p) (nmF (nth t (posn t p)) q)) (i + 1) := by
  obtain ⟨h2, h3⟩ := posn_get (tab_up h.tab) hp
  have hm := nth_mem h2
  have hln := h.ln _ hm
  have hsm := h.sm _ hm
  have hok := tab_ok h.tab hm
  have h4 := len_del (tab_up h.tab) p
  rw [hp, if_pos rfl] at h4
  have h5 := h.len
  have h6 : TI (delF t p) i := ⟨tab_del h.tab p, by omega, fun x hx => h.ln x (mem_del.1 hx).1, sm_del h.sm p⟩
  exact h6.put (ok_nm hok hq) ⟨by show q.length ≤ 300; omega, hsm.2⟩ hln hi
def fOf (p : List UInt8) (z : Int) : Fl := ⟨p, 0, 0, 0, 0, z⟩

set_option maxHeartbeats 16000000 in
theorem TableMap_any (v v1 : Value) (names : List (List UInt8)) (l : List Int) (w : World) (h : Rd 1 stc 0 w.heap.size w v names) (h' : Rd 1 ivc 0 w.heap.size w v1 l) (hlb : ∀ x ∈ l, x ≤ 9223372036854775807) :
    Calls Try.prog 5 #[v, v1] w fun e w' => e = .returned (.bool true) ∧ Below w.heap.size w w' := by
  have hL := fun W => live_any W
  have hB : Below w.heap.size w w := Below.refl _ _
  have hN := h
  have hI := h'
  obtain ⟨A, c, rfl, h1, h2, h3⟩ := h
  obtain ⟨A1, c1, rfl, h1', h2', h3'⟩ := h'
  clear h3 h3' h2 h2'
  have hmm := @run_makeMap Try.prog
  obtain ⟨n, hn⟩ : ∃ n, n = names.length := ⟨_, rfl⟩
  obtain ⟨m, hm⟩ : ∃ n, n = l.length := ⟨_, rfl⟩
  rw [← hn] at hN h1
  rw [← hm] at hI h1'
  rw [← hn, ← hm]
  replace hn := hide hn; replace hm := hide hm; replace h1 := hide h1; replace h1' := hide h1'
  replace hL := hide hL; replace hB := hide hB; replace hN := hide hN; replace hI := hide hI
  by_cases n0 : n = 0
  · have d0 : ((n : Int) == 0) = true := by rw [beq_iff_eq]; omega
    clear n0
    have tk0 : True := trivial
    go_enter Try.func5, Try.ntmps5
    go_wp2_with (first
      | (have _t := tk0; clear tk0 _t; go_at_call 9; refine (unhide hL _).mono ?_; rintro ez wz0 ⟨rfl, bz0⟩; have szz0 := bz0.size; replace hB := hide ((unhide hB).trans (bz0.mono (unhide hB).size)); replace hN := hide ((unhide hN).grow bz0); replace hI := hide ((unhide hI).grow bz0); clear bz0)
      | fail)
    go_ret
    exact ⟨rfl, unhide hB⟩
  · have d0 : ((n : Int) == 0) = false := by rw [beq_eq_false_iff_ne]; omega
    by_cases n8 : 8 < n
    · have d8 : decide ((n : Int) > 8) = true := decide_eq_true (by omega)
      have tk0 : True := trivial
      go_enter Try.func5, Try.ntmps5
      go_wp2_with (first
        | (have _t := tk0; clear tk0 _t; go_at_call 9; refine (unhide hL _).mono ?_; rintro ez wz0 ⟨rfl, bz0⟩; have szz0 := bz0.size; replace hB := hide ((unhide hB).trans (bz0.mono (unhide hB).size)); replace hN := hide ((unhide hN).grow bz0); replace hI := hide ((unhide hI).grow bz0); clear bz0)
        | fail)
      go_ret
      exact ⟨rfl, unhide hB⟩
    · have d8 : decide ((n : Int) > 8) = false := decide_eq_false (by omega)
      by_cases m60 : 60 < m
      · have d60 : decide ((m : Int) > 60) = true := decide_eq_true (by omega)
        have tk0 : True := trivial
        go_enter Try.func5, Try.ntmps5
        go_wp2_with (first
          | (have _t := tk0; clear tk0 _t; go_at_call 9; refine (unhide hL _).mono ?_; rintro ez wz0 ⟨rfl, bz0⟩; have szz0 := bz0.size; replace hB := hide ((unhide hB).trans (bz0.mono (unhide hB).size)); replace hN := hide ((unhide hN).grow bz0); replace hI := hide ((unhide hI).grow bz0); clear bz0)
          | fail)
        go_ret
        exact ⟨rfl, unhide hB⟩
      · have d60 : decide ((m : Int) > 60) = false := decide_eq_false (by omega)
        have tk0 : True := trivial
        go_enter Try.func5, Try.ntmps5
        go_wp2_with (first
          | (have _t := tk0; clear tk0 _t; go_at_call 9; refine (unhide hL _).mono ?_; rintro ez wz0 ⟨rfl, bz0⟩; have szz0 := bz0.size; replace hB := hide ((unhide hB).trans (bz0.mono (unhide hB).size)); replace hN := hide ((unhide hN).grow bz0); replace hI := hide ((unhide hI).grow bz0); clear bz0)
          | fail)
        clear d0 d8 d60 hL
        go_loopw [39] (fun i wr => ∃ k : Nat, k ≤ n ∧ i = .int .i64 k ∧ Hid (Good names k) ∧ Hid (Rd 1 stc 0 wr.heap.size wr (.slice A n c) names) ∧ Hid (Rd 1 ivc 0 wr.heap.size wr (.slice A1 m c1) l) ∧ Hid (Below w.heap.size w wr)) (fun i _ => n - (intOf i).toNat)
        case atStart => exact ⟨0, Nat.zero_le _, rfl, hide (fun j h => absurd h (Nat.not_lt_zero _)), hN, hI, hB⟩
        case round =>
          clear hN hI hB
          obtain ⟨k, hk, rfl, hG, hN, hI, hB⟩ := hrel
          by_cases hlt : k < n
          · have hkl : k < names.length := by rw [← unhide hn]; exact hlt
            obtain ⟨b, off, rfl, hb, hc⟩ := (unhide hN).one hkl (u := .string (bz names[k])) rfl
            rw [← nmAt_get hkl] at hc
            have hck := fun (h : (nmAt names k).length ≤ 200) W => check_any (nmAt names k) (by omega) W
            have hgs := good_succ (unhide hG)
            obtain ⟨p, hp⟩ : ∃ p, p = nmAt names k := ⟨_, rfl⟩
            rw [← hp] at hc hck hgs
            clear hkl hp
            by_cases hpl : 200 < p.length
            · have dp : decide ((p.length : Int) > 200) = true := decide_eq_true (by omega)
              clear hck hgs
              go_wp2_with (fail)
              go_ret
              exact ⟨rfl, unhide hB⟩
            · have dp : decide ((p.length : Int) > 200) = false := decide_eq_false (by omega)
              replace hck := hck (by omega)
              cases hnb : nameB p with
              | false =>
                rw [hnb] at hck
                clear hgs hnb
                replace hck := hide hck
                go_wp2_with (go_at_call 28; refine (unhide hck _).mono ?_; rintro ez w1 ⟨rfl, B1⟩)
                go_ret
                exact ⟨rfl, (unhide hB).trans (B1.mono (unhide hB).size)⟩
              | true =>
                rw [hnb] at hck
                have hG2 := hide (hgs (by omega) hnb)
                clear hgs hnb
                replace hck := hide hck
                go_wp2_with (go_at_call 28; refine (unhide hck _).mono ?_; rintro ez w1 ⟨rfl, B1⟩)
                go_roundw
                case rel => exact ⟨k + 1, by omega, by go_num, hG2, hide ((unhide hN).grow B1), hide ((unhide hI).grow B1), hide ((unhide hB).trans (B1.mono (unhide hB).size))⟩
                case measure => simp [intOf] <;> omega
          · obtain rfl : k = n := by omega
            obtain ⟨bm, hbm⟩ : ∃ b, b = wr.heap.size := ⟨_, rfl⟩
            obtain ⟨W1, hW1⟩ : ∃ W, W = wr.alloc (.map #[] 0) := ⟨_, rfl⟩
            have hM : Hid (MapAt W1 bm 0 []) := hide (by rw [hW1, hbm]; exact map_made _)
            have hbw : w.heap.size ≤ bm := by rw [hbm]; exact (unhide hB).size
            have hN1 : Hid (Rd 1 stc 0 W1.heap.size W1 (.slice A k c) names) := hide (by rw [hW1]; exact (unhide hN).grow ((Below.refl _ _).alloc (Nat.le_refl _) _))
            have hI1 : Hid (Rd 1 ivc 0 W1.heap.size W1 (.slice A1 m c1) l) := hide (by rw [hW1]; exact (unhide hI).grow ((Below.refl _ _).alloc (Nat.le_refl _) _))
            have hB1 : Hid (Below w.heap.size w W1) := hide (by rw [hW1]; exact (unhide hB).alloc (unhide hB).size _)
            clear hN hI hB
            go_wp2_with (fail)
            rw [← hW1, ← hbm]
            clear hW1 hbm
            go_loopw [8, 56] (fun s8 s56 wr => ∃ (i : Nat) (t : List Fl) (At : Option Addr) (ct : Nat), i ≤ m ∧ s8 = .slice At t.length ct ∧ s56 = .int .i64 i ∧ Hid (TI t i) ∧ Hid (Rd 6 fc 0 wr.heap.size wr (.slice At t.length ct) t) ∧ Hid (MapAt wr bm i t) ∧ Hid (Rd 1 stc 0 wr.heap.size wr (.slice A k c) names) ∧ Hid (Rd 1 ivc 0 wr.heap.size wr (.slice A1 m c1) l) ∧ Hid (Below w.heap.size w wr)) (fun _ i _ => m - (intOf i).toNat)
            case atStart => exact ⟨0, [], none, 0, Nat.zero_le _, rfl, rfl, hide ti_nil, hide (Rd.nil _ _ _ _ _), hM, hN1, hI1, hB1⟩
            case round =>
              clear hN1 hI1 hB1 hM
              obtain ⟨i, t, At, ct, him, rfl, rfl, hT, ht, hM, hN, hI, hB⟩ := hrel
              by_cases hlt2 : i < m
              · have hil : i < l.length := by rw [← unhide hm]; exact hlt2
                obtain ⟨b, off, rfl, hb, hc⟩ := (unhide hI).one hil (u := .int .i64 l[i]) rfl
                rw [← zAt_get hil] at hc
                have hzb : zAt l i ≤ 9223372036854775807 := by rw [zAt_get hil]; exact hlb _ (List.getElem_mem hil)
                obtain ⟨z, hz⟩ : ∃ z, z = zAt l i := ⟨_, rfl⟩
                rw [← hz] at hc hzb
                clear hz hil
                by_cases hneg : z < 0
                · have dz' : decide (z < 0) = true := decide_eq_true hneg
                  go_wp2_with (fail)
                  go_ret
                  exact ⟨rfl, unhide hB⟩
                · have dz' : decide (z < 0) = false := decide_eq_false hneg
                  obtain ⟨X, rfl⟩ : ∃ X : Nat, z = (X : Int) := ⟨z.toNat, by omega⟩
                  have hkn : k = names.length := unhide hn
                  have hXp : X % k < k := Nat.mod_lt _ (by omega)
                  have hXq : X / 3 % k < k := Nat.mod_lt _ (by omega)
                  obtain ⟨bp, offp, rfl, hbp, hcp⟩ := (unhide hN).one (show X % k < names.length by omega) (u := .string (bz names[X % k])) rfl
                  obtain ⟨bq, offq, e4, hbq, hcq⟩ := (unhide hN).one (show X / 3 % k < names.length by omega) (u := .string (bz names[X / 3 % k])) rfl
                  injection e4 with e4
                  injection e4 with e5 e6
                  subst e5 e6
                  rw [← nmAt_get (show X % k < names.length by omega)] at hcp
                  rw [← nmAt_get (show X / 3 % k < names.length by omega)] at hcq
                  obtain ⟨hp1, hp2⟩ := unhide hG _ hXp
                  obtain ⟨hq1, hq2⟩ := unhide hG _ hXq
                  obtain ⟨p, hp⟩ : ∃ p, p = nmAt names (X % k) := ⟨_, rfl⟩
                  obtain ⟨q, hq⟩ : ∃ p, p = nmAt names (X / 3 % k) := ⟨_, rfl⟩
                  rw [← hp] at hcp hp1 hp2
                  rw [← hq] at hcq hq1 hq2
                  obtain ⟨P, hP⟩ : ∃ P, P = X % k := ⟨_, rfl⟩
                  obtain ⟨Q, hQ⟩ : ∃ P, P = X / 3 % k := ⟨_, rfl⟩
                  have r1 : ((X : Int) % (k : Int)) = (P : Int) := by rw [hP]; exact (Int.natCast_emod X k).symm
                  obtain ⟨Y, hY⟩ : ∃ Y, Y = X / 3 := ⟨_, rfl⟩
                  have r2 : ((X : Int) / 3) = (Y : Int) := by omega
                  have r3 : ((Y : Int) % (k : Int)) = (Q : Int) := by rw [hQ, ← hY]; exact (Int.natCast_emod Y k).symm
                  rw [← hP] at hcp hXp
                  rw [← hQ] at hcq hXq
                  clear hp hq hkn hP hQ hY
                  have hi60 : i < 60 := by omega
                  have hu := hide (tab_up (unhide hT).tab)
                  rcases (show X % 3 = 0 ∨ X % 3 = 1 ∨ X % 3 = 2 by omega) with h3 | h3 | h3
                  · have s3 : (X : Int) % 3 = 0 := by omega
                    clear h3
                    obtain ⟨Y1, hY1⟩ : ∃ Y, Y = X % 1000 := ⟨_, rfl⟩
                    have s4 : (X : Int) % 1000 = (Y1 : Int) := by omega
                    have s5 : Y1 < 1000 := by omega
                    clear hY1
                    have hkf : okF (fOf p ((Y1 : Int) + 1)) = true := by
                      unfold okF fOf upB
                      simp only [hp2, Bool.true_and, Bool.and_eq_true, decide_eq_true_eq]
                      omega
                    have hsf : SmF (fOf p ((Y1 : Int) + 1)) := ⟨by unfold fOf; simp only; omega, (by decide : (0 : Nat) < 18446744073709551616)⟩
                    have hpu := fun W v (h : Fls 0 W.heap.size W v t) => put_any 0 W.heap.size v t (fOf p ((Y1 : Int) + 1)) W h (Nat.le_refl _) (unhide hT).sm hsf
                    rw [putR_60 (unhide hT).tab hkf (by have := (unhide hT).len; omega)] at hpu
                    have hTq0 := (unhide hT).put hkf hsf (show 1 ≤ (Y1 : Int) + 1 by omega) (by omega)
                    obtain ⟨T, hTq⟩ : ∃ T, T = putF t (fOf p ((Y1 : Int) + 1)) := ⟨_, rfl⟩
                    rw [← hTq] at hpu hTq0
                    have hpu2 : Hid (∀ W v, Fls 0 W.heap.size W v t → Calls Try.prog 11 #[v, .agg #[.string (bz p), .float .f64 0, .int .u32 0, .int .i64 0, .int .i64 0, .int .i64 ((Y1 : Int) + 1)]] W fun e w' => ∃ v', e = .returned (.tuple #[v', .int .i64 0]) ∧ OwnF w' W.heap.size v' T ∧ Below W.heap.size W w') := hide hpu
                    clear hpu hkf hsf
                    replace hTq := hide hTq
                    have hTI : Hid (TI T (i + 1)) := hide (hTq0)
                    have hck : Hid (∀ W v, Fls 0 W.heap.size W v T → Calls Try.prog 21 #[v] W fun e w' => e = .returned (.int .i64 0) ∧ Below W.heap.size W w') := hide fun W v h => by
                      have := tcheck_any 0 W.heap.size v T W h (Nat.le_refl _) (unhide hTI).sm
                      rw [(unhide hTI).tab, err_t] at this
                      exact this
                    have hgt := hide (fun (p : List UInt8) (hp : p.length ≤ 200) W v (h : Fls 0 W.heap.size W v T) => get_any 0 W.heap.size v T p W h (Nat.le_refl _) (unhide hTI).sm (by omega))
                    clear hTq0
                    as_aux_lemma =>
                      have tk0 : True := trivial
                      have tk1 : True := trivial
                      go_wp2_with (first
                        | (have _t := tk0; clear tk0 _t; go_at_call 11; refine (unhide hpu2 _ _ (unhide ht)).mono ?_; rintro ez wz0 ⟨v2, rfl, oht2, bz0⟩; have szz0 := bz0.size; replace hB := hide ((unhide hB).trans (bz0.mono (unhide hB).size)); replace hN := hide ((unhide hN).grow bz0); replace hI := hide ((unhide hI).grow bz0); replace ht := hide ((unhide ht).grow bz0); replace hM := hide ((unhide hM).below bz0); obtain ⟨A2, c2, rfl, _⟩ := oht2.fls.open6; (have ht2 := hide (oht2.fls.mono (Nat.zero_le _) (Nat.le_refl _))); clear oht2; clear bz0)
                        | (at_mapUpdate; refine wpList_mput _ rfl _ _ _ rfl bm i t rfl (unhide hM) (by omega) (unhide hu) (fOf p ((Y1 : Int) + 1)) rfl rfl (by unfold fOf; simp only; omega) (i64_wf_of (by unfold fOf; simp only; omega)) ?_; intro w5 hM5 tn; replace hB := hide ((unhide hB).trans (turn_below tn hbw)); replace hN := hide ((unhide hN).turn tn); replace hI := hide ((unhide hI).turn tn); replace ht := hide ((unhide ht).turn tn); replace ht2 := hide ((unhide ht2).turn tn); rw [← unhide hTq] at hM5; replace hM := hide hM5; clear tn hM5; (have ml := (unhide hM).len))
                        | (have _t := tk1; clear tk1 _t; go_at_call 21; refine (unhide hck _ _ (unhide ht2)).mono ?_; rintro ez wz1 ⟨rfl, bz1⟩; have szz1 := bz1.size; replace hB := hide ((unhide hB).trans (bz1.mono (unhide hB).size)); replace hN := hide ((unhide hN).grow bz1); replace hI := hide ((unhide hI).grow bz1); replace ht := hide ((unhide ht).grow bz1); replace hM := hide ((unhide hM).below bz1); replace ht2 := hide ((unhide ht2).grow bz1); clear bz1)
                        | fail)
                      have hM2 := hide ((unhide hM).mono (show i + 1 ≤ i + 1 by omega))
                      clear hM
                      go_loopw [172] (fun s wr => ∃ j : Nat, j ≤ k ∧ s = .int .i64 j ∧ Hid (Rd 6 fc 0 wr.heap.size wr (.slice A2 T.length c2) T) ∧ Hid (MapAt wr bm (i + 1) T) ∧ Hid (Rd 1 stc 0 wr.heap.size wr (.slice (some ⟨bp, offp, none⟩) k c) names) ∧ Hid (Rd 1 ivc 0 wr.heap.size wr (.slice (some ⟨b, off, none⟩) m c1) l) ∧ Hid (Below w.heap.size w wr)) (fun s _ => k - (intOf s).toNat)
                      case atStart => exact ⟨0, Nat.zero_le _, rfl, ht2, hM2, hN, hI, hB⟩
                      case round =>
                        clear ht2 hM2 hN hI hB
                        obtain ⟨j, hj, rfl, ht, hM, hN, hI, hB⟩ := hrel
                        by_cases hlt3 : j < k
                        · have hjn : j < names.length := by rw [← unhide hn]; exact hlt3
                          obtain ⟨b3, off3, e4, hb3, hc3⟩ := (unhide hN).one hjn (u := .string (bz names[j])) rfl
                          injection e4 with e4
                          injection e4 with e5 e6
                          subst e5 e6
                          rw [← nmAt_get hjn] at hc3
                          obtain ⟨hp3, hn3⟩ := unhide hG j hlt3
                          obtain ⟨p3, hq3⟩ : ∃ p, p = nmAt names j := ⟨_, rfl⟩
                          rw [← hq3] at hc3 hp3 hn3
                          clear hq3 hjn
                          have hg3 := fun W v h => unhide hgt p3 hp3 W v h
                          cases ht3 : thereB T p3 with
                          | true =>
                            have hL3 : 1 ≤ lnOf T p3 := (unhide hTI).pos ht3
                            have elp : Hid (lnOf T p3 = (nth T (posn T p3)).ln) := hide (by unfold lnOf; rw [ht3]; rfl)
                            rw [getR_ok (unhide hTI).tab hn3 ht3] at hg3
                            obtain ⟨g, hg⟩ : ∃ g, g = nth T (posn T p3) := ⟨_, rfl⟩
                            rw [← hg] at elp hg3
                            have dg : decide (g.ln > 0) = true := decide_eq_true (by have := unhide elp; omega)
                            have dg2 : decide (0 < g.ln) = true := dg
                            clear hg hL3 ht3 hn3
                            replace hg3 := hide hg3
                            have tk0 : True := trivial
                            go_wp2_with (first
                              | (have _t := tk0; clear tk0 _t; go_at_call 17; refine (unhide hg3 _ _ (unhide ht)).mono ?_; rintro ez wz0 ⟨rfl, bz0⟩; have szz0 := bz0.size; replace hB := hide ((unhide hB).trans (bz0.mono (unhide hB).size)); replace hN := hide ((unhide hN).grow bz0); replace hI := hide ((unhide hI).grow bz0); replace ht := hide ((unhide ht).grow bz0); replace hM := hide ((unhide hM).below bz0); clear bz0; replace hB := hide ((unhide hB).alloc (unhide hB).size (.cells #[.string (bz g.nm), .float .f64 g.rk, .int .u32 g.sm, .int .i64 g.bk, .int .i64 g.fr, .int .i64 g.ln] 26)); replace hN := hide ((unhide hN).grow ((Below.refl _ _).alloc (Nat.le_refl _) (.cells #[.string (bz g.nm), .float .f64 g.rk, .int .u32 g.sm, .int .i64 g.bk, .int .i64 g.fr, .int .i64 g.ln] 26))); replace hI := hide ((unhide hI).grow ((Below.refl _ _).alloc (Nat.le_refl _) (.cells #[.string (bz g.nm), .float .f64 g.rk, .int .u32 g.sm, .int .i64 g.bk, .int .i64 g.fr, .int .i64 g.ln] 26))); replace ht := hide ((unhide ht).grow ((Below.refl _ _).alloc (Nat.le_refl _) (.cells #[.string (bz g.nm), .float .f64 g.rk, .int .u32 g.sm, .int .i64 g.bk, .int .i64 g.fr, .int .i64 g.ln] 26))); replace hM := hide ((unhide hM).below ((Below.refl _ _).alloc (Nat.le_refl _) (.cells #[.string (bz g.nm), .float .f64 g.rk, .int .u32 g.sm, .int .i64 g.bk, .int .i64 g.fr, .int .i64 g.ln] 26))); (have qx := Blk.new (w := wz0) (cs := #[.string (bz g.nm), .float .f64 g.rk, .int .u32 g.sm, .int .i64 g.bk, .int .i64 g.fr, .int .i64 g.ln]) (t := 26) rfl); obtain ⟨x0, x1, x2, x3, x4, x5⟩ := bk6 qx; clear qx; (have lk := (unhide hM).look p3 (by omega)); rw [unhide elp] at lk)
                              | fail)
                            go_roundw
                            case rel => exact ⟨j + 1, by omega, by go_num, ht, hM, hN, hI, hB⟩
                            case measure => simp [intOf] <;> omega
                          | false =>
                            have elp0 : Hid (lnOf T p3 = noF.ln) := hide (ln_no ht3)
                            rw [getR_none (unhide hTI).tab hn3 ht3] at hg3
                            obtain ⟨g, hg⟩ : ∃ g, g = noF := ⟨_, rfl⟩
                            have elp := elp0
                            rw [← hg] at elp hg3
                            have dg : decide (g.ln > 0) = false := by rw [hg]; rfl
                            have dg2 : decide (0 < g.ln) = false := dg
                            clear hg elp0 ht3 hn3
                            replace hg3 := hide hg3
                            have tk0 : True := trivial
                            go_wp2_with (first
                              | (have _t := tk0; clear tk0 _t; go_at_call 17; refine (unhide hg3 _ _ (unhide ht)).mono ?_; rintro ez wz0 ⟨rfl, bz0⟩; have szz0 := bz0.size; replace hB := hide ((unhide hB).trans (bz0.mono (unhide hB).size)); replace hN := hide ((unhide hN).grow bz0); replace hI := hide ((unhide hI).grow bz0); replace ht := hide ((unhide ht).grow bz0); replace hM := hide ((unhide hM).below bz0); clear bz0; replace hB := hide ((unhide hB).alloc (unhide hB).size (.cells #[.string (bz g.nm), .float .f64 g.rk, .int .u32 g.sm, .int .i64 g.bk, .int .i64 g.fr, .int .i64 g.ln] 26)); replace hN := hide ((unhide hN).grow ((Below.refl _ _).alloc (Nat.le_refl _) (.cells #[.string (bz g.nm), .float .f64 g.rk, .int .u32 g.sm, .int .i64 g.bk, .int .i64 g.fr, .int .i64 g.ln] 26))); replace hI := hide ((unhide hI).grow ((Below.refl _ _).alloc (Nat.le_refl _) (.cells #[.string (bz g.nm), .float .f64 g.rk, .int .u32 g.sm, .int .i64 g.bk, .int .i64 g.fr, .int .i64 g.ln] 26))); replace ht := hide ((unhide ht).grow ((Below.refl _ _).alloc (Nat.le_refl _) (.cells #[.string (bz g.nm), .float .f64 g.rk, .int .u32 g.sm, .int .i64 g.bk, .int .i64 g.fr, .int .i64 g.ln] 26))); replace hM := hide ((unhide hM).below ((Below.refl _ _).alloc (Nat.le_refl _) (.cells #[.string (bz g.nm), .float .f64 g.rk, .int .u32 g.sm, .int .i64 g.bk, .int .i64 g.fr, .int .i64 g.ln] 26))); (have qx := Blk.new (w := wz0) (cs := #[.string (bz g.nm), .float .f64 g.rk, .int .u32 g.sm, .int .i64 g.bk, .int .i64 g.fr, .int .i64 g.ln]) (t := 26) rfl); obtain ⟨x0, x1, x2, x3, x4, x5⟩ := bk6 qx; clear qx; (have lk := (unhide hM).look p3 (by omega)); rw [unhide elp] at lk)
                              | fail)
                            go_roundw
                            case rel => exact ⟨j + 1, by omega, by go_num, ht, hM, hN, hI, hB⟩
                            case measure => simp [intOf] <;> omega
                        · obtain rfl : j = k := by omega
                          go_wp2_with (fail)
                          go_roundw
                          case rel => exact ⟨i + 1, T, A2, c2, by omega, rfl, by go_num, hTI, ht, hM, hN, hI, hB⟩
                          case measure => simp [intOf] <;> omega
                  · have s3 : (X : Int) % 3 = 1 := by omega
                    clear h3
                    have hde := fun W v (h : Fls 0 W.heap.size W v t) => del_any 0 W.heap.size v t p W h (Nat.le_refl _) (unhide hT).sm (by omega)
                    cases htp : thereB t p with
                    | true =>
                      rw [delR_ok (unhide hT).tab hp2 htp] at hde
                      have hTq0 := (unhide hT).del p
                      obtain ⟨T, hTq⟩ : ∃ T, T = delF t p := ⟨_, rfl⟩
                      rw [← hTq] at hde hTq0
                      replace hde := hide hde; replace hTq := hide hTq
                      have hTI : Hid (TI T (i + 1)) := hide (hTq0)
                      have hck : Hid (∀ W v, Fls 0 W.heap.size W v T → Calls Try.prog 21 #[v] W fun e w' => e = .returned (.int .i64 0) ∧ Below W.heap.size W w') := hide fun W v h => by
                        have := tcheck_any 0 W.heap.size v T W h (Nat.le_refl _) (unhide hTI).sm
                        rw [(unhide hTI).tab, err_t] at this
                        exact this
                      have hgt := hide (fun (p : List UInt8) (hp : p.length ≤ 200) W v (h : Fls 0 W.heap.size W v T) => get_any 0 W.heap.size v T p W h (Nat.le_refl _) (unhide hTI).sm (by omega))
                      have hLp : 1 ≤ lnOf t p := (unhide hT).pos htp
                      obtain ⟨Lp, eLp⟩ : ∃ z, z = lnOf t p := ⟨_, rfl⟩
                      rw [← eLp] at hLp
                      have elp : Hid (lnOf t p = Lp) := hide eLp.symm
                      have d1p : decide (Lp > 0) = true := decide_eq_true (by omega)
                      have d2p : decide (0 < Lp) = true := d1p
                      have d3p : (Lp == 0) = false := by rw [beq_eq_false_iff_ne]; omega
                      clear eLp htp hLp
                      clear hTq0
                      as_aux_lemma =>
                        have tk0 : True := trivial
                        have tk1 : True := trivial
                        go_wp2_with (first
                          | (have _t := tk0; clear tk0 _t; go_at_call 13; refine (unhide hde _ _ (unhide ht)).mono ?_; rintro ez wz0 ⟨v2, rfl, oht2, bz0⟩; have szz0 := bz0.size; replace hB := hide ((unhide hB).trans (bz0.mono (unhide hB).size)); replace hN := hide ((unhide hN).grow bz0); replace hI := hide ((unhide hI).grow bz0); replace ht := hide ((unhide ht).grow bz0); replace hM := hide ((unhide hM).below bz0); obtain ⟨A2, c2, rfl, _⟩ := oht2.fls.open6; (have ht2 := hide (oht2.fls.mono (Nat.zero_le _) (Nat.le_refl _))); clear oht2; clear bz0; (have lkp := (unhide hM).look p (by omega)); rw [unhide elp] at lkp)
                          | (at_delete; refine wpList_mdel _ rfl _ _ rfl bm i t rfl (unhide hM) (unhide hu) p rfl (by omega) ?_; intro w5 hM5 tn; replace hB := hide ((unhide hB).trans (turn_below tn hbw)); replace hN := hide ((unhide hN).turn tn); replace hI := hide ((unhide hI).turn tn); replace ht := hide ((unhide ht).turn tn); replace ht2 := hide ((unhide ht2).turn tn); rw [← unhide hTq] at hM5; replace hM := hide hM5; clear tn hM5; (have ml := (unhide hM).len))
                          | (have _t := tk1; clear tk1 _t; go_at_call 21; refine (unhide hck _ _ (unhide ht2)).mono ?_; rintro ez wz1 ⟨rfl, bz1⟩; have szz1 := bz1.size; replace hB := hide ((unhide hB).trans (bz1.mono (unhide hB).size)); replace hN := hide ((unhide hN).grow bz1); replace hI := hide ((unhide hI).grow bz1); replace ht := hide ((unhide ht).grow bz1); replace hM := hide ((unhide hM).below bz1); replace ht2 := hide ((unhide ht2).grow bz1); clear bz1)
                          | fail)
                        have hM2 := hide ((unhide hM).mono (show i ≤ i + 1 by omega))
                        clear hM
                        go_loopw [172] (fun s wr => ∃ j : Nat, j ≤ k ∧ s = .int .i64 j ∧ Hid (Rd 6 fc 0 wr.heap.size wr (.slice A2 T.length c2) T) ∧ Hid (MapAt wr bm (i + 1) T) ∧ Hid (Rd 1 stc 0 wr.heap.size wr (.slice (some ⟨bp, offp, none⟩) k c) names) ∧ Hid (Rd 1 ivc 0 wr.heap.size wr (.slice (some ⟨b, off, none⟩) m c1) l) ∧ Hid (Below w.heap.size w wr)) (fun s _ => k - (intOf s).toNat)
                        case atStart => exact ⟨0, Nat.zero_le _, rfl, ht2, hM2, hN, hI, hB⟩
                        case round =>
                          clear ht2 hM2 hN hI hB
                          obtain ⟨j, hj, rfl, ht, hM, hN, hI, hB⟩ := hrel
                          by_cases hlt3 : j < k
                          · have hjn : j < names.length := by rw [← unhide hn]; exact hlt3
                            obtain ⟨b3, off3, e4, hb3, hc3⟩ := (unhide hN).one hjn (u := .string (bz names[j])) rfl
                            injection e4 with e4
                            injection e4 with e5 e6
                            subst e5 e6
                            rw [← nmAt_get hjn] at hc3
                            obtain ⟨hp3, hn3⟩ := unhide hG j hlt3
                            obtain ⟨p3, hq3⟩ : ∃ p, p = nmAt names j := ⟨_, rfl⟩
                            rw [← hq3] at hc3 hp3 hn3
                            clear hq3 hjn
                            have hg3 := fun W v h => unhide hgt p3 hp3 W v h
                            cases ht3 : thereB T p3 with
                            | true =>
                              have hL3 : 1 ≤ lnOf T p3 := (unhide hTI).pos ht3
                              have elp : Hid (lnOf T p3 = (nth T (posn T p3)).ln) := hide (by unfold lnOf; rw [ht3]; rfl)
                              rw [getR_ok (unhide hTI).tab hn3 ht3] at hg3
                              obtain ⟨g, hg⟩ : ∃ g, g = nth T (posn T p3) := ⟨_, rfl⟩
                              rw [← hg] at elp hg3
                              have dg : decide (g.ln > 0) = true := decide_eq_true (by have := unhide elp; omega)
                              have dg2 : decide (0 < g.ln) = true := dg
                              clear hg hL3 ht3 hn3
                              replace hg3 := hide hg3
                              have tk0 : True := trivial
                              go_wp2_with (first
                                | (have _t := tk0; clear tk0 _t; go_at_call 17; refine (unhide hg3 _ _ (unhide ht)).mono ?_; rintro ez wz0 ⟨rfl, bz0⟩; have szz0 := bz0.size; replace hB := hide ((unhide hB).trans (bz0.mono (unhide hB).size)); replace hN := hide ((unhide hN).grow bz0); replace hI := hide ((unhide hI).grow bz0); replace ht := hide ((unhide ht).grow bz0); replace hM := hide ((unhide hM).below bz0); clear bz0; replace hB := hide ((unhide hB).alloc (unhide hB).size (.cells #[.string (bz g.nm), .float .f64 g.rk, .int .u32 g.sm, .int .i64 g.bk, .int .i64 g.fr, .int .i64 g.ln] 26)); replace hN := hide ((unhide hN).grow ((Below.refl _ _).alloc (Nat.le_refl _) (.cells #[.string (bz g.nm), .float .f64 g.rk, .int .u32 g.sm, .int .i64 g.bk, .int .i64 g.fr, .int .i64 g.ln] 26))); replace hI := hide ((unhide hI).grow ((Below.refl _ _).alloc (Nat.le_refl _) (.cells #[.string (bz g.nm), .float .f64 g.rk, .int .u32 g.sm, .int .i64 g.bk, .int .i64 g.fr, .int .i64 g.ln] 26))); replace ht := hide ((unhide ht).grow ((Below.refl _ _).alloc (Nat.le_refl _) (.cells #[.string (bz g.nm), .float .f64 g.rk, .int .u32 g.sm, .int .i64 g.bk, .int .i64 g.fr, .int .i64 g.ln] 26))); replace hM := hide ((unhide hM).below ((Below.refl _ _).alloc (Nat.le_refl _) (.cells #[.string (bz g.nm), .float .f64 g.rk, .int .u32 g.sm, .int .i64 g.bk, .int .i64 g.fr, .int .i64 g.ln] 26))); (have qx := Blk.new (w := wz0) (cs := #[.string (bz g.nm), .float .f64 g.rk, .int .u32 g.sm, .int .i64 g.bk, .int .i64 g.fr, .int .i64 g.ln]) (t := 26) rfl); obtain ⟨x0, x1, x2, x3, x4, x5⟩ := bk6 qx; clear qx; (have lk := (unhide hM).look p3 (by omega)); rw [unhide elp] at lk)
                                | fail)
                              go_roundw
                              case rel => exact ⟨j + 1, by omega, by go_num, ht, hM, hN, hI, hB⟩
                              case measure => simp [intOf] <;> omega
                            | false =>
                              have elp0 : Hid (lnOf T p3 = noF.ln) := hide (ln_no ht3)
                              rw [getR_none (unhide hTI).tab hn3 ht3] at hg3
                              obtain ⟨g, hg⟩ : ∃ g, g = noF := ⟨_, rfl⟩
                              have elp := elp0
                              rw [← hg] at elp hg3
                              have dg : decide (g.ln > 0) = false := by rw [hg]; rfl
                              have dg2 : decide (0 < g.ln) = false := dg
                              clear hg elp0 ht3 hn3
                              replace hg3 := hide hg3
                              have tk0 : True := trivial
                              go_wp2_with (first
                                | (have _t := tk0; clear tk0 _t; go_at_call 17; refine (unhide hg3 _ _ (unhide ht)).mono ?_; rintro ez wz0 ⟨rfl, bz0⟩; have szz0 := bz0.size; replace hB := hide ((unhide hB).trans (bz0.mono (unhide hB).size)); replace hN := hide ((unhide hN).grow bz0); replace hI := hide ((unhide hI).grow bz0); replace ht := hide ((unhide ht).grow bz0); replace hM := hide ((unhide hM).below bz0); clear bz0; replace hB := hide ((unhide hB).alloc (unhide hB).size (.cells #[.string (bz g.nm), .float .f64 g.rk, .int .u32 g.sm, .int .i64 g.bk, .int .i64 g.fr, .int .i64 g.ln] 26)); replace hN := hide ((unhide hN).grow ((Below.refl _ _).alloc (Nat.le_refl _) (.cells #[.string (bz g.nm), .float .f64 g.rk, .int .u32 g.sm, .int .i64 g.bk, .int .i64 g.fr, .int .i64 g.ln] 26))); replace hI := hide ((unhide hI).grow ((Below.refl _ _).alloc (Nat.le_refl _) (.cells #[.string (bz g.nm), .float .f64 g.rk, .int .u32 g.sm, .int .i64 g.bk, .int .i64 g.fr, .int .i64 g.ln] 26))); replace ht := hide ((unhide ht).grow ((Below.refl _ _).alloc (Nat.le_refl _) (.cells #[.string (bz g.nm), .float .f64 g.rk, .int .u32 g.sm, .int .i64 g.bk, .int .i64 g.fr, .int .i64 g.ln] 26))); replace hM := hide ((unhide hM).below ((Below.refl _ _).alloc (Nat.le_refl _) (.cells #[.string (bz g.nm), .float .f64 g.rk, .int .u32 g.sm, .int .i64 g.bk, .int .i64 g.fr, .int .i64 g.ln] 26))); (have qx := Blk.new (w := wz0) (cs := #[.string (bz g.nm), .float .f64 g.rk, .int .u32 g.sm, .int .i64 g.bk, .int .i64 g.fr, .int .i64 g.ln]) (t := 26) rfl); obtain ⟨x0, x1, x2, x3, x4, x5⟩ := bk6 qx; clear qx; (have lk := (unhide hM).look p3 (by omega)); rw [unhide elp] at lk)
                                | fail)
                              go_roundw
                              case rel => exact ⟨j + 1, by omega, by go_num, ht, hM, hN, hI, hB⟩
                              case measure => simp [intOf] <;> omega
                          · obtain rfl : j = k := by omega
                            go_wp2_with (fail)
                            go_roundw
                            case rel => exact ⟨i + 1, T, A2, c2, by omega, rfl, by go_num, hTI, ht, hM, hN, hI, hB⟩
                            case measure => simp [intOf] <;> omega
                    | false =>
                      rw [delR_none (unhide hT).tab hp2 htp] at hde
                      have hdn := hide (del_none (unhide hu) htp)
                      have elp := hide (ln_no htp)
                      replace hde := hide hde
                      have hTI : Hid (TI t (i + 1)) := hide ((unhide hT).same)
                      have hck : Hid (∀ W v, Fls 0 W.heap.size W v t → Calls Try.prog 21 #[v] W fun e w' => e = .returned (.int .i64 0) ∧ Below W.heap.size W w') := hide fun W v h => by
                        have := tcheck_any 0 W.heap.size v t W h (Nat.le_refl _) (unhide hTI).sm
                        rw [(unhide hTI).tab, err_t] at this
                        exact this
                      have hgt := hide (fun (p : List UInt8) (hp : p.length ≤ 200) W v (h : Fls 0 W.heap.size W v t) => get_any 0 W.heap.size v t p W h (Nat.le_refl _) (unhide hTI).sm (by omega))
                      clear htp
                      as_aux_lemma =>
                        have tk0 : True := trivial
                        have tk1 : True := trivial
                        go_wp2_with (first
                          | (have _t := tk0; clear tk0 _t; go_at_call 13; refine (unhide hde _ _ (unhide ht)).mono ?_; rintro ez wz0 ⟨v2, rfl, oht2, bz0⟩; have szz0 := bz0.size; replace hB := hide ((unhide hB).trans (bz0.mono (unhide hB).size)); replace hN := hide ((unhide hN).grow bz0); replace hI := hide ((unhide hI).grow bz0); replace ht := hide ((unhide ht).grow bz0); replace hM := hide ((unhide hM).below bz0); (have ht2 := hide (oht2.fls.mono (Nat.zero_le _) (Nat.le_refl _))); clear oht2; clear bz0; (have lkp := (unhide hM).look p (by omega)); rw [unhide elp] at lkp)
                          | (at_delete; refine wpList_mdel _ rfl _ _ rfl bm i t rfl (unhide hM) (unhide hu) p rfl (by omega) ?_; intro w5 hM5 tn; replace hB := hide ((unhide hB).trans (turn_below tn hbw)); replace hN := hide ((unhide hN).turn tn); replace hI := hide ((unhide hI).turn tn); replace ht := hide ((unhide ht).turn tn); replace ht2 := hide ((unhide ht2).turn tn); rw [unhide hdn] at hM5; replace hM := hide hM5; clear tn hM5; (have ml := (unhide hM).len))
                          | (have _t := tk1; clear tk1 _t; go_at_call 21; refine (unhide hck _ _ (unhide ht)).mono ?_; rintro ez wz1 ⟨rfl, bz1⟩; have szz1 := bz1.size; replace hB := hide ((unhide hB).trans (bz1.mono (unhide hB).size)); replace hN := hide ((unhide hN).grow bz1); replace hI := hide ((unhide hI).grow bz1); replace ht := hide ((unhide ht).grow bz1); replace hM := hide ((unhide hM).below bz1); replace ht2 := hide ((unhide ht2).grow bz1); clear bz1)
                          | fail)
                        have hM2 := hide ((unhide hM).mono (show i ≤ i + 1 by omega))
                        clear hM
                        go_loopw [172] (fun s wr => ∃ j : Nat, j ≤ k ∧ s = .int .i64 j ∧ Hid (Rd 6 fc 0 wr.heap.size wr (.slice At t.length ct) t) ∧ Hid (MapAt wr bm (i + 1) t) ∧ Hid (Rd 1 stc 0 wr.heap.size wr (.slice (some ⟨bp, offp, none⟩) k c) names) ∧ Hid (Rd 1 ivc 0 wr.heap.size wr (.slice (some ⟨b, off, none⟩) m c1) l) ∧ Hid (Below w.heap.size w wr)) (fun s _ => k - (intOf s).toNat)
                        case atStart => exact ⟨0, Nat.zero_le _, rfl, ht, hM2, hN, hI, hB⟩
                        case round =>
                          clear ht hM2 hN hI hB
                          obtain ⟨j, hj, rfl, ht, hM, hN, hI, hB⟩ := hrel
                          by_cases hlt3 : j < k
                          · have hjn : j < names.length := by rw [← unhide hn]; exact hlt3
                            obtain ⟨b3, off3, e4, hb3, hc3⟩ := (unhide hN).one hjn (u := .string (bz names[j])) rfl
                            injection e4 with e4
                            injection e4 with e5 e6
                            subst e5 e6
                            rw [← nmAt_get hjn] at hc3
                            obtain ⟨hp3, hn3⟩ := unhide hG j hlt3
                            obtain ⟨p3, hq3⟩ : ∃ p, p = nmAt names j := ⟨_, rfl⟩
                            rw [← hq3] at hc3 hp3 hn3
                            clear hq3 hjn
                            have hg3 := fun W v h => unhide hgt p3 hp3 W v h
                            cases ht3 : thereB t p3 with
                            | true =>
                              have hL3 : 1 ≤ lnOf t p3 := (unhide hTI).pos ht3
                              have elp : Hid (lnOf t p3 = (nth t (posn t p3)).ln) := hide (by unfold lnOf; rw [ht3]; rfl)
                              rw [getR_ok (unhide hTI).tab hn3 ht3] at hg3
                              obtain ⟨g, hg⟩ : ∃ g, g = nth t (posn t p3) := ⟨_, rfl⟩
                              rw [← hg] at elp hg3
                              have dg : decide (g.ln > 0) = true := decide_eq_true (by have := unhide elp; omega)
                              have dg2 : decide (0 < g.ln) = true := dg
                              clear hg hL3 ht3 hn3
                              replace hg3 := hide hg3
                              have tk0 : True := trivial
                              go_wp2_with (first
                                | (have _t := tk0; clear tk0 _t; go_at_call 17; refine (unhide hg3 _ _ (unhide ht)).mono ?_; rintro ez wz0 ⟨rfl, bz0⟩; have szz0 := bz0.size; replace hB := hide ((unhide hB).trans (bz0.mono (unhide hB).size)); replace hN := hide ((unhide hN).grow bz0); replace hI := hide ((unhide hI).grow bz0); replace ht := hide ((unhide ht).grow bz0); replace hM := hide ((unhide hM).below bz0); clear bz0; replace hB := hide ((unhide hB).alloc (unhide hB).size (.cells #[.string (bz g.nm), .float .f64 g.rk, .int .u32 g.sm, .int .i64 g.bk, .int .i64 g.fr, .int .i64 g.ln] 26)); replace hN := hide ((unhide hN).grow ((Below.refl _ _).alloc (Nat.le_refl _) (.cells #[.string (bz g.nm), .float .f64 g.rk, .int .u32 g.sm, .int .i64 g.bk, .int .i64 g.fr, .int .i64 g.ln] 26))); replace hI := hide ((unhide hI).grow ((Below.refl _ _).alloc (Nat.le_refl _) (.cells #[.string (bz g.nm), .float .f64 g.rk, .int .u32 g.sm, .int .i64 g.bk, .int .i64 g.fr, .int .i64 g.ln] 26))); replace ht := hide ((unhide ht).grow ((Below.refl _ _).alloc (Nat.le_refl _) (.cells #[.string (bz g.nm), .float .f64 g.rk, .int .u32 g.sm, .int .i64 g.bk, .int .i64 g.fr, .int .i64 g.ln] 26))); replace hM := hide ((unhide hM).below ((Below.refl _ _).alloc (Nat.le_refl _) (.cells #[.string (bz g.nm), .float .f64 g.rk, .int .u32 g.sm, .int .i64 g.bk, .int .i64 g.fr, .int .i64 g.ln] 26))); (have qx := Blk.new (w := wz0) (cs := #[.string (bz g.nm), .float .f64 g.rk, .int .u32 g.sm, .int .i64 g.bk, .int .i64 g.fr, .int .i64 g.ln]) (t := 26) rfl); obtain ⟨x0, x1, x2, x3, x4, x5⟩ := bk6 qx; clear qx; (have lk := (unhide hM).look p3 (by omega)); rw [unhide elp] at lk)
                                | fail)
                              go_roundw
                              case rel => exact ⟨j + 1, by omega, by go_num, ht, hM, hN, hI, hB⟩
                              case measure => simp [intOf] <;> omega
                            | false =>
                              have elp0 : Hid (lnOf t p3 = noF.ln) := hide (ln_no ht3)
                              rw [getR_none (unhide hTI).tab hn3 ht3] at hg3
                              obtain ⟨g, hg⟩ : ∃ g, g = noF := ⟨_, rfl⟩
                              have elp := elp0
                              rw [← hg] at elp hg3
                              have dg : decide (g.ln > 0) = false := by rw [hg]; rfl
                              have dg2 : decide (0 < g.ln) = false := dg
                              clear hg elp0 ht3 hn3
                              replace hg3 := hide hg3
                              have tk0 : True := trivial
                              go_wp2_with (first
                                | (have _t := tk0; clear tk0 _t; go_at_call 17; refine (unhide hg3 _ _ (unhide ht)).mono ?_; rintro ez wz0 ⟨rfl, bz0⟩; have szz0 := bz0.size; replace hB := hide ((unhide hB).trans (bz0.mono (unhide hB).size)); replace hN := hide ((unhide hN).grow bz0); replace hI := hide ((unhide hI).grow bz0); replace ht := hide ((unhide ht).grow bz0); replace hM := hide ((unhide hM).below bz0); clear bz0; replace hB := hide ((unhide hB).alloc (unhide hB).size (.cells #[.string (bz g.nm), .float .f64 g.rk, .int .u32 g.sm, .int .i64 g.bk, .int .i64 g.fr, .int .i64 g.ln] 26)); replace hN := hide ((unhide hN).grow ((Below.refl _ _).alloc (Nat.le_refl _) (.cells #[.string (bz g.nm), .float .f64 g.rk, .int .u32 g.sm, .int .i64 g.bk, .int .i64 g.fr, .int .i64 g.ln] 26))); replace hI := hide ((unhide hI).grow ((Below.refl _ _).alloc (Nat.le_refl _) (.cells #[.string (bz g.nm), .float .f64 g.rk, .int .u32 g.sm, .int .i64 g.bk, .int .i64 g.fr, .int .i64 g.ln] 26))); replace ht := hide ((unhide ht).grow ((Below.refl _ _).alloc (Nat.le_refl _) (.cells #[.string (bz g.nm), .float .f64 g.rk, .int .u32 g.sm, .int .i64 g.bk, .int .i64 g.fr, .int .i64 g.ln] 26))); replace hM := hide ((unhide hM).below ((Below.refl _ _).alloc (Nat.le_refl _) (.cells #[.string (bz g.nm), .float .f64 g.rk, .int .u32 g.sm, .int .i64 g.bk, .int .i64 g.fr, .int .i64 g.ln] 26))); (have qx := Blk.new (w := wz0) (cs := #[.string (bz g.nm), .float .f64 g.rk, .int .u32 g.sm, .int .i64 g.bk, .int .i64 g.fr, .int .i64 g.ln]) (t := 26) rfl); obtain ⟨x0, x1, x2, x3, x4, x5⟩ := bk6 qx; clear qx; (have lk := (unhide hM).look p3 (by omega)); rw [unhide elp] at lk)
                                | fail)
                              go_roundw
                              case rel => exact ⟨j + 1, by omega, by go_num, ht, hM, hN, hI, hB⟩
                              case measure => simp [intOf] <;> omega
                          · obtain rfl : j = k := by omega
                            go_wp2_with (fail)
                            go_roundw
                            case rel => exact ⟨i + 1, t, At, ct, by omega, rfl, by go_num, hTI, ht, hM, hN, hI, hB⟩
                            case measure => simp [intOf] <;> omega
                  · have s3 : (X : Int) % 3 = 2 := by omega
                    clear h3
                    have hmo := fun W v (h : Fls 0 W.heap.size W v t) => move_any 0 W.heap.size v t p q W h (Nat.le_refl _) (unhide hT).sm (by omega) (by omega)
                    cases htp : thereB t p with
                    | false =>
                      rw [movR_none (unhide hT).tab hp2 hq2 htp] at hmo
                      have elp := hide (ln_no htp)
                      replace hmo := hide hmo
                      have hTI : Hid (TI t (i + 1)) := hide ((unhide hT).same)
                      have hck : Hid (∀ W v, Fls 0 W.heap.size W v t → Calls Try.prog 21 #[v] W fun e w' => e = .returned (.int .i64 0) ∧ Below W.heap.size W w') := hide fun W v h => by
                        have := tcheck_any 0 W.heap.size v t W h (Nat.le_refl _) (unhide hTI).sm
                        rw [(unhide hTI).tab, err_t] at this
                        exact this
                      have hgt := hide (fun (p : List UInt8) (hp : p.length ≤ 200) W v (h : Fls 0 W.heap.size W v t) => get_any 0 W.heap.size v t p W h (Nat.le_refl _) (unhide hTI).sm (by omega))
                      clear htp
                      as_aux_lemma =>
                        have tk0 : True := trivial
                        have tk1 : True := trivial
                        go_wp2_with (first
                          | (have _t := tk0; clear tk0 _t; go_at_call 15; refine (unhide hmo _ _ (unhide ht)).mono ?_; rintro ez wz0 ⟨v2, rfl, oht2, bz0⟩; have szz0 := bz0.size; replace hB := hide ((unhide hB).trans (bz0.mono (unhide hB).size)); replace hN := hide ((unhide hN).grow bz0); replace hI := hide ((unhide hI).grow bz0); replace ht := hide ((unhide ht).grow bz0); replace hM := hide ((unhide hM).below bz0); (have ht2 := hide (oht2.fls.mono (Nat.zero_le _) (Nat.le_refl _))); clear oht2; clear bz0; (have lkp := (unhide hM).look p (by omega)); rw [unhide elp] at lkp; (have ml := (unhide hM).len))
                          | (have _t := tk1; clear tk1 _t; go_at_call 21; refine (unhide hck _ _ (unhide ht)).mono ?_; rintro ez wz1 ⟨rfl, bz1⟩; have szz1 := bz1.size; replace hB := hide ((unhide hB).trans (bz1.mono (unhide hB).size)); replace hN := hide ((unhide hN).grow bz1); replace hI := hide ((unhide hI).grow bz1); replace ht := hide ((unhide ht).grow bz1); replace hM := hide ((unhide hM).below bz1); replace ht2 := hide ((unhide ht2).grow bz1); clear bz1)
                          | fail)
                        have hM2 := hide ((unhide hM).mono (show i ≤ i + 1 by omega))
                        clear hM
                        go_loopw [172] (fun s wr => ∃ j : Nat, j ≤ k ∧ s = .int .i64 j ∧ Hid (Rd 6 fc 0 wr.heap.size wr (.slice At t.length ct) t) ∧ Hid (MapAt wr bm (i + 1) t) ∧ Hid (Rd 1 stc 0 wr.heap.size wr (.slice (some ⟨bp, offp, none⟩) k c) names) ∧ Hid (Rd 1 ivc 0 wr.heap.size wr (.slice (some ⟨b, off, none⟩) m c1) l) ∧ Hid (Below w.heap.size w wr)) (fun s _ => k - (intOf s).toNat)
                        case atStart => exact ⟨0, Nat.zero_le _, rfl, ht, hM2, hN, hI, hB⟩
                        case round =>
                          clear ht hM2 hN hI hB
                          obtain ⟨j, hj, rfl, ht, hM, hN, hI, hB⟩ := hrel
                          by_cases hlt3 : j < k
                          · have hjn : j < names.length := by rw [← unhide hn]; exact hlt3
                            obtain ⟨b3, off3, e4, hb3, hc3⟩ := (unhide hN).one hjn (u := .string (bz names[j])) rfl
                            injection e4 with e4
                            injection e4 with e5 e6
                            subst e5 e6
                            rw [← nmAt_get hjn] at hc3
                            obtain ⟨hp3, hn3⟩ := unhide hG j hlt3
                            obtain ⟨p3, hq3⟩ : ∃ p, p = nmAt names j := ⟨_, rfl⟩
                            rw [← hq3] at hc3 hp3 hn3
                            clear hq3 hjn
                            have hg3 := fun W v h => unhide hgt p3 hp3 W v h
                            cases ht3 : thereB t p3 with
                            | true =>
                              have hL3 : 1 ≤ lnOf t p3 := (unhide hTI).pos ht3
                              have elp : Hid (lnOf t p3 = (nth t (posn t p3)).ln) := hide (by unfold lnOf; rw [ht3]; rfl)
                              rw [getR_ok (unhide hTI).tab hn3 ht3] at hg3
                              obtain ⟨g, hg⟩ : ∃ g, g = nth t (posn t p3) := ⟨_, rfl⟩
                              rw [← hg] at elp hg3
                              have dg : decide (g.ln > 0) = true := decide_eq_true (by have := unhide elp; omega)
                              have dg2 : decide (0 < g.ln) = true := dg
                              clear hg hL3 ht3 hn3
                              replace hg3 := hide hg3
                              have tk0 : True := trivial
                              go_wp2_with (first
                                | (have _t := tk0; clear tk0 _t; go_at_call 17; refine (unhide hg3 _ _ (unhide ht)).mono ?_; rintro ez wz0 ⟨rfl, bz0⟩; have szz0 := bz0.size; replace hB := hide ((unhide hB).trans (bz0.mono (unhide hB).size)); replace hN := hide ((unhide hN).grow bz0); replace hI := hide ((unhide hI).grow bz0); replace ht := hide ((unhide ht).grow bz0); replace hM := hide ((unhide hM).below bz0); clear bz0; replace hB := hide ((unhide hB).alloc (unhide hB).size (.cells #[.string (bz g.nm), .float .f64 g.rk, .int .u32 g.sm, .int .i64 g.bk, .int .i64 g.fr, .int .i64 g.ln] 26)); replace hN := hide ((unhide hN).grow ((Below.refl _ _).alloc (Nat.le_refl _) (.cells #[.string (bz g.nm), .float .f64 g.rk, .int .u32 g.sm, .int .i64 g.bk, .int .i64 g.fr, .int .i64 g.ln] 26))); replace hI := hide ((unhide hI).grow ((Below.refl _ _).alloc (Nat.le_refl _) (.cells #[.string (bz g.nm), .float .f64 g.rk, .int .u32 g.sm, .int .i64 g.bk, .int .i64 g.fr, .int .i64 g.ln] 26))); replace ht := hide ((unhide ht).grow ((Below.refl _ _).alloc (Nat.le_refl _) (.cells #[.string (bz g.nm), .float .f64 g.rk, .int .u32 g.sm, .int .i64 g.bk, .int .i64 g.fr, .int .i64 g.ln] 26))); replace hM := hide ((unhide hM).below ((Below.refl _ _).alloc (Nat.le_refl _) (.cells #[.string (bz g.nm), .float .f64 g.rk, .int .u32 g.sm, .int .i64 g.bk, .int .i64 g.fr, .int .i64 g.ln] 26))); (have qx := Blk.new (w := wz0) (cs := #[.string (bz g.nm), .float .f64 g.rk, .int .u32 g.sm, .int .i64 g.bk, .int .i64 g.fr, .int .i64 g.ln]) (t := 26) rfl); obtain ⟨x0, x1, x2, x3, x4, x5⟩ := bk6 qx; clear qx; (have lk := (unhide hM).look p3 (by omega)); rw [unhide elp] at lk)
                                | fail)
                              go_roundw
                              case rel => exact ⟨j + 1, by omega, by go_num, ht, hM, hN, hI, hB⟩
                              case measure => simp [intOf] <;> omega
                            | false =>
                              have elp0 : Hid (lnOf t p3 = noF.ln) := hide (ln_no ht3)
                              rw [getR_none (unhide hTI).tab hn3 ht3] at hg3
                              obtain ⟨g, hg⟩ : ∃ g, g = noF := ⟨_, rfl⟩
                              have elp := elp0
                              rw [← hg] at elp hg3
                              have dg : decide (g.ln > 0) = false := by rw [hg]; rfl
                              have dg2 : decide (0 < g.ln) = false := dg
                              clear hg elp0 ht3 hn3
                              replace hg3 := hide hg3
                              have tk0 : True := trivial
                              go_wp2_with (first
                                | (have _t := tk0; clear tk0 _t; go_at_call 17; refine (unhide hg3 _ _ (unhide ht)).mono ?_; rintro ez wz0 ⟨rfl, bz0⟩; have szz0 := bz0.size; replace hB := hide ((unhide hB).trans (bz0.mono (unhide hB).size)); replace hN := hide ((unhide hN).grow bz0); replace hI := hide ((unhide hI).grow bz0); replace ht := hide ((unhide ht).grow bz0); replace hM := hide ((unhide hM).below bz0); clear bz0; replace hB := hide ((unhide hB).alloc (unhide hB).size (.cells #[.string (bz g.nm), .float .f64 g.rk, .int .u32 g.sm, .int .i64 g.bk, .int .i64 g.fr, .int .i64 g.ln] 26)); replace hN := hide ((unhide hN).grow ((Below.refl _ _).alloc (Nat.le_refl _) (.cells #[.string (bz g.nm), .float .f64 g.rk, .int .u32 g.sm, .int .i64 g.bk, .int .i64 g.fr, .int .i64 g.ln] 26))); replace hI := hide ((unhide hI).grow ((Below.refl _ _).alloc (Nat.le_refl _) (.cells #[.string (bz g.nm), .float .f64 g.rk, .int .u32 g.sm, .int .i64 g.bk, .int .i64 g.fr, .int .i64 g.ln] 26))); replace ht := hide ((unhide ht).grow ((Below.refl _ _).alloc (Nat.le_refl _) (.cells #[.string (bz g.nm), .float .f64 g.rk, .int .u32 g.sm, .int .i64 g.bk, .int .i64 g.fr, .int .i64 g.ln] 26))); replace hM := hide ((unhide hM).below ((Below.refl _ _).alloc (Nat.le_refl _) (.cells #[.string (bz g.nm), .float .f64 g.rk, .int .u32 g.sm, .int .i64 g.bk, .int .i64 g.fr, .int .i64 g.ln] 26))); (have qx := Blk.new (w := wz0) (cs := #[.string (bz g.nm), .float .f64 g.rk, .int .u32 g.sm, .int .i64 g.bk, .int .i64 g.fr, .int .i64 g.ln]) (t := 26) rfl); obtain ⟨x0, x1, x2, x3, x4, x5⟩ := bk6 qx; clear qx; (have lk := (unhide hM).look p3 (by omega)); rw [unhide elp] at lk)
                                | fail)
                              go_roundw
                              case rel => exact ⟨j + 1, by omega, by go_num, ht, hM, hN, hI, hB⟩
                              case measure => simp [intOf] <;> omega
                          · obtain rfl : j = k := by omega
                            go_wp2_with (fail)
                            go_roundw
                            case rel => exact ⟨i + 1, t, At, ct, by omega, rfl, by go_num, hTI, ht, hM, hN, hI, hB⟩
                            case measure => simp [intOf] <;> omega
                    | true =>
                      by_cases hbad : p ≠ q ∧ thereB t q = true
                      · rw [movR_there (unhide hT).tab hp2 hq2 htp hbad] at hmo
                        have htq := hbad.2
                        have dpq : (p != q) = true := by rw [bne_iff_ne]; exact hbad.1
                        have dpq2 : (p == q) = false := by rw [beq_eq_false_iff_ne]; exact hbad.1
                        replace hmo := hide hmo
                        clear hbad
                        have hTI : Hid (TI t (i + 1)) := hide ((unhide hT).same)
                        have hck : Hid (∀ W v, Fls 0 W.heap.size W v t → Calls Try.prog 21 #[v] W fun e w' => e = .returned (.int .i64 0) ∧ Below W.heap.size W w') := hide fun W v h => by
                          have := tcheck_any 0 W.heap.size v t W h (Nat.le_refl _) (unhide hTI).sm
                          rw [(unhide hTI).tab, err_t] at this
                          exact this
                        have hgt := hide (fun (p : List UInt8) (hp : p.length ≤ 200) W v (h : Fls 0 W.heap.size W v t) => get_any 0 W.heap.size v t p W h (Nat.le_refl _) (unhide hTI).sm (by omega))
                        have hLp : 1 ≤ lnOf t p := (unhide hT).pos htp
                        obtain ⟨Lp, eLp⟩ : ∃ z, z = lnOf t p := ⟨_, rfl⟩
                        rw [← eLp] at hLp
                        have elp : Hid (lnOf t p = Lp) := hide eLp.symm
                        have d1p : decide (Lp > 0) = true := decide_eq_true (by omega)
                        have d2p : decide (0 < Lp) = true := d1p
                        have d3p : (Lp == 0) = false := by rw [beq_eq_false_iff_ne]; omega
                        clear eLp htp hLp
                        have hLq : 1 ≤ lnOf t q := (unhide hT).pos htq
                        obtain ⟨Lq, eLq⟩ : ∃ z, z = lnOf t q := ⟨_, rfl⟩
                        rw [← eLq] at hLq
                        have elq : Hid (lnOf t q = Lq) := hide eLq.symm
                        have d1q : decide (Lq > 0) = true := decide_eq_true (by omega)
                        have d2q : decide (0 < Lq) = true := d1q
                        have d3q : (Lq == 0) = false := by rw [beq_eq_false_iff_ne]; omega
                        clear eLq htq hLq
                        as_aux_lemma =>
                          have tk0 : True := trivial
                          have tk1 : True := trivial
                          go_wp2_with (first
                            | (have _t := tk0; clear tk0 _t; go_at_call 15; refine (unhide hmo _ _ (unhide ht)).mono ?_; rintro ez wz0 ⟨v2, rfl, oht2, bz0⟩; have szz0 := bz0.size; replace hB := hide ((unhide hB).trans (bz0.mono (unhide hB).size)); replace hN := hide ((unhide hN).grow bz0); replace hI := hide ((unhide hI).grow bz0); replace ht := hide ((unhide ht).grow bz0); replace hM := hide ((unhide hM).below bz0); (have ht2 := hide (oht2.fls.mono (Nat.zero_le _) (Nat.le_refl _))); clear oht2; clear bz0; (have lkp := (unhide hM).look p (by omega)); rw [unhide elp] at lkp; (have lkq := (unhide hM).look q (by omega)); rw [unhide elq] at lkq; (have ml := (unhide hM).len))
                            | (have _t := tk1; clear tk1 _t; go_at_call 21; refine (unhide hck _ _ (unhide ht)).mono ?_; rintro ez wz1 ⟨rfl, bz1⟩; have szz1 := bz1.size; replace hB := hide ((unhide hB).trans (bz1.mono (unhide hB).size)); replace hN := hide ((unhide hN).grow bz1); replace hI := hide ((unhide hI).grow bz1); replace ht := hide ((unhide ht).grow bz1); replace hM := hide ((unhide hM).below bz1); replace ht2 := hide ((unhide ht2).grow bz1); clear bz1)
                            | fail)
                          have hM2 := hide ((unhide hM).mono (show i ≤ i + 1 by omega))
                          clear hM
                          go_loopw [172] (fun s wr => ∃ j : Nat, j ≤ k ∧ s = .int .i64 j ∧ Hid (Rd 6 fc 0 wr.heap.size wr (.slice At t.length ct) t) ∧ Hid (MapAt wr bm (i + 1) t) ∧ Hid (Rd 1 stc 0 wr.heap.size wr (.slice (some ⟨bp, offp, none⟩) k c) names) ∧ Hid (Rd 1 ivc 0 wr.heap.size wr (.slice (some ⟨b, off, none⟩) m c1) l) ∧ Hid (Below w.heap.size w wr)) (fun s _ => k - (intOf s).toNat)
                          case atStart => exact ⟨0, Nat.zero_le _, rfl, ht, hM2, hN, hI, hB⟩
                          case round =>
                            clear ht hM2 hN hI hB
                            obtain ⟨j, hj, rfl, ht, hM, hN, hI, hB⟩ := hrel
                            by_cases hlt3 : j < k
                            · have hjn : j < names.length := by rw [← unhide hn]; exact hlt3
                              obtain ⟨b3, off3, e4, hb3, hc3⟩ := (unhide hN).one hjn (u := .string (bz names[j])) rfl
                              injection e4 with e4
                              injection e4 with e5 e6
                              subst e5 e6
                              rw [← nmAt_get hjn] at hc3
                              obtain ⟨hp3, hn3⟩ := unhide hG j hlt3
                              obtain ⟨p3, hq3⟩ : ∃ p, p = nmAt names j := ⟨_, rfl⟩
                              rw [← hq3] at hc3 hp3 hn3
                              clear hq3 hjn
                              have hg3 := fun W v h => unhide hgt p3 hp3 W v h
                              cases ht3 : thereB t p3 with
                              | true =>
                                have hL3 : 1 ≤ lnOf t p3 := (unhide hTI).pos ht3
                                have elp : Hid (lnOf t p3 = (nth t (posn t p3)).ln) := hide (by unfold lnOf; rw [ht3]; rfl)
                                rw [getR_ok (unhide hTI).tab hn3 ht3] at hg3
                                obtain ⟨g, hg⟩ : ∃ g, g = nth t (posn t p3) := ⟨_, rfl⟩
                                rw [← hg] at elp hg3
                                have dg : decide (g.ln > 0) = true := decide_eq_true (by have := unhide elp; omega)
                                have dg2 : decide (0 < g.ln) = true := dg
                                clear hg hL3 ht3 hn3
                                replace hg3 := hide hg3
                                have tk0 : True := trivial
                                go_wp2_with (first
                                  | (have _t := tk0; clear tk0 _t; go_at_call 17; refine (unhide hg3 _ _ (unhide ht)).mono ?_; rintro ez wz0 ⟨rfl, bz0⟩; have szz0 := bz0.size; replace hB := hide ((unhide hB).trans (bz0.mono (unhide hB).size)); replace hN := hide ((unhide hN).grow bz0); replace hI := hide ((unhide hI).grow bz0); replace ht := hide ((unhide ht).grow bz0); replace hM := hide ((unhide hM).below bz0); clear bz0; replace hB := hide ((unhide hB).alloc (unhide hB).size (.cells #[.string (bz g.nm), .float .f64 g.rk, .int .u32 g.sm, .int .i64 g.bk, .int .i64 g.fr, .int .i64 g.ln] 26)); replace hN := hide ((unhide hN).grow ((Below.refl _ _).alloc (Nat.le_refl _) (.cells #[.string (bz g.nm), .float .f64 g.rk, .int .u32 g.sm, .int .i64 g.bk, .int .i64 g.fr, .int .i64 g.ln] 26))); replace hI := hide ((unhide hI).grow ((Below.refl _ _).alloc (Nat.le_refl _) (.cells #[.string (bz g.nm), .float .f64 g.rk, .int .u32 g.sm, .int .i64 g.bk, .int .i64 g.fr, .int .i64 g.ln] 26))); replace ht := hide ((unhide ht).grow ((Below.refl _ _).alloc (Nat.le_refl _) (.cells #[.string (bz g.nm), .float .f64 g.rk, .int .u32 g.sm, .int .i64 g.bk, .int .i64 g.fr, .int .i64 g.ln] 26))); replace hM := hide ((unhide hM).below ((Below.refl _ _).alloc (Nat.le_refl _) (.cells #[.string (bz g.nm), .float .f64 g.rk, .int .u32 g.sm, .int .i64 g.bk, .int .i64 g.fr, .int .i64 g.ln] 26))); (have qx := Blk.new (w := wz0) (cs := #[.string (bz g.nm), .float .f64 g.rk, .int .u32 g.sm, .int .i64 g.bk, .int .i64 g.fr, .int .i64 g.ln]) (t := 26) rfl); obtain ⟨x0, x1, x2, x3, x4, x5⟩ := bk6 qx; clear qx; (have lk := (unhide hM).look p3 (by omega)); rw [unhide elp] at lk)
                                  | fail)
                                go_roundw
                                case rel => exact ⟨j + 1, by omega, by go_num, ht, hM, hN, hI, hB⟩
                                case measure => simp [intOf] <;> omega
                              | false =>
                                have elp0 : Hid (lnOf t p3 = noF.ln) := hide (ln_no ht3)
                                rw [getR_none (unhide hTI).tab hn3 ht3] at hg3
                                obtain ⟨g, hg⟩ : ∃ g, g = noF := ⟨_, rfl⟩
                                have elp := elp0
                                rw [← hg] at elp hg3
                                have dg : decide (g.ln > 0) = false := by rw [hg]; rfl
                                have dg2 : decide (0 < g.ln) = false := dg
                                clear hg elp0 ht3 hn3
                                replace hg3 := hide hg3
                                have tk0 : True := trivial
                                go_wp2_with (first
                                  | (have _t := tk0; clear tk0 _t; go_at_call 17; refine (unhide hg3 _ _ (unhide ht)).mono ?_; rintro ez wz0 ⟨rfl, bz0⟩; have szz0 := bz0.size; replace hB := hide ((unhide hB).trans (bz0.mono (unhide hB).size)); replace hN := hide ((unhide hN).grow bz0); replace hI := hide ((unhide hI).grow bz0); replace ht := hide ((unhide ht).grow bz0); replace hM := hide ((unhide hM).below bz0); clear bz0; replace hB := hide ((unhide hB).alloc (unhide hB).size (.cells #[.string (bz g.nm), .float .f64 g.rk, .int .u32 g.sm, .int .i64 g.bk, .int .i64 g.fr, .int .i64 g.ln] 26)); replace hN := hide ((unhide hN).grow ((Below.refl _ _).alloc (Nat.le_refl _) (.cells #[.string (bz g.nm), .float .f64 g.rk, .int .u32 g.sm, .int .i64 g.bk, .int .i64 g.fr, .int .i64 g.ln] 26))); replace hI := hide ((unhide hI).grow ((Below.refl _ _).alloc (Nat.le_refl _) (.cells #[.string (bz g.nm), .float .f64 g.rk, .int .u32 g.sm, .int .i64 g.bk, .int .i64 g.fr, .int .i64 g.ln] 26))); replace ht := hide ((unhide ht).grow ((Below.refl _ _).alloc (Nat.le_refl _) (.cells #[.string (bz g.nm), .float .f64 g.rk, .int .u32 g.sm, .int .i64 g.bk, .int .i64 g.fr, .int .i64 g.ln] 26))); replace hM := hide ((unhide hM).below ((Below.refl _ _).alloc (Nat.le_refl _) (.cells #[.string (bz g.nm), .float .f64 g.rk, .int .u32 g.sm, .int .i64 g.bk, .int .i64 g.fr, .int .i64 g.ln] 26))); (have qx := Blk.new (w := wz0) (cs := #[.string (bz g.nm), .float .f64 g.rk, .int .u32 g.sm, .int .i64 g.bk, .int .i64 g.fr, .int .i64 g.ln]) (t := 26) rfl); obtain ⟨x0, x1, x2, x3, x4, x5⟩ := bk6 qx; clear qx; (have lk := (unhide hM).look p3 (by omega)); rw [unhide elp] at lk)
                                  | fail)
                                go_roundw
                                case rel => exact ⟨j + 1, by omega, by go_num, ht, hM, hN, hI, hB⟩
                                case measure => simp [intOf] <;> omega
                            · obtain rfl : j = k := by omega
                              go_wp2_with (fail)
                              go_roundw
                              case rel => exact ⟨i + 1, t, At, ct, by omega, rfl, by go_num, hTI, ht, hM, hN, hI, hB⟩
                              case measure => simp [intOf] <;> omega
                      · rw [movR_ok (unhide hT).tab hp2 hq2 htp hbad] at hmo
                        have hTq0 := (unhide hT).mov (q := q) htp hq2 hq1 (by omega)
                        have hgm := nth_mem (posn_get (unhide hu) htp).1
                        have hgl := ok_ln (tab_ok (unhide hT).tab hgm)
                        have hg1 := (unhide hT).ln _ hgm
                        have hge : lnOf t p = (nth t (posn t p)).ln := by unfold lnOf; rw [htp]; rfl
                        unfold movF at hmo
                        obtain ⟨g, hg⟩ : ∃ g, g = nth t (posn t p) := ⟨_, rfl⟩
                        rw [← hg] at hTq0 hgl hg1 hge hmo
                        have elp := hide hge
                        have d3p : (g.ln == 0) = false := by rw [beq_eq_false_iff_ne]; omega
                        have hwf := i64_wf_of (show -9223372036854775808 ≤ g.ln ∧ g.ln ≤ 9223372036854775807 by omega)
                        have hud := hide (up_del (unhide hu) p)
                        obtain ⟨T, hTq⟩ : ∃ T, T = putF (delF t p) (nmF g q) := ⟨_, rfl⟩
                        rw [← hTq] at hmo hTq0
                        replace hmo := hide hmo; replace hTq := hide hTq
                        clear hg hgl hg1 hge hgm htp
                        have hTI : Hid (TI T (i + 1)) := hide (hTq0)
                        have hck : Hid (∀ W v, Fls 0 W.heap.size W v T → Calls Try.prog 21 #[v] W fun e w' => e = .returned (.int .i64 0) ∧ Below W.heap.size W w') := hide fun W v h => by
                          have := tcheck_any 0 W.heap.size v T W h (Nat.le_refl _) (unhide hTI).sm
                          rw [(unhide hTI).tab, err_t] at this
                          exact this
                        have hgt := hide (fun (p : List UInt8) (hp : p.length ≤ 200) W v (h : Fls 0 W.heap.size W v T) => get_any 0 W.heap.size v T p W h (Nat.le_refl _) (unhide hTI).sm (by omega))
                        clear hTq0
                        by_cases hpq : p = q
                        · have dpq : (p != q) = false := by rw [hpq]; simp
                          have dpq2 : (p == q) = true := by rw [hpq]; simp
                          clear hpq hbad
                          as_aux_lemma =>
                            have tk0 : True := trivial
                            have tk1 : True := trivial
                            go_wp2_with (first
                              | (have _t := tk0; clear tk0 _t; go_at_call 15; refine (unhide hmo _ _ (unhide ht)).mono ?_; rintro ez wz0 ⟨v2, rfl, oht2, bz0⟩; have szz0 := bz0.size; replace hB := hide ((unhide hB).trans (bz0.mono (unhide hB).size)); replace hN := hide ((unhide hN).grow bz0); replace hI := hide ((unhide hI).grow bz0); replace ht := hide ((unhide ht).grow bz0); replace hM := hide ((unhide hM).below bz0); obtain ⟨A2, c2, rfl, _⟩ := oht2.fls.open6; (have ht2 := hide (oht2.fls.mono (Nat.zero_le _) (Nat.le_refl _))); clear oht2; clear bz0; (have lkp := (unhide hM).look p (by omega)); rw [unhide elp] at lkp)
                              | (at_delete; refine wpList_mdel _ rfl _ _ rfl bm i t rfl (unhide hM) (unhide hu) p rfl (by omega) ?_; intro w5 hM5 tn; replace hB := hide ((unhide hB).trans (turn_below tn hbw)); replace hN := hide ((unhide hN).turn tn); replace hI := hide ((unhide hI).turn tn); replace ht := hide ((unhide ht).turn tn); replace ht2 := hide ((unhide ht2).turn tn); replace hM := hide hM5; clear tn hM5)
                              | (at_mapUpdate; refine wpList_mput _ rfl _ _ _ rfl bm i (delF t p) rfl (unhide hM) (by omega) (unhide hud) (nmF g q) rfl rfl (show q.length ≤ 1000 by omega) hwf ?_; intro w5 hM5 tn; replace hB := hide ((unhide hB).trans (turn_below tn hbw)); replace hN := hide ((unhide hN).turn tn); replace hI := hide ((unhide hI).turn tn); replace ht := hide ((unhide ht).turn tn); replace ht2 := hide ((unhide ht2).turn tn); rw [← unhide hTq] at hM5; replace hM := hide hM5; clear tn hM5; (have ml := (unhide hM).len))
                              | (have _t := tk1; clear tk1 _t; go_at_call 21; refine (unhide hck _ _ (unhide ht2)).mono ?_; rintro ez wz1 ⟨rfl, bz1⟩; have szz1 := bz1.size; replace hB := hide ((unhide hB).trans (bz1.mono (unhide hB).size)); replace hN := hide ((unhide hN).grow bz1); replace hI := hide ((unhide hI).grow bz1); replace ht := hide ((unhide ht).grow bz1); replace hM := hide ((unhide hM).below bz1); replace ht2 := hide ((unhide ht2).grow bz1); clear bz1)
                              | fail)
                            have hM2 := hide ((unhide hM).mono (show i + 1 ≤ i + 1 by omega))
                            clear hM
                            go_loopw [172] (fun s wr => ∃ j : Nat, j ≤ k ∧ s = .int .i64 j ∧ Hid (Rd 6 fc 0 wr.heap.size wr (.slice A2 T.length c2) T) ∧ Hid (MapAt wr bm (i + 1) T) ∧ Hid (Rd 1 stc 0 wr.heap.size wr (.slice (some ⟨bp, offp, none⟩) k c) names) ∧ Hid (Rd 1 ivc 0 wr.heap.size wr (.slice (some ⟨b, off, none⟩) m c1) l) ∧ Hid (Below w.heap.size w wr)) (fun s _ => k - (intOf s).toNat)
                            case atStart => exact ⟨0, Nat.zero_le _, rfl, ht2, hM2, hN, hI, hB⟩
                            case round =>
                              clear ht2 hM2 hN hI hB
                              obtain ⟨j, hj, rfl, ht, hM, hN, hI, hB⟩ := hrel
                              by_cases hlt3 : j < k
                              · have hjn : j < names.length := by rw [← unhide hn]; exact hlt3
                                obtain ⟨b3, off3, e4, hb3, hc3⟩ := (unhide hN).one hjn (u := .string (bz names[j])) rfl
                                injection e4 with e4
                                injection e4 with e5 e6
                                subst e5 e6
                                rw [← nmAt_get hjn] at hc3
                                obtain ⟨hp3, hn3⟩ := unhide hG j hlt3
                                obtain ⟨p3, hq3⟩ : ∃ p, p = nmAt names j := ⟨_, rfl⟩
                                rw [← hq3] at hc3 hp3 hn3
                                clear hq3 hjn
                                have hg3 := fun W v h => unhide hgt p3 hp3 W v h
                                cases ht3 : thereB T p3 with
                                | true =>
                                  have hL3 : 1 ≤ lnOf T p3 := (unhide hTI).pos ht3
                                  have elp : Hid (lnOf T p3 = (nth T (posn T p3)).ln) := hide (by unfold lnOf; rw [ht3]; rfl)
                                  rw [getR_ok (unhide hTI).tab hn3 ht3] at hg3
                                  obtain ⟨g, hg⟩ : ∃ g, g = nth T (posn T p3) := ⟨_, rfl⟩
                                  rw [← hg] at elp hg3
                                  have dg : decide (g.ln > 0) = true := decide_eq_true (by have := unhide elp; omega)
                                  have dg2 : decide (0 < g.ln) = true := dg
                                  clear hg hL3 ht3 hn3
                                  replace hg3 := hide hg3
                                  have tk0 : True := trivial
                                  go_wp2_with (first
                                    | (have _t := tk0; clear tk0 _t; go_at_call 17; refine (unhide hg3 _ _ (unhide ht)).mono ?_; rintro ez wz0 ⟨rfl, bz0⟩; have szz0 := bz0.size; replace hB := hide ((unhide hB).trans (bz0.mono (unhide hB).size)); replace hN := hide ((unhide hN).grow bz0); replace hI := hide ((unhide hI).grow bz0); replace ht := hide ((unhide ht).grow bz0); replace hM := hide ((unhide hM).below bz0); clear bz0; replace hB := hide ((unhide hB).alloc (unhide hB).size (.cells #[.string (bz g.nm), .float .f64 g.rk, .int .u32 g.sm, .int .i64 g.bk, .int .i64 g.fr, .int .i64 g.ln] 26)); replace hN := hide ((unhide hN).grow ((Below.refl _ _).alloc (Nat.le_refl _) (.cells #[.string (bz g.nm), .float .f64 g.rk, .int .u32 g.sm, .int .i64 g.bk, .int .i64 g.fr, .int .i64 g.ln] 26))); replace hI := hide ((unhide hI).grow ((Below.refl _ _).alloc (Nat.le_refl _) (.cells #[.string (bz g.nm), .float .f64 g.rk, .int .u32 g.sm, .int .i64 g.bk, .int .i64 g.fr, .int .i64 g.ln] 26))); replace ht := hide ((unhide ht).grow ((Below.refl _ _).alloc (Nat.le_refl _) (.cells #[.string (bz g.nm), .float .f64 g.rk, .int .u32 g.sm, .int .i64 g.bk, .int .i64 g.fr, .int .i64 g.ln] 26))); replace hM := hide ((unhide hM).below ((Below.refl _ _).alloc (Nat.le_refl _) (.cells #[.string (bz g.nm), .float .f64 g.rk, .int .u32 g.sm, .int .i64 g.bk, .int .i64 g.fr, .int .i64 g.ln] 26))); (have qx := Blk.new (w := wz0) (cs := #[.string (bz g.nm), .float .f64 g.rk, .int .u32 g.sm, .int .i64 g.bk, .int .i64 g.fr, .int .i64 g.ln]) (t := 26) rfl); obtain ⟨x0, x1, x2, x3, x4, x5⟩ := bk6 qx; clear qx; (have lk := (unhide hM).look p3 (by omega)); rw [unhide elp] at lk)
                                    | fail)
                                  go_roundw
                                  case rel => exact ⟨j + 1, by omega, by go_num, ht, hM, hN, hI, hB⟩
                                  case measure => simp [intOf] <;> omega
                                | false =>
                                  have elp0 : Hid (lnOf T p3 = noF.ln) := hide (ln_no ht3)
                                  rw [getR_none (unhide hTI).tab hn3 ht3] at hg3
                                  obtain ⟨g, hg⟩ : ∃ g, g = noF := ⟨_, rfl⟩
                                  have elp := elp0
                                  rw [← hg] at elp hg3
                                  have dg : decide (g.ln > 0) = false := by rw [hg]; rfl
                                  have dg2 : decide (0 < g.ln) = false := dg
                                  clear hg elp0 ht3 hn3
                                  replace hg3 := hide hg3
                                  have tk0 : True := trivial
                                  go_wp2_with (first
                                    | (have _t := tk0; clear tk0 _t; go_at_call 17; refine (unhide hg3 _ _ (unhide ht)).mono ?_; rintro ez wz0 ⟨rfl, bz0⟩; have szz0 := bz0.size; replace hB := hide ((unhide hB).trans (bz0.mono (unhide hB).size)); replace hN := hide ((unhide hN).grow bz0); replace hI := hide ((unhide hI).grow bz0); replace ht := hide ((unhide ht).grow bz0); replace hM := hide ((unhide hM).below bz0); clear bz0; replace hB := hide ((unhide hB).alloc (unhide hB).size (.cells #[.string (bz g.nm), .float .f64 g.rk, .int .u32 g.sm, .int .i64 g.bk, .int .i64 g.fr, .int .i64 g.ln] 26)); replace hN := hide ((unhide hN).grow ((Below.refl _ _).alloc (Nat.le_refl _) (.cells #[.string (bz g.nm), .float .f64 g.rk, .int .u32 g.sm, .int .i64 g.bk, .int .i64 g.fr, .int .i64 g.ln] 26))); replace hI := hide ((unhide hI).grow ((Below.refl _ _).alloc (Nat.le_refl _) (.cells #[.string (bz g.nm), .float .f64 g.rk, .int .u32 g.sm, .int .i64 g.bk, .int .i64 g.fr, .int .i64 g.ln] 26))); replace ht := hide ((unhide ht).grow ((Below.refl _ _).alloc (Nat.le_refl _) (.cells #[.string (bz g.nm), .float .f64 g.rk, .int .u32 g.sm, .int .i64 g.bk, .int .i64 g.fr, .int .i64 g.ln] 26))); replace hM := hide ((unhide hM).below ((Below.refl _ _).alloc (Nat.le_refl _) (.cells #[.string (bz g.nm), .float .f64 g.rk, .int .u32 g.sm, .int .i64 g.bk, .int .i64 g.fr, .int .i64 g.ln] 26))); (have qx := Blk.new (w := wz0) (cs := #[.string (bz g.nm), .float .f64 g.rk, .int .u32 g.sm, .int .i64 g.bk, .int .i64 g.fr, .int .i64 g.ln]) (t := 26) rfl); obtain ⟨x0, x1, x2, x3, x4, x5⟩ := bk6 qx; clear qx; (have lk := (unhide hM).look p3 (by omega)); rw [unhide elp] at lk)
                                    | fail)
                                  go_roundw
                                  case rel => exact ⟨j + 1, by omega, by go_num, ht, hM, hN, hI, hB⟩
                                  case measure => simp [intOf] <;> omega
                              · obtain rfl : j = k := by omega
                                go_wp2_with (fail)
                                go_roundw
                                case rel => exact ⟨i + 1, T, A2, c2, by omega, rfl, by go_num, hTI, ht, hM, hN, hI, hB⟩
                                case measure => simp [intOf] <;> omega
                        · have dpq : (p != q) = true := by rw [bne_iff_ne]; exact hpq
                          have dpq2 : (p == q) = false := by rw [beq_eq_false_iff_ne]; exact hpq
                          have htq : thereB t q = false := by
                            cases h : thereB t q with
                            | false => rfl
                            | true => exact absurd ⟨hpq, h⟩ hbad
                          have elq := hide (ln_no htq)
                          clear hpq hbad htq
                          as_aux_lemma =>
                            have tk0 : True := trivial
                            have tk1 : True := trivial
                            go_wp2_with (first
                              | (have _t := tk0; clear tk0 _t; go_at_call 15; refine (unhide hmo _ _ (unhide ht)).mono ?_; rintro ez wz0 ⟨v2, rfl, oht2, bz0⟩; have szz0 := bz0.size; replace hB := hide ((unhide hB).trans (bz0.mono (unhide hB).size)); replace hN := hide ((unhide hN).grow bz0); replace hI := hide ((unhide hI).grow bz0); replace ht := hide ((unhide ht).grow bz0); replace hM := hide ((unhide hM).below bz0); obtain ⟨A2, c2, rfl, _⟩ := oht2.fls.open6; (have ht2 := hide (oht2.fls.mono (Nat.zero_le _) (Nat.le_refl _))); clear oht2; clear bz0; (have lkp := (unhide hM).look p (by omega)); rw [unhide elp] at lkp; (have lkq := (unhide hM).look q (by omega)); rw [unhide elq] at lkq)
                              | (at_delete; refine wpList_mdel _ rfl _ _ rfl bm i t rfl (unhide hM) (unhide hu) p rfl (by omega) ?_; intro w5 hM5 tn; replace hB := hide ((unhide hB).trans (turn_below tn hbw)); replace hN := hide ((unhide hN).turn tn); replace hI := hide ((unhide hI).turn tn); replace ht := hide ((unhide ht).turn tn); replace ht2 := hide ((unhide ht2).turn tn); replace hM := hide hM5; clear tn hM5)
                              | (at_mapUpdate; refine wpList_mput _ rfl _ _ _ rfl bm i (delF t p) rfl (unhide hM) (by omega) (unhide hud) (nmF g q) rfl rfl (show q.length ≤ 1000 by omega) hwf ?_; intro w5 hM5 tn; replace hB := hide ((unhide hB).trans (turn_below tn hbw)); replace hN := hide ((unhide hN).turn tn); replace hI := hide ((unhide hI).turn tn); replace ht := hide ((unhide ht).turn tn); replace ht2 := hide ((unhide ht2).turn tn); rw [← unhide hTq] at hM5; replace hM := hide hM5; clear tn hM5; (have ml := (unhide hM).len))
                              | (have _t := tk1; clear tk1 _t; go_at_call 21; refine (unhide hck _ _ (unhide ht2)).mono ?_; rintro ez wz1 ⟨rfl, bz1⟩; have szz1 := bz1.size; replace hB := hide ((unhide hB).trans (bz1.mono (unhide hB).size)); replace hN := hide ((unhide hN).grow bz1); replace hI := hide ((unhide hI).grow bz1); replace ht := hide ((unhide ht).grow bz1); replace hM := hide ((unhide hM).below bz1); replace ht2 := hide ((unhide ht2).grow bz1); clear bz1)
                              | fail)
                            have hM2 := hide ((unhide hM).mono (show i + 1 ≤ i + 1 by omega))
                            clear hM
                            go_loopw [172] (fun s wr => ∃ j : Nat, j ≤ k ∧ s = .int .i64 j ∧ Hid (Rd 6 fc 0 wr.heap.size wr (.slice A2 T.length c2) T) ∧ Hid (MapAt wr bm (i + 1) T) ∧ Hid (Rd 1 stc 0 wr.heap.size wr (.slice (some ⟨bp, offp, none⟩) k c) names) ∧ Hid (Rd 1 ivc 0 wr.heap.size wr (.slice (some ⟨b, off, none⟩) m c1) l) ∧ Hid (Below w.heap.size w wr)) (fun s _ => k - (intOf s).toNat)
                            case atStart => exact ⟨0, Nat.zero_le _, rfl, ht2, hM2, hN, hI, hB⟩
                            case round =>
                              clear ht2 hM2 hN hI hB
                              obtain ⟨j, hj, rfl, ht, hM, hN, hI, hB⟩ := hrel
                              by_cases hlt3 : j < k
                              · have hjn : j < names.length := by rw [← unhide hn]; exact hlt3
                                obtain ⟨b3, off3, e4, hb3, hc3⟩ := (unhide hN).one hjn (u := .string (bz names[j])) rfl
                                injection e4 with e4
                                injection e4 with e5 e6
                                subst e5 e6
                                rw [← nmAt_get hjn] at hc3
                                obtain ⟨hp3, hn3⟩ := unhide hG j hlt3
                                obtain ⟨p3, hq3⟩ : ∃ p, p = nmAt names j := ⟨_, rfl⟩
                                rw [← hq3] at hc3 hp3 hn3
                                clear hq3 hjn
                                have hg3 := fun W v h => unhide hgt p3 hp3 W v h
                                cases ht3 : thereB T p3 with
                                | true =>
                                  have hL3 : 1 ≤ lnOf T p3 := (unhide hTI).pos ht3
                                  have elp : Hid (lnOf T p3 = (nth T (posn T p3)).ln) := hide (by unfold lnOf; rw [ht3]; rfl)
                                  rw [getR_ok (unhide hTI).tab hn3 ht3] at hg3
                                  obtain ⟨g, hg⟩ : ∃ g, g = nth T (posn T p3) := ⟨_, rfl⟩
                                  rw [← hg] at elp hg3
                                  have dg : decide (g.ln > 0) = true := decide_eq_true (by have := unhide elp; omega)
                                  have dg2 : decide (0 < g.ln) = true := dg
                                  clear hg hL3 ht3 hn3
                                  replace hg3 := hide hg3
                                  have tk0 : True := trivial
                                  go_wp2_with (first
                                    | (have _t := tk0; clear tk0 _t; go_at_call 17; refine (unhide hg3 _ _ (unhide ht)).mono ?_; rintro ez wz0 ⟨rfl, bz0⟩; have szz0 := bz0.size; replace hB := hide ((unhide hB).trans (bz0.mono (unhide hB).size)); replace hN := hide ((unhide hN).grow bz0); replace hI := hide ((unhide hI).grow bz0); replace ht := hide ((unhide ht).grow bz0); replace hM := hide ((unhide hM).below bz0); clear bz0; replace hB := hide ((unhide hB).alloc (unhide hB).size (.cells #[.string (bz g.nm), .float .f64 g.rk, .int .u32 g.sm, .int .i64 g.bk, .int .i64 g.fr, .int .i64 g.ln] 26)); replace hN := hide ((unhide hN).grow ((Below.refl _ _).alloc (Nat.le_refl _) (.cells #[.string (bz g.nm), .float .f64 g.rk, .int .u32 g.sm, .int .i64 g.bk, .int .i64 g.fr, .int .i64 g.ln] 26))); replace hI := hide ((unhide hI).grow ((Below.refl _ _).alloc (Nat.le_refl _) (.cells #[.string (bz g.nm), .float .f64 g.rk, .int .u32 g.sm, .int .i64 g.bk, .int .i64 g.fr, .int .i64 g.ln] 26))); replace ht := hide ((unhide ht).grow ((Below.refl _ _).alloc (Nat.le_refl _) (.cells #[.string (bz g.nm), .float .f64 g.rk, .int .u32 g.sm, .int .i64 g.bk, .int .i64 g.fr, .int .i64 g.ln] 26))); replace hM := hide ((unhide hM).below ((Below.refl _ _).alloc (Nat.le_refl _) (.cells #[.string (bz g.nm), .float .f64 g.rk, .int .u32 g.sm, .int .i64 g.bk, .int .i64 g.fr, .int .i64 g.ln] 26))); (have qx := Blk.new (w := wz0) (cs := #[.string (bz g.nm), .float .f64 g.rk, .int .u32 g.sm, .int .i64 g.bk, .int .i64 g.fr, .int .i64 g.ln]) (t := 26) rfl); obtain ⟨x0, x1, x2, x3, x4, x5⟩ := bk6 qx; clear qx; (have lk := (unhide hM).look p3 (by omega)); rw [unhide elp] at lk)
                                    | fail)
                                  go_roundw
                                  case rel => exact ⟨j + 1, by omega, by go_num, ht, hM, hN, hI, hB⟩
                                  case measure => simp [intOf] <;> omega
                                | false =>
                                  have elp0 : Hid (lnOf T p3 = noF.ln) := hide (ln_no ht3)
                                  rw [getR_none (unhide hTI).tab hn3 ht3] at hg3
                                  obtain ⟨g, hg⟩ : ∃ g, g = noF := ⟨_, rfl⟩
                                  have elp := elp0
                                  rw [← hg] at elp hg3
                                  have dg : decide (g.ln > 0) = false := by rw [hg]; rfl
                                  have dg2 : decide (0 < g.ln) = false := dg
                                  clear hg elp0 ht3 hn3
                                  replace hg3 := hide hg3
                                  have tk0 : True := trivial
                                  go_wp2_with (first
                                    | (have _t := tk0; clear tk0 _t; go_at_call 17; refine (unhide hg3 _ _ (unhide ht)).mono ?_; rintro ez wz0 ⟨rfl, bz0⟩; have szz0 := bz0.size; replace hB := hide ((unhide hB).trans (bz0.mono (unhide hB).size)); replace hN := hide ((unhide hN).grow bz0); replace hI := hide ((unhide hI).grow bz0); replace ht := hide ((unhide ht).grow bz0); replace hM := hide ((unhide hM).below bz0); clear bz0; replace hB := hide ((unhide hB).alloc (unhide hB).size (.cells #[.string (bz g.nm), .float .f64 g.rk, .int .u32 g.sm, .int .i64 g.bk, .int .i64 g.fr, .int .i64 g.ln] 26)); replace hN := hide ((unhide hN).grow ((Below.refl _ _).alloc (Nat.le_refl _) (.cells #[.string (bz g.nm), .float .f64 g.rk, .int .u32 g.sm, .int .i64 g.bk, .int .i64 g.fr, .int .i64 g.ln] 26))); replace hI := hide ((unhide hI).grow ((Below.refl _ _).alloc (Nat.le_refl _) (.cells #[.string (bz g.nm), .float .f64 g.rk, .int .u32 g.sm, .int .i64 g.bk, .int .i64 g.fr, .int .i64 g.ln] 26))); replace ht := hide ((unhide ht).grow ((Below.refl _ _).alloc (Nat.le_refl _) (.cells #[.string (bz g.nm), .float .f64 g.rk, .int .u32 g.sm, .int .i64 g.bk, .int .i64 g.fr, .int .i64 g.ln] 26))); replace hM := hide ((unhide hM).below ((Below.refl _ _).alloc (Nat.le_refl _) (.cells #[.string (bz g.nm), .float .f64 g.rk, .int .u32 g.sm, .int .i64 g.bk, .int .i64 g.fr, .int .i64 g.ln] 26))); (have qx := Blk.new (w := wz0) (cs := #[.string (bz g.nm), .float .f64 g.rk, .int .u32 g.sm, .int .i64 g.bk, .int .i64 g.fr, .int .i64 g.ln]) (t := 26) rfl); obtain ⟨x0, x1, x2, x3, x4, x5⟩ := bk6 qx; clear qx; (have lk := (unhide hM).look p3 (by omega)); rw [unhide elp] at lk)
                                    | fail)
                                  go_roundw
                                  case rel => exact ⟨j + 1, by omega, by go_num, ht, hM, hN, hI, hB⟩
                                  case measure => simp [intOf] <;> omega
                              · obtain rfl : j = k := by omega
                                go_wp2_with (fail)
                                go_roundw
                                case rel => exact ⟨i + 1, T, A2, c2, by omega, rfl, by go_num, hTI, ht, hM, hN, hI, hB⟩
                                case measure => simp [intOf] <;> omega
              · obtain rfl : i = m := by omega
                go_wp2
                go_ret
                exact ⟨rfl, unhide hB⟩
end Go.Proofs.Ytkgfmiicfegnlaa
