import Derived.Test.YthjgnbjobinhdaaN1
namespace Go.Proofs.Ythjgnbjobinhdaa
open Go.RowKit
set_option maxRecDepth 100000

theorem i64_wf_of {z : Int} (h : -9223372036854775808 ≤ z ∧ z ≤ 9223372036854775807) : (Lit.int .i64 z).wf = true := by
  have e1 : IntKind.i64.min = -9223372036854775808 := by decide
  have e2 : IntKind.i64.max = 9223372036854775807 := by decide
  simp [Lit.wf]; omega
/-- The cells of a list of one cell each. -/
theorem Rd.one {α : Type} [Inhabited α] {f : α → List Value} {hi : Nat} {w : World} {A : Option Addr} {n c : Nat} {l : List α} (h : Rd 1 f 0 hi w (.slice A n c) l) {i : Nat} (hi' : i < l.length) {u : Value} (hu : (f (l[i]))[0]? = some u) :
    ∃ b off, A = some ⟨b, off, none⟩ ∧ b < hi ∧ w.cell? ⟨b, off + i, none⟩ = some u := by
  obtain ⟨A', c', e, h1, h2, h3⟩ := h
  injection e with e1 e2 e3
  obtain ⟨b, off, e4, _, hb, hc⟩ := h3 (by omega)
  refine ⟨b, off, e1.trans e4, hb, ?_⟩
  have := hc i hi' 0 u hu
  rwa [Nat.mul_one, Nat.add_zero] at this

set_option maxHeartbeats 16000000 in
theorem PinsCount_any (v : Value) (l : List Int) (w : World) (h : Rd 1 i8c 0 w.heap.size w v l) (hlb : ∀ x ∈ l, -128 ≤ x ∧ x ≤ 127) :
    Calls Try.prog 5 #[v] w fun e w' => e = .returned (.bool true) ∧ Below w.heap.size w w' := by
  have hL := fun W => live_any W
  have hB : Below w.heap.size w w := Below.refl _ _
  have hI := h
  obtain ⟨A, c, rfl, h1, h2, h3⟩ := h
  clear h3 h2
  have hmk := @run_makeMap Try.prog
  obtain ⟨m, hm⟩ : ∃ n, n = l.length := ⟨_, rfl⟩
  rw [← hm] at hI h1 ⊢
  replace hm := hide hm; replace h1 := hide h1
  replace hL := hide hL; replace hB := hide hB; replace hI := hide hI
  by_cases m60 : 60 < m
  · have d60 : decide ((m : Int) > 60) = true := decide_eq_true (by omega)
    have tk0 : True := trivial
    go_enter Try.func5, Try.ntmps5
    go_wp2_with (first
      | (have _t := tk0; clear tk0 _t; go_at_call 8; with_reducible refine (unhide hL _).mono ?_; rintro ez wz0 ⟨rfl, bz0⟩; have szz0 := bz0.size; replace hB := hide ((unhide hB).trans (bz0.mono (unhide hB).size)); replace hI := hide ((unhide hI).grow bz0); clear bz0)
      | fail)
    go_ret
    exact ⟨rfl, unhide hB⟩
  · have d60 : decide ((m : Int) > 60) = false := decide_eq_false (by omega)
    have tk0 : True := trivial
    go_enter Try.func5, Try.ntmps5
    go_upto_region 5 with (first
      | (have _t := tk0; clear tk0 _t; go_at_call 8; with_reducible refine (unhide hL _).mono ?_; rintro ez wz0 ⟨rfl, bz0⟩; have szz0 := bz0.size; replace hB := hide ((unhide hB).trans (bz0.mono (unhide hB).size)); replace hI := hide ((unhide hI).grow bz0); clear bz0)
      | fail)
    clear hL d60
    obtain ⟨bm, hbm⟩ : ∃ b, b = wz0.heap.size := ⟨_, rfl⟩
    obtain ⟨W1, hW1⟩ : ∃ W, W = wz0.alloc (.map #[] 0) := ⟨_, rfl⟩
    have hM : Hid (MapAt W1 bm 0 (manyP [])) := hide (by rw [hW1, hbm]; exact map_made _)
    have hbw : w.heap.size ≤ bm := by rw [hbm]; exact (unhide hB).size
    have hI1 : Hid (Rd 1 i8c 0 W1.heap.size W1 (.slice A m c) l) := hide (by rw [hW1]; exact (unhide hI).grow ((Below.refl _ _).alloc (Nat.le_refl _) _))
    have hB1 : Hid (Below w.heap.size w W1) := hide (by rw [hW1]; exact (unhide hB).alloc (unhide hB).size _)
    clear hI hB
    go_wp2_with (fail)
    rw [← hW1, ← hbm]
    clear hW1 hbm
    go_loopw [4, 28] (fun s4 s28 wr => ∃ (i : Nat) (t : List Pn) (At : Option Addr) (ct : Nat), i ≤ m ∧ s4 = .slice At t.length ct ∧ s28 = .int .i64 i ∧ Hid (PI t i) ∧ Hid (Pns 0 wr.heap.size wr (.slice At t.length ct) t) ∧ Hid (MapAt wr bm i (manyP t)) ∧ Hid (Rd 1 i8c 0 wr.heap.size wr (.slice A m c) l) ∧ Hid (Below w.heap.size w wr)) (fun _ i _ => m - (intOf i).toNat)
    case atStart => exact ⟨0, [], none, 0, Nat.zero_le _, rfl, rfl, hide pi_nil, hide (Rd.nil _ _ _ _ _), hM, hI1, hB1⟩
    case round =>
      clear hI1 hB1 hM
      obtain ⟨i, t, At, ct, him, rfl, rfl, hT, ht, hM, hI, hB⟩ := hrel
      by_cases hlt2 : i < m
      · have hil : i < l.length := by rw [← unhide hm]; exact hlt2
        obtain ⟨b, off, rfl, hb, hc⟩ := (unhide hI).one hil (u := .int .i8 l[i]) rfl
        have hzb := hlb _ (List.getElem_mem hil)
        obtain ⟨z, hz⟩ : ∃ z, z = l[i] := ⟨_, rfl⟩
        rw [← hz] at hc hzb
        obtain ⟨zb1, zb2⟩ := hzb
        clear hz hil
        by_cases hneg : z < 0
        · have dz' : decide (z < 0) = true := decide_eq_true hneg
          obtain ⟨g, hg⟩ : ∃ g, g = (-z) % 8 := ⟨_, rfl⟩
          have g0 : 0 ≤ g := by omega
          have g8 : g < 8 := by omega
          have z1 : IntKind.u64.wrap (-z) = -z := IntWalk.u64_in _ (by omega)
          have z2 : (-z).tmod 8 = g := by rw [Int.tmod_eq_emod_of_nonneg (by omega), hg]
          have z3 : -(z.tmod 8) = g := by rw [← Int.neg_tmod, z2]
          have z4 : (-z) % 8 = g := hg.symm
          clear hg
          have ho := fun W v (h : Pns 0 W.heap.size W v t) => Close_any 0 W.heap.size v t g W h (Nat.le_refl _) (unhide hT).pins.sm
          by_cases hn0 : manyP t g = 0
          · rw [(unhide hT).no g8 hn0, closeL_no (by rw [(unhide hT).no g8 hn0]; decide)] at ho
            have hxq := hide hn0
            have hT2 := hide (unhide hT).step
            replace ho := hide ho
            clear hn0
            as_aux_lemma =>
              have tk0 : True := trivial
              go_wp2_with (first
                | (have _t := tk0; clear tk0 _t; go_at_call 11; with_reducible refine (unhide ho _ _ (unhide ht)).mono ?_; rintro ez wz0 ⟨v2, rfl, oht2, bz0⟩; have szz0 := bz0.size; replace hB := hide ((unhide hB).trans (bz0.mono (unhide hB).size)); replace hI := hide ((unhide hI).grow bz0); replace ht := hide ((unhide ht).grow bz0); replace hM := hide ((unhide hM).below bz0); (have ht2 := hide (oht2.all)); clear oht2; clear bz0; (have lk := (unhide hM).look g g0 g8); rw [unhide hxq] at lk)
                | fail)
              have hM2 := hide ((unhide hM).mono (show i ≤ i + 1 by omega))
              have hS0 : Hid (lowP t ((0 : Nat) : Int) = []) := hide (low_zero (unhide hT2).pins)
              clear hM
              go_loopw [13, 14, 75] (fun s13 s14 s75 wr => ∃ j : Nat, j ≤ 8 ∧ s75 = .int .u64 j ∧ s13 = .int .u64 (lstP (lowP t j)) ∧ s14 = .int .i64 (lowP t j).length ∧ Hid (Pns 0 wr.heap.size wr (.slice At t.length ct) t) ∧ Hid (MapAt wr bm (i + 1) (manyP t)) ∧ Hid (Rd 1 i8c 0 wr.heap.size wr (.slice (some ⟨b, off, none⟩) m c) l) ∧ Hid (Below w.heap.size w wr)) (fun _ _ s _ => 8 - (intOf s).toNat)
              case atStart => exact ⟨0, Nat.zero_le _, rfl, by rw [unhide hS0]; rfl, by rw [unhide hS0]; rfl, ht, hM2, hI, hB⟩
              case round =>
                clear ht hM2 hI hB hS0
                obtain ⟨j, hj, rfl, rfl, rfl, ht, hM, hI, hB⟩ := hrel
                by_cases hlt3 : j < 8
                · have hlw : ∀ p ∈ lowP t (j : Int), p.g < (j : Int) := fun p hp => (mem_low.1 hp).2
                  have hmin := lst_min (n := manyP t (j : Int)) hlw (by omega)
                  have hsame := low_same (j := (j : Int)) (unhide hT2).pins
                  have hmore := low_more (j := (j : Int)) (unhide hT2).pins
                  have hlo := many_lo (unhide hT2).pins (j : Int)
                  have hll : (lowP t (j : Int)).length ≤ t.length := List.length_filter_le _ _
                  have hl64 := (unhide hT2).pins.len
                  have my : may t (j : Int) = true := may_iff.2 ⟨by omega, (unhide hT2).pins⟩
                  have hmm := fun W v (h : Pns 0 W.heap.size W v t) => Many_any 0 W.heap.size v t (j : Int) W h (Nat.le_refl _) (unhide hT2).pins.sm
                  unfold manyN manyE at hmm
                  rw [my, if_pos rfl, if_pos rfl] at hmm
                  have elp : Hid (∃ x, x = manyP t (j : Int)) := hide ⟨_, rfl⟩
                  obtain ⟨x, hx⟩ := unhide elp
                  rw [← hx] at hmm hmin hsame hmore hlo
                  replace hmm := hide hmm; replace hx := hide hx
                  have hj1 : ((j + 1 : Nat) : Int) = (j : Int) + 1 := by omega
                  clear my elp hlw
                  have jw : IntKind.u64.wrap ((j : Int) + 1) = (j : Int) + 1 := IntWalk.u64_in _ (by omega)
                  by_cases x0 : x = 0
                  · have e1 := hsame x0
                    rw [x0] at hmm hx
                    clear hmin hsame hmore hlo x0
                    replace e1 := hide e1; replace hj1 := hide hj1
                    have tk0 : True := trivial
                    go_wp2_with (first
                      | (have _t := tk0; clear tk0 _t; go_at_call 13; with_reducible refine (unhide hmm _ _ (unhide ht)).mono ?_; rintro ez wz0 ⟨rfl, bz0⟩; have szz0 := bz0.size; replace hB := hide ((unhide hB).trans (bz0.mono (unhide hB).size)); replace hI := hide ((unhide hI).grow bz0); replace ht := hide ((unhide ht).grow bz0); replace hM := hide ((unhide hM).below bz0); clear bz0; (have lk := (unhide hM).look (j : Int) (by omega) (by omega)); rw [← unhide hx] at lk)
                      | fail)
                    go_roundw
                    case rel => exact ⟨j + 1, by omega, by go_num, by rw [unhide hj1, unhide e1], by rw [unhide hj1, unhide e1], ht, hM, hI, hB⟩
                    case measure => simp [intOf] <;> omega
                  · have e1 := hmore x0
                    have dx : decide (0 < x) = true := decide_eq_true (by omega)
                    have px : 0 < x := by omega
                    clear hsame hmore hlo x0
                    replace hj1 := hide hj1
                    rcases hmin with ⟨d1, e2⟩ | ⟨d1, e2⟩
                    · have e3 : lstP (lowP t ((j : Int) + 1)) = lstP (lowP t (j : Int)) := by rw [e1, e2]
                      have e4 : (lowP t ((j : Int) + 1)).length = (lowP t (j : Int)).length + 1 := by rw [e1]; simp
                      clear e1 e2
                      generalize lstP (lowP t (j : Int)) = ls at *
                      generalize (lowP t (j : Int)).length = kn at *
                      replace e3 := hide e3; replace e4 := hide e4
                      have tk0 : True := trivial
                      go_wp2_with (first
                        | (have _t := tk0; clear tk0 _t; go_at_call 13; with_reducible refine (unhide hmm _ _ (unhide ht)).mono ?_; rintro ez wz0 ⟨rfl, bz0⟩; have szz0 := bz0.size; replace hB := hide ((unhide hB).trans (bz0.mono (unhide hB).size)); replace hI := hide ((unhide hI).grow bz0); replace ht := hide ((unhide ht).grow bz0); replace hM := hide ((unhide hM).below bz0); clear bz0; (have lk := (unhide hM).look (j : Int) (by omega) (by omega)); rw [← unhide hx] at lk)
                        | fail)
                      go_roundw
                      case rel => exact ⟨j + 1, by omega, by go_num, by rw [unhide hj1, unhide e3], by rw [unhide hj1, unhide e4]; go_num, ht, hM, hI, hB⟩
                      case measure => simp [intOf] <;> omega
                    · have e3 : lstP (lowP t ((j : Int) + 1)) = (j : Int) := by rw [e1, e2]
                      have e4 : (lowP t ((j : Int) + 1)).length = (lowP t (j : Int)).length + 1 := by rw [e1]; simp
                      clear e1 e2
                      generalize lstP (lowP t (j : Int)) = ls at *
                      generalize (lowP t (j : Int)).length = kn at *
                      replace e3 := hide e3; replace e4 := hide e4
                      have tk0 : True := trivial
                      go_wp2_with (first
                        | (have _t := tk0; clear tk0 _t; go_at_call 13; with_reducible refine (unhide hmm _ _ (unhide ht)).mono ?_; rintro ez wz0 ⟨rfl, bz0⟩; have szz0 := bz0.size; replace hB := hide ((unhide hB).trans (bz0.mono (unhide hB).size)); replace hI := hide ((unhide hI).grow bz0); replace ht := hide ((unhide ht).grow bz0); replace hM := hide ((unhide hM).below bz0); clear bz0; (have lk := (unhide hM).look (j : Int) (by omega) (by omega)); rw [← unhide hx] at lk)
                        | fail)
                      go_roundw
                      case rel => exact ⟨j + 1, by omega, by go_num, by rw [unhide hj1, unhide e3], by rw [unhide hj1, unhide e4]; go_num, ht, hM, hI, hB⟩
                      case measure => simp [intOf] <;> omega
                · obtain rfl : j = 8 := by omega
                  have e1 : lowP t ((8 : Nat) : Int) = t := low_all fun p hp => (unhide hT2).low p hp
                  rw [e1]
                  clear e1
                  have hle := fun W v (h : Pns 0 W.heap.size W v t) => Least_any 0 W.heap.size v t W h (Nat.le_refl _) (unhide hT2).pins.sm
                  rcases least_ok (unhide hT2).pins with ⟨z1, z2⟩ | ⟨z1, z2, z3⟩
                  · rw [z2] at hle
                    have hz : Hid (t.length = 0) := hide z1
                    rw [z1] at ht ⊢
                    clear z1 z2
                    generalize leastG t = lg at *
                    generalize lstP t = ls at *
                    replace hle := hide hle
                    have tk0 : True := trivial
                    go_wp2_with (first
                      | (have _t := tk0; clear tk0 _t; go_at_call 15; with_reducible refine (unhide hle _ _ (unhide ht)).mono ?_; rintro ez wz0 ⟨rfl, bz0⟩; have szz0 := bz0.size; replace hB := hide ((unhide hB).trans (bz0.mono (unhide hB).size)); replace hI := hide ((unhide hI).grow bz0); replace ht := hide ((unhide ht).grow bz0); replace hM := hide ((unhide hM).below bz0); clear bz0)
                      | fail)
                    go_roundw
                    case rel => exact ⟨i + 1, t, At, ct, by omega, by rw [unhide hz], by go_num, hT2, by rw [unhide hz]; exact ht, hM, hI, hB⟩
                    case measure => simp [intOf] <;> omega
                  · rw [z2, z3] at hle
                    have dz1 : decide (0 < (t.length : Int)) = true := decide_eq_true (by omega)
                    have dz2 : (0 : Int) < (t.length : Int) := by omega
                    clear z2 z3
                    generalize lstP t = ls at *
                    obtain ⟨tn, htn⟩ : ∃ n, n = t.length := ⟨_, rfl⟩
                    rw [← htn] at ht z1 dz1 dz2 ⊢
                    replace hle := hide hle; replace htn := hide htn
                    have tk0 : True := trivial
                    go_wp2_with (first
                      | (have _t := tk0; clear tk0 _t; go_at_call 15; with_reducible refine (unhide hle _ _ (unhide ht)).mono ?_; rintro ez wz0 ⟨rfl, bz0⟩; have szz0 := bz0.size; replace hB := hide ((unhide hB).trans (bz0.mono (unhide hB).size)); replace hI := hide ((unhide hI).grow bz0); replace ht := hide ((unhide ht).grow bz0); replace hM := hide ((unhide hM).below bz0); clear bz0)
                      | fail)
                    go_roundw
                    case rel => exact ⟨i + 1, t, At, ct, by omega, by rw [unhide htn], by go_num, hT2, by rw [← unhide htn]; exact ht, hM, hI, hB⟩
                    case measure => simp [intOf] <;> omega
          · obtain ⟨q1, q2, q3, q4⟩ := (unhide hT).close_ g0 g8 hn0
            rw [q1] at ho
            obtain ⟨T, hTq⟩ : ∃ T, T = closeL t g := ⟨_, rfl⟩
            rw [← hTq] at ho q2 q3 q4
            obtain ⟨x, hxq⟩ : ∃ x, x = manyP t g := ⟨_, rfl⟩
            have hx1 := many_lo (unhide hT).pins g
            rw [← hxq] at q4 hx1 hn0
            have dx : decide (0 < x) = true := decide_eq_true (by omega)
            have px : 0 < x := by omega
            have hT2 := hide q2; have hp1 := hide q3; have hp2 := hide q4
            replace ho := hide ho; replace hxq := hide hxq
            clear q1 q2 q3 q4 hTq hn0
            as_aux_lemma =>
              have tk0 : True := trivial
              go_wp2_with (first
                | (have _t := tk0; clear tk0 _t; go_at_call 11; with_reducible refine (unhide ho _ _ (unhide ht)).mono ?_; rintro ez wz0 ⟨v2, rfl, oht2, bz0⟩; have szz0 := bz0.size; replace hB := hide ((unhide hB).trans (bz0.mono (unhide hB).size)); replace hI := hide ((unhide hI).grow bz0); replace ht := hide ((unhide ht).grow bz0); replace hM := hide ((unhide hM).below bz0); obtain ⟨A2, c2, rfl⟩ := own_form oht2; (have ht2 := hide (oht2.all)); clear oht2; clear bz0; (have lk := (unhide hM).look g g0 g8); rw [← unhide hxq] at lk)
                | (at_mapUpdate; refine wpList_mput _ rfl _ _ _ rfl bm i (manyP t) (manyP T) rfl (unhide hM) (by omega) g g0 g8 rfl (by rw [unhide hp2]; rfl) (i64_wf_of (by rw [unhide hp2]; omega)) (unhide hp1) ?_; intro w5 hM5 tn; replace hI := hide ((unhide hI).turn tn); replace ht2 := hide ((unhide ht2).turn tn); replace hB := hide ((unhide hB).trans (turn_below tn hbw)); replace hM := hide hM5; clear tn hM5)
                | fail)
              have hM2 := hide ((unhide hM).mono (show i + 1 ≤ i + 1 by omega))
              have hS0 : Hid (lowP T ((0 : Nat) : Int) = []) := hide (low_zero (unhide hT2).pins)
              clear hM
              go_loopw [13, 14, 75] (fun s13 s14 s75 wr => ∃ j : Nat, j ≤ 8 ∧ s75 = .int .u64 j ∧ s13 = .int .u64 (lstP (lowP T j)) ∧ s14 = .int .i64 (lowP T j).length ∧ Hid (Pns 0 wr.heap.size wr (.slice A2 T.length c2) T) ∧ Hid (MapAt wr bm (i + 1) (manyP T)) ∧ Hid (Rd 1 i8c 0 wr.heap.size wr (.slice (some ⟨b, off, none⟩) m c) l) ∧ Hid (Below w.heap.size w wr)) (fun _ _ s _ => 8 - (intOf s).toNat)
              case atStart => exact ⟨0, Nat.zero_le _, rfl, by rw [unhide hS0]; rfl, by rw [unhide hS0]; rfl, ht2, hM2, hI, hB⟩
              case round =>
                clear ht2 hM2 hI hB hS0
                obtain ⟨j, hj, rfl, rfl, rfl, ht, hM, hI, hB⟩ := hrel
                by_cases hlt3 : j < 8
                · have hlw : ∀ p ∈ lowP T (j : Int), p.g < (j : Int) := fun p hp => (mem_low.1 hp).2
                  have hmin := lst_min (n := manyP T (j : Int)) hlw (by omega)
                  have hsame := low_same (j := (j : Int)) (unhide hT2).pins
                  have hmore := low_more (j := (j : Int)) (unhide hT2).pins
                  have hlo := many_lo (unhide hT2).pins (j : Int)
                  have hll : (lowP T (j : Int)).length ≤ T.length := List.length_filter_le _ _
                  have hl64 := (unhide hT2).pins.len
                  have my : may T (j : Int) = true := may_iff.2 ⟨by omega, (unhide hT2).pins⟩
                  have hmm := fun W v (h : Pns 0 W.heap.size W v T) => Many_any 0 W.heap.size v T (j : Int) W h (Nat.le_refl _) (unhide hT2).pins.sm
                  unfold manyN manyE at hmm
                  rw [my, if_pos rfl, if_pos rfl] at hmm
                  have elp : Hid (∃ x, x = manyP T (j : Int)) := hide ⟨_, rfl⟩
                  obtain ⟨x, hx⟩ := unhide elp
                  rw [← hx] at hmm hmin hsame hmore hlo
                  replace hmm := hide hmm; replace hx := hide hx
                  have hj1 : ((j + 1 : Nat) : Int) = (j : Int) + 1 := by omega
                  clear my elp hlw
                  have jw : IntKind.u64.wrap ((j : Int) + 1) = (j : Int) + 1 := IntWalk.u64_in _ (by omega)
                  by_cases x0 : x = 0
                  · have e1 := hsame x0
                    rw [x0] at hmm hx
                    clear hmin hsame hmore hlo x0
                    replace e1 := hide e1; replace hj1 := hide hj1
                    have tk0 : True := trivial
                    go_wp2_with (first
                      | (have _t := tk0; clear tk0 _t; go_at_call 13; with_reducible refine (unhide hmm _ _ (unhide ht)).mono ?_; rintro ez wz0 ⟨rfl, bz0⟩; have szz0 := bz0.size; replace hB := hide ((unhide hB).trans (bz0.mono (unhide hB).size)); replace hI := hide ((unhide hI).grow bz0); replace ht := hide ((unhide ht).grow bz0); replace hM := hide ((unhide hM).below bz0); clear bz0; (have lk := (unhide hM).look (j : Int) (by omega) (by omega)); rw [← unhide hx] at lk)
                      | fail)
                    go_roundw
                    case rel => exact ⟨j + 1, by omega, by go_num, by rw [unhide hj1, unhide e1], by rw [unhide hj1, unhide e1], ht, hM, hI, hB⟩
                    case measure => simp [intOf] <;> omega
                  · have e1 := hmore x0
                    have dx : decide (0 < x) = true := decide_eq_true (by omega)
                    have px : 0 < x := by omega
                    clear hsame hmore hlo x0
                    replace hj1 := hide hj1
                    rcases hmin with ⟨d1, e2⟩ | ⟨d1, e2⟩
                    · have e3 : lstP (lowP T ((j : Int) + 1)) = lstP (lowP T (j : Int)) := by rw [e1, e2]
                      have e4 : (lowP T ((j : Int) + 1)).length = (lowP T (j : Int)).length + 1 := by rw [e1]; simp
                      clear e1 e2
                      generalize lstP (lowP T (j : Int)) = ls at *
                      generalize (lowP T (j : Int)).length = kn at *
                      replace e3 := hide e3; replace e4 := hide e4
                      have tk0 : True := trivial
                      go_wp2_with (first
                        | (have _t := tk0; clear tk0 _t; go_at_call 13; with_reducible refine (unhide hmm _ _ (unhide ht)).mono ?_; rintro ez wz0 ⟨rfl, bz0⟩; have szz0 := bz0.size; replace hB := hide ((unhide hB).trans (bz0.mono (unhide hB).size)); replace hI := hide ((unhide hI).grow bz0); replace ht := hide ((unhide ht).grow bz0); replace hM := hide ((unhide hM).below bz0); clear bz0; (have lk := (unhide hM).look (j : Int) (by omega) (by omega)); rw [← unhide hx] at lk)
                        | fail)
                      go_roundw
                      case rel => exact ⟨j + 1, by omega, by go_num, by rw [unhide hj1, unhide e3], by rw [unhide hj1, unhide e4]; go_num, ht, hM, hI, hB⟩
                      case measure => simp [intOf] <;> omega
                    · have e3 : lstP (lowP T ((j : Int) + 1)) = (j : Int) := by rw [e1, e2]
                      have e4 : (lowP T ((j : Int) + 1)).length = (lowP T (j : Int)).length + 1 := by rw [e1]; simp
                      clear e1 e2
                      generalize lstP (lowP T (j : Int)) = ls at *
                      generalize (lowP T (j : Int)).length = kn at *
                      replace e3 := hide e3; replace e4 := hide e4
                      have tk0 : True := trivial
                      go_wp2_with (first
                        | (have _t := tk0; clear tk0 _t; go_at_call 13; with_reducible refine (unhide hmm _ _ (unhide ht)).mono ?_; rintro ez wz0 ⟨rfl, bz0⟩; have szz0 := bz0.size; replace hB := hide ((unhide hB).trans (bz0.mono (unhide hB).size)); replace hI := hide ((unhide hI).grow bz0); replace ht := hide ((unhide ht).grow bz0); replace hM := hide ((unhide hM).below bz0); clear bz0; (have lk := (unhide hM).look (j : Int) (by omega) (by omega)); rw [← unhide hx] at lk)
                        | fail)
                      go_roundw
                      case rel => exact ⟨j + 1, by omega, by go_num, by rw [unhide hj1, unhide e3], by rw [unhide hj1, unhide e4]; go_num, ht, hM, hI, hB⟩
                      case measure => simp [intOf] <;> omega
                · obtain rfl : j = 8 := by omega
                  have e1 : lowP T ((8 : Nat) : Int) = T := low_all fun p hp => (unhide hT2).low p hp
                  rw [e1]
                  clear e1
                  have hle := fun W v (h : Pns 0 W.heap.size W v T) => Least_any 0 W.heap.size v T W h (Nat.le_refl _) (unhide hT2).pins.sm
                  rcases least_ok (unhide hT2).pins with ⟨z1, z2⟩ | ⟨z1, z2, z3⟩
                  · rw [z2] at hle
                    have hz : Hid (T.length = 0) := hide z1
                    rw [z1] at ht ⊢
                    clear z1 z2
                    generalize leastG T = lg at *
                    generalize lstP T = ls at *
                    replace hle := hide hle
                    have tk0 : True := trivial
                    go_wp2_with (first
                      | (have _t := tk0; clear tk0 _t; go_at_call 15; with_reducible refine (unhide hle _ _ (unhide ht)).mono ?_; rintro ez wz0 ⟨rfl, bz0⟩; have szz0 := bz0.size; replace hB := hide ((unhide hB).trans (bz0.mono (unhide hB).size)); replace hI := hide ((unhide hI).grow bz0); replace ht := hide ((unhide ht).grow bz0); replace hM := hide ((unhide hM).below bz0); clear bz0)
                      | fail)
                    go_roundw
                    case rel => exact ⟨i + 1, T, A2, c2, by omega, by rw [unhide hz], by go_num, hT2, by rw [unhide hz]; exact ht, hM, hI, hB⟩
                    case measure => simp [intOf] <;> omega
                  · rw [z2, z3] at hle
                    have dz1 : decide (0 < (T.length : Int)) = true := decide_eq_true (by omega)
                    have dz2 : (0 : Int) < (T.length : Int) := by omega
                    clear z2 z3
                    generalize lstP T = ls at *
                    obtain ⟨tn, htn⟩ : ∃ n, n = T.length := ⟨_, rfl⟩
                    rw [← htn] at ht z1 dz1 dz2 ⊢
                    replace hle := hide hle; replace htn := hide htn
                    have tk0 : True := trivial
                    go_wp2_with (first
                      | (have _t := tk0; clear tk0 _t; go_at_call 15; with_reducible refine (unhide hle _ _ (unhide ht)).mono ?_; rintro ez wz0 ⟨rfl, bz0⟩; have szz0 := bz0.size; replace hB := hide ((unhide hB).trans (bz0.mono (unhide hB).size)); replace hI := hide ((unhide hI).grow bz0); replace ht := hide ((unhide ht).grow bz0); replace hM := hide ((unhide hM).below bz0); clear bz0)
                      | fail)
                    go_roundw
                    case rel => exact ⟨i + 1, T, A2, c2, by omega, by rw [unhide htn], by go_num, hT2, by rw [← unhide htn]; exact ht, hM, hI, hB⟩
                    case measure => simp [intOf] <;> omega
        · have dz' : decide (z < 0) = false := decide_eq_false hneg
          obtain ⟨g, hg⟩ : ∃ g, g = z % 8 := ⟨_, rfl⟩
          have g0 : 0 ≤ g := by omega
          have g8 : g < 8 := by omega
          have z1 : IntKind.u64.wrap z = z := IntWalk.u64_in _ (by omega)
          have z2 : z.tmod 8 = g := by rw [Int.tmod_eq_emod_of_nonneg (by omega), hg]
          have z4 : z % 8 = g := hg.symm
          clear hg
          obtain ⟨q1, q2, q3, q4⟩ := (unhide hT).open_ (by omega) g0 g8
          have ho := fun W v (h : Pns 0 W.heap.size W v t) => Open_any 0 W.heap.size v t g W h (Nat.le_refl _) (unhide hT).pins.sm
          rw [q1] at ho
          obtain ⟨T, hTq⟩ : ∃ T, T = openL t g := ⟨_, rfl⟩
          rw [← hTq] at ho q2 q3 q4
          obtain ⟨x, hxq⟩ : ∃ x, x = manyP t g := ⟨_, rfl⟩
          have hx1 := many_lo (unhide hT).pins g
          rw [← hxq] at q4 hx1
          have hT2 := hide q2; have hp1 := hide q3; have hp2 := hide q4
          replace ho := hide ho; replace hxq := hide hxq
          clear q1 q2 q3 q4 hTq
          as_aux_lemma =>
            have tk0 : True := trivial
            go_wp2_with (first
              | (have _t := tk0; clear tk0 _t; go_at_call 9; with_reducible refine (unhide ho _ _ (unhide ht)).mono ?_; rintro ez wz0 ⟨v2, rfl, oht2, bz0⟩; have szz0 := bz0.size; replace hB := hide ((unhide hB).trans (bz0.mono (unhide hB).size)); replace hI := hide ((unhide hI).grow bz0); replace ht := hide ((unhide ht).grow bz0); replace hM := hide ((unhide hM).below bz0); obtain ⟨A2, c2, rfl⟩ := own_form oht2; (have ht2 := hide (oht2.all)); clear oht2; clear bz0; (have lk := (unhide hM).look g g0 g8); rw [← unhide hxq] at lk)
              | (at_mapUpdate; refine wpList_mput _ rfl _ _ _ rfl bm i (manyP t) (manyP T) rfl (unhide hM) (by omega) g g0 g8 rfl (by rw [unhide hp2]; rfl) (i64_wf_of (by rw [unhide hp2]; omega)) (unhide hp1) ?_; intro w5 hM5 tn; replace hI := hide ((unhide hI).turn tn); replace ht2 := hide ((unhide ht2).turn tn); replace hB := hide ((unhide hB).trans (turn_below tn hbw)); replace hM := hide hM5; clear tn hM5)
              | fail)
            have hM2 := hide ((unhide hM).mono (show i + 1 ≤ i + 1 by omega))
            have hS0 : Hid (lowP T ((0 : Nat) : Int) = []) := hide (low_zero (unhide hT2).pins)
            clear hM
            go_loopw [13, 14, 75] (fun s13 s14 s75 wr => ∃ j : Nat, j ≤ 8 ∧ s75 = .int .u64 j ∧ s13 = .int .u64 (lstP (lowP T j)) ∧ s14 = .int .i64 (lowP T j).length ∧ Hid (Pns 0 wr.heap.size wr (.slice A2 T.length c2) T) ∧ Hid (MapAt wr bm (i + 1) (manyP T)) ∧ Hid (Rd 1 i8c 0 wr.heap.size wr (.slice (some ⟨b, off, none⟩) m c) l) ∧ Hid (Below w.heap.size w wr)) (fun _ _ s _ => 8 - (intOf s).toNat)
            case atStart => exact ⟨0, Nat.zero_le _, rfl, by rw [unhide hS0]; rfl, by rw [unhide hS0]; rfl, ht2, hM2, hI, hB⟩
            case round =>
              clear ht2 hM2 hI hB hS0
              obtain ⟨j, hj, rfl, rfl, rfl, ht, hM, hI, hB⟩ := hrel
              by_cases hlt3 : j < 8
              · have hlw : ∀ p ∈ lowP T (j : Int), p.g < (j : Int) := fun p hp => (mem_low.1 hp).2
                have hmin := lst_min (n := manyP T (j : Int)) hlw (by omega)
                have hsame := low_same (j := (j : Int)) (unhide hT2).pins
                have hmore := low_more (j := (j : Int)) (unhide hT2).pins
                have hlo := many_lo (unhide hT2).pins (j : Int)
                have hll : (lowP T (j : Int)).length ≤ T.length := List.length_filter_le _ _
                have hl64 := (unhide hT2).pins.len
                have my : may T (j : Int) = true := may_iff.2 ⟨by omega, (unhide hT2).pins⟩
                have hmm := fun W v (h : Pns 0 W.heap.size W v T) => Many_any 0 W.heap.size v T (j : Int) W h (Nat.le_refl _) (unhide hT2).pins.sm
                unfold manyN manyE at hmm
                rw [my, if_pos rfl, if_pos rfl] at hmm
                have elp : Hid (∃ x, x = manyP T (j : Int)) := hide ⟨_, rfl⟩
                obtain ⟨x, hx⟩ := unhide elp
                rw [← hx] at hmm hmin hsame hmore hlo
                replace hmm := hide hmm; replace hx := hide hx
                have hj1 : ((j + 1 : Nat) : Int) = (j : Int) + 1 := by omega
                clear my elp hlw
                have jw : IntKind.u64.wrap ((j : Int) + 1) = (j : Int) + 1 := IntWalk.u64_in _ (by omega)
                by_cases x0 : x = 0
                · have e1 := hsame x0
                  rw [x0] at hmm hx
                  clear hmin hsame hmore hlo x0
                  replace e1 := hide e1; replace hj1 := hide hj1
                  have tk0 : True := trivial
                  go_wp2_with (first
                    | (have _t := tk0; clear tk0 _t; go_at_call 13; with_reducible refine (unhide hmm _ _ (unhide ht)).mono ?_; rintro ez wz0 ⟨rfl, bz0⟩; have szz0 := bz0.size; replace hB := hide ((unhide hB).trans (bz0.mono (unhide hB).size)); replace hI := hide ((unhide hI).grow bz0); replace ht := hide ((unhide ht).grow bz0); replace hM := hide ((unhide hM).below bz0); clear bz0; (have lk := (unhide hM).look (j : Int) (by omega) (by omega)); rw [← unhide hx] at lk)
                    | fail)
                  go_roundw
                  case rel => exact ⟨j + 1, by omega, by go_num, by rw [unhide hj1, unhide e1], by rw [unhide hj1, unhide e1], ht, hM, hI, hB⟩
                  case measure => simp [intOf] <;> omega
                · have e1 := hmore x0
                  have dx : decide (0 < x) = true := decide_eq_true (by omega)
                  have px : 0 < x := by omega
                  clear hsame hmore hlo x0
                  replace hj1 := hide hj1
                  rcases hmin with ⟨d1, e2⟩ | ⟨d1, e2⟩
                  · have e3 : lstP (lowP T ((j : Int) + 1)) = lstP (lowP T (j : Int)) := by rw [e1, e2]
                    have e4 : (lowP T ((j : Int) + 1)).length = (lowP T (j : Int)).length + 1 := by rw [e1]; simp
                    clear e1 e2
                    generalize lstP (lowP T (j : Int)) = ls at *
                    generalize (lowP T (j : Int)).length = kn at *
                    replace e3 := hide e3; replace e4 := hide e4
                    have tk0 : True := trivial
                    go_wp2_with (first
                      | (have _t := tk0; clear tk0 _t; go_at_call 13; with_reducible refine (unhide hmm _ _ (unhide ht)).mono ?_; rintro ez wz0 ⟨rfl, bz0⟩; have szz0 := bz0.size; replace hB := hide ((unhide hB).trans (bz0.mono (unhide hB).size)); replace hI := hide ((unhide hI).grow bz0); replace ht := hide ((unhide ht).grow bz0); replace hM := hide ((unhide hM).below bz0); clear bz0; (have lk := (unhide hM).look (j : Int) (by omega) (by omega)); rw [← unhide hx] at lk)
                      | fail)
                    go_roundw
                    case rel => exact ⟨j + 1, by omega, by go_num, by rw [unhide hj1, unhide e3], by rw [unhide hj1, unhide e4]; go_num, ht, hM, hI, hB⟩
                    case measure => simp [intOf] <;> omega
                  · have e3 : lstP (lowP T ((j : Int) + 1)) = (j : Int) := by rw [e1, e2]
                    have e4 : (lowP T ((j : Int) + 1)).length = (lowP T (j : Int)).length + 1 := by rw [e1]; simp
                    clear e1 e2
                    generalize lstP (lowP T (j : Int)) = ls at *
                    generalize (lowP T (j : Int)).length = kn at *
                    replace e3 := hide e3; replace e4 := hide e4
                    have tk0 : True := trivial
                    go_wp2_with (first
                      | (have _t := tk0; clear tk0 _t; go_at_call 13; with_reducible refine (unhide hmm _ _ (unhide ht)).mono ?_; rintro ez wz0 ⟨rfl, bz0⟩; have szz0 := bz0.size; replace hB := hide ((unhide hB).trans (bz0.mono (unhide hB).size)); replace hI := hide ((unhide hI).grow bz0); replace ht := hide ((unhide ht).grow bz0); replace hM := hide ((unhide hM).below bz0); clear bz0; (have lk := (unhide hM).look (j : Int) (by omega) (by omega)); rw [← unhide hx] at lk)
                      | fail)
                    go_roundw
                    case rel => exact ⟨j + 1, by omega, by go_num, by rw [unhide hj1, unhide e3], by rw [unhide hj1, unhide e4]; go_num, ht, hM, hI, hB⟩
                    case measure => simp [intOf] <;> omega
              · obtain rfl : j = 8 := by omega
                have e1 : lowP T ((8 : Nat) : Int) = T := low_all fun p hp => (unhide hT2).low p hp
                rw [e1]
                clear e1
                have hle := fun W v (h : Pns 0 W.heap.size W v T) => Least_any 0 W.heap.size v T W h (Nat.le_refl _) (unhide hT2).pins.sm
                rcases least_ok (unhide hT2).pins with ⟨z1, z2⟩ | ⟨z1, z2, z3⟩
                · rw [z2] at hle
                  have hz : Hid (T.length = 0) := hide z1
                  rw [z1] at ht ⊢
                  clear z1 z2
                  generalize leastG T = lg at *
                  generalize lstP T = ls at *
                  replace hle := hide hle
                  have tk0 : True := trivial
                  go_wp2_with (first
                    | (have _t := tk0; clear tk0 _t; go_at_call 15; with_reducible refine (unhide hle _ _ (unhide ht)).mono ?_; rintro ez wz0 ⟨rfl, bz0⟩; have szz0 := bz0.size; replace hB := hide ((unhide hB).trans (bz0.mono (unhide hB).size)); replace hI := hide ((unhide hI).grow bz0); replace ht := hide ((unhide ht).grow bz0); replace hM := hide ((unhide hM).below bz0); clear bz0)
                    | fail)
                  go_roundw
                  case rel => exact ⟨i + 1, T, A2, c2, by omega, by rw [unhide hz], by go_num, hT2, by rw [unhide hz]; exact ht, hM, hI, hB⟩
                  case measure => simp [intOf] <;> omega
                · rw [z2, z3] at hle
                  have dz1 : decide (0 < (T.length : Int)) = true := decide_eq_true (by omega)
                  have dz2 : (0 : Int) < (T.length : Int) := by omega
                  clear z2 z3
                  generalize lstP T = ls at *
                  obtain ⟨tn, htn⟩ : ∃ n, n = T.length := ⟨_, rfl⟩
                  rw [← htn] at ht z1 dz1 dz2 ⊢
                  replace hle := hide hle; replace htn := hide htn
                  have tk0 : True := trivial
                  go_wp2_with (first
                    | (have _t := tk0; clear tk0 _t; go_at_call 15; with_reducible refine (unhide hle _ _ (unhide ht)).mono ?_; rintro ez wz0 ⟨rfl, bz0⟩; have szz0 := bz0.size; replace hB := hide ((unhide hB).trans (bz0.mono (unhide hB).size)); replace hI := hide ((unhide hI).grow bz0); replace ht := hide ((unhide ht).grow bz0); replace hM := hide ((unhide hM).below bz0); clear bz0)
                    | fail)
                  go_roundw
                  case rel => exact ⟨i + 1, T, A2, c2, by omega, by rw [unhide htn], by go_num, hT2, by rw [← unhide htn]; exact ht, hM, hI, hB⟩
                  case measure => simp [intOf] <;> omega
      · obtain rfl : i = m := by omega
        go_wp2
        go_ret
        exact ⟨rfl, unhide hB⟩
end Go.Proofs.Ythjgnbjobinhdaa
