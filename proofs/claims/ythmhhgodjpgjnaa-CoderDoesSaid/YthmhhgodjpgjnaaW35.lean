import Derived.Test.YthmhhgodjpgjnaaW34
namespace Go.Proofs.Ythmhhgodjpgjnaa
open Go.RowKit

set_option maxHeartbeats 2000000 in
theorem Decode_bad (n : Int) (lo : Nat) (v v' : Value) (t : List Int) (w : World) (hv : Os lo w.heap.size w v t) (ht : okB t) (h : startE n t ≠ 0) :
    Calls Try.prog 12 #[.int .i64 n, v, v'] w fun e w' => e = .returned (.tuple #[.slice none 0 0, .int .i64 0, .int .i64 (startE n t)]) ∧ Below w.heap.size w w' := by
  have hN := fun W (hb : Below w.heap.size w W) => NewReader_bad n lo v t W (hv.grow hb) ht h
  obtain ⟨A, c, rfl, x1, x2, x3⟩ := hv.open
  generalize startE n t = E at *
  have hE : (E != 0) = true := by simpa using h
  clear hv x3 h
  replace hN := hide hN
  go_enter Try.func12, Try.ntmps12
  go_wp2_with (first
    | (go_at_call 16; refine (unhide hN _ (by (repeat (first | with_reducible exact Below.refl _ _ | with_reducible assumption | with_reducible refine Below.drew ?_ | with_reducible refine bl_alloc ?_ _ | with_reducible refine bl_call ?_ (by assumption) | (focus (with_reducible refine Below.setCell ?_ ?_ _; rotate_left; focus (first | omega | (simp <;> omega)))) | fail)))).mono ?_; rintro e w1 ⟨rfl, hb1⟩)
    | fail)
  go_ret3
  exact ⟨rfl, by (repeat (first | with_reducible exact Below.refl _ _ | with_reducible assumption | with_reducible refine Below.drew ?_ | with_reducible refine bl_alloc ?_ _ | with_reducible refine bl_call ?_ (by assumption) | (focus (with_reducible refine Below.setCell ?_ ?_ _; rotate_left; focus (first | omega | (simp <;> omega)))) | fail))⟩

theorem mkB (n : Nat) (hn : n ≤ 1000000) : ∃ cs : Array Value, cs.size = n * 1 ∧ ∀ W, (Instr.makeSlice 29 (.int .i64 0) (.int .i64 (n : Int))).run Try.prog W = .ok (.slice (some ⟨W.heap.size, 0, none⟩) 0 n) (W.alloc (.cells cs 4)) := by
  obtain ⟨i4, hi4, iz0, iz1, iz2⟩ := info4'
  refine ⟨madeCells (Value.bool false).cells (n * 1), ?_, fun W => ?_⟩
  · have hz : (madeCells (Value.bool false).cells (n * 1)).toList = List.replicate (n * 1) (.bool false) := toList_madeCells_one _ _
    rw [← Array.length_toList, hz, List.length_replicate]
  · have := run_make (P := Try.prog) W 29 4 i4 _ Try.underlying29 hi4 iz0 .i64 .i64 0 n (by omega) (by omega) (by rw [iz2]; omega) (by omega)
    rw [iz1] at this
    simpa using this

theorem Rdg.grown {base g gc cc gt ct : Nat} {w w' : World} {r : Rdr} {t : List Int} {base' n : Nat} {e : TypeId} {v : Value} {xs : List Value} (h : Rdg base g gc cc gt ct w r t) (ho : w.ownsRow base' e 1 v n xs) (hg : w.grownBy w' v.ownBlock) (h1 : e ≠ 79) (h2 : 3 ≠ e) (h3 : 5 ≠ e) : Rdg base g gc cc gt ct w' r t :=
  ⟨h.blk.grown hg (own_ne ho h.blk h1), own_grown h.c hg (own_own h.c ho h2), own_grown h.text hg (own_own h.text ho h3)⟩

set_option maxHeartbeats 4000000 in
theorem Decode_good (n : Nat) (hn : n ≤ 1024) (lo lo' : Nat) (v v' : Value) (t at_ : List Int) (w : World) (hv : Os lo w.heap.size w v t) (hv' : Is lo' w.heap.size w v' at_) (ht : okB t) (hl : t.length ≤ 1000000) (hl' : at_.length ≤ 1000) (h : startE n t = 0) :
    Calls Try.prog 12 #[.int .i64 n, v, v'] w fun e w' => ∃ A c, e = .returned (.tuple #[.slice A (rdA t [] (startR n t) at_).1.length c, .int .i64 (rdA t [] (startR n t) at_).2.1, .int .i64 (rdA t [] (startR n t) at_).2.2]) ∧
      w'.ownsRow w.heap.size 4 1 (.slice A (rdA t [] (startR n t) at_).1.length c) (rdA t [] (startR n t) at_).1.length ((rdA t [] (startR n t) at_).1.flatMap bvc) ∧ Below w.heap.size w w' := by
  obtain ⟨X, hX⟩ : ∃ X, X = rdA t [] (startR n t) at_ := ⟨_, rfl⟩
  rw [← hX]
  have hN := fun W (hb : Below w.heap.size w W) => NewReader_good n hn lo v t W (hv.grow hb) ht hl h
  have hok := okR_start (n := (n : Int)) (by omega) h ht
  have hlen5 := (startE_iff.1 h).2.1
  have hused : (startR (n : Int) t).used ≤ t.length := by simp only [startR]; omega
  obtain ⟨A, c, rfl, x1, x2, x3⟩ := hv.open
  obtain ⟨A', c', rfl, y1, y2, y3⟩ := hv'.open
  obtain ⟨cs, hms, hmk⟩ := mkB at_.length (by omega)
  obtain ⟨i4, hi4, iz0, iz1, iz2⟩ := info4'
  clear hv hv' x3 h hlen5
  replace hN := hide hN; replace y3 := hide y3; replace hok := hide hok; replace hused := hide hused; replace hX := hide hX; replace ht := hide ht; replace hms := hide hms
  go_enter Try.func12, Try.ntmps12
  go_wp2_with (first
    | (go_at_call 16; refine (unhide hN _ (by (repeat (first | with_reducible exact Below.refl _ _ | with_reducible assumption | with_reducible refine Below.drew ?_ | with_reducible refine bl_alloc ?_ _ | with_reducible refine bl_call ?_ (by assumption) | (focus (with_reducible refine Below.setCell ?_ ?_ _; rotate_left; focus (first | omega | (simp <;> omega)))) | fail)))).mono ?_; rintro e w1 ⟨g, gc, gt, ct, rfl, hR, hg, hb1⟩; replace hR := hide hR; replace hg := hide hg)
    | fail)
  have o1 := own_fresh w1 w.heap.size w1.heap.size 4 1 at_.length cs rfl hb1.size (by simp only [maxLen]; omega) (unhide hms)
  have R1 := (unhide hR).alloc (.cells cs 4)
  have B1 : Below w.heap.size w (w1.alloc (.cells cs 4)) := by (repeat (first | with_reducible exact Below.refl _ _ | with_reducible assumption | with_reducible refine Below.drew ?_ | with_reducible refine bl_alloc ?_ _ | with_reducible refine bl_call ?_ (by assumption) | (focus (with_reducible refine Below.setCell ?_ ?_ _; rotate_left; focus (first | omega | (simp <;> omega)))) | fail))
  generalize (w1.alloc (.cells cs 4)) = w2 at *
  replace o1 := hide o1; replace R1 := hide R1; replace B1 := hide B1
  clear hms hmk hR hb1
  go_loopw [11, 30] (fun l i wr => ∃ (k : Nat) (A : Option Addr) (c : Nat) (acc : List Bool) (r : Rdr), k ≤ at_.length ∧ i = .int .i64 k ∧ l = .slice A k c ∧ Hid (acc.length = k) ∧ Hid (X = rdA t acc r (at_.drop k)) ∧ Hid (OkR r) ∧ Hid (r.used ≤ t.length) ∧
    Hid (Rdg w.heap.size g gc n gt ct wr r t) ∧ Hid (wr.ownsRow w.heap.size 4 1 (.slice A k c) k (acc.flatMap bvc)) ∧ Hid (Below w.heap.size w wr)) (fun _ i _ => at_.length - (intOf i).toNat)
  case atStart => exact ⟨0, _, _, [], startR n t, Nat.zero_le _, rfl, rfl, hide rfl, hide (by rw [List.drop_zero]; exact unhide hX), hok, hused, R1, o1, B1⟩
  case round =>
    obtain ⟨k, A1, c1, acc, r, hk, rfl, rfl, ha, hXr, hkr, hur, hR, hO, hB⟩ := hrel
    clear o1 R1 B1 hok hused hX
    have hgg := (unhide hR).blk.lt
    have hgc := own_lt (unhide hR).c
    replace hgc := hide hgc
    by_cases hlt : k < at_.length
    · obtain ⟨b, off, rfl, g1, g2, q0⟩ := unhide y3 k hlt
      have c0 := ((unhide hB).cell (p := ⟨b, off + k, none⟩) g2).trans q0
      have hd : at_.drop k = at_[k] :: at_.drop (k + 1) := List.drop_eq_getElem_cons hlt
      have hX2 := unhide hXr
      rw [hd, rdA] at hX2
      generalize at_[k] = i at *
      have hP := fun W hW => Next_any w.heap.size g gc n gt ct i r t W hW (unhide hkr) (unhide ht) hl (unhide hur)
      have hkr2 := nextR_ok (i := i) (unhide ht) (unhide hkr)
      have hur2 := nextR_used (t := t) (r := r) (i := i) (unhide hur)
      generalize nextR t r i = Y at *
      obtain ⟨y0, y1', y2'⟩ := Y
      simp only [] at hX2 hP hkr2 hur2
      replace hP := hide hP; replace hkr2 := hide hkr2; replace hur2 := hide hur2
      clear q0 hd hXr hkr hur
      by_cases he : y2' = 0
      · rw [if_pos he] at hX2
        have he' : (y2' != 0) = false := by simpa using he
        replace hX2 := hide hX2
        subst he
        have b1 : k + 1 ≤ maxLen := by simp only [maxLen]; omega
        have b2 : (k + 1) * 1 ≤ 140737488355328 := by omega
        have s1 : ∀ u ∈ [Value.bool y0], u.oneCell' = true := by intro u hu; simp at hu; subst hu; rfl
        have i1 : IntKind.i64.wrap ((k : Int) + 1) = (k : Int) + 1 := IntWalk.i64_in _ (by omega)
        replace b1 := hide b1; replace b2 := hide b2; replace s1 := hide s1
        go_wp2_with (first
          | (go_at_call 18; refine (unhide hP _ (unhide hR)).mono ?_; rintro e w5 ⟨rfl, hR5, hb5⟩
             have o5 := own_but (unhide hO) hb5 (fun q hq cs hcs => by
               simp only [List.mem_cons, List.not_mem_nil, or_false] at hq
               rcases hq with rfl | rfl
               · exact (hcs.ne_ (unhide hR).blk (by decide)) rfl
               · exact own_not (unhide hR).c (by decide : (3 : TypeId) ≠ 4) hcs)
             have B5 : Below w.heap.size w w5 := (unhide hB).trans (hb5.below (by
               have h1 := unhide hg; have h2 := (unhide hgc).2
               simp only [List.mem_cons, List.not_mem_nil, or_false]
               rintro q (rfl | rfl) <;> assumption) (unhide hB).size)
             have oA := o5.alloc (.cells #[.bool y0] 4)
             have RA := hR5.alloc (.cells #[.bool y0] 4)
             have BA := B5.alloc B5.size (.cells #[.bool y0] 4)
             have sA : SrcOk (w5.alloc (.cells #[.bool y0] 4)) (some ⟨w5.heap.size, 0, none⟩) 1 [.bool y0] := SrcOk.blk (cur := [.bool y0]) (Blk.new rfl) fun j u hu => by simpa using hu
             replace oA := hide oA; replace RA := hide RA; replace BA := hide BA; replace sA := hide sA
             clear hR5 hb5 o5 B5)
          | (at_builtin
             refine wpList_app _ rfl (.tmp 43) (.tmp 45) 29 rfl w.heap.size 4 i4 _ 1 1 Try.underlying29 hi4 iz0 iz1 iz2 rfl (Nat.succ_pos _) _ k (acc.flatMap bvc) rfl (unhide oA) (some ⟨w5.heap.size, 0, none⟩) 1 1 [.bool y0] rfl rfl (unhide sA) (unhide s1) (unhide b1) (unhide b2) (unhide BA).size ?_
             intro v6 w6 o6 g6
             obtain ⟨A6, c6, rfl⟩ := ownsRow_form o6
             have R6 := (unhide RA).grown (unhide oA) g6 (by decide) (by decide) (by decide)
             have B6 : Below w.heap.size w w6 := bl_grown (unhide BA) g6 (own_base (unhide oA))
             replace o6 := hide o6; replace R6 := hide R6; replace B6 := hide B6
             clear g6)
          | fail)
        clear i1
        go_roundw
        case rel => exact ⟨k + 1, A6, c6, acc ++ [y0], y1', by omega, by go_num, rfl, hide (by rw [List.length_append, unhide ha]; rfl), hX2, hkr2, hur2, R6, hide (by rw [List.flatMap_append]; exact unhide o6), B6⟩
        case measure => simp [intOf]; omega
      · rw [if_neg he] at hX2
        have he' : (y2' != 0) = true := by simpa using he
        replace hX2 := hide hX2
        clear he
        go_wp2_with (first
          | (go_at_call 18; refine (unhide hP _ (unhide hR)).mono ?_; rintro e w5 ⟨rfl, hR5, hb5⟩; replace hR5 := hide hR5; replace hb5 := hide hb5)
          | fail)
        go_ret3
        rw [unhide hX2]
        exact ⟨none, 0, rfl, World.ownsRow_nil _ _ _ _, (unhide hB).trans ((unhide hb5).below (by
          have h1 := unhide hg; have h2 := (unhide hgc).2
          simp only [List.mem_cons, List.not_mem_nil, or_false]
          rintro q (rfl | rfl) <;> assumption) (unhide hB).size)⟩
    · obtain rfl : k = at_.length := by omega
      have hX2 := unhide hXr
      rw [List.drop_length, rdA] at hX2
      have d3 : wr.cell? ⟨g, 3, none⟩ = some (.int .i64 r.used) := (unhide hR).blk.cell 3
      have hU := fun W h => Used_any g r.used W h
      have hO2 := unhide hO
      replace hX2 := hide hX2; replace hU := hide hU; replace hO2 := hide hO2
      clear hXr hR hO
      go_wp2_with (first
        | (go_at_call 19; refine (unhide hU _ d3).mono ?_; rintro e w5 ⟨rfl, rfl⟩)
        | fail)
      go_ret3
      rw [unhide hX2]
      simp only []
      rw [unhide ha]
      exact ⟨A1, c1, rfl, unhide hO2, unhide hB⟩
end Go.Proofs.Ythmhhgodjpgjnaa
