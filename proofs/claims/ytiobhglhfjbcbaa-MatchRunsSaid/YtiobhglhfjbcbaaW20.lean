import Derived.Test.YtiobhglhfjbcbaaW19
namespace Go.Proofs.Ytiobhglhfjbcbaa
open Go.RowKit

theorem own_of_blk {w : World} {base g : Nat} {t : Tok} (hb : base ≤ g) (h : Blk w g 25 #[.int .u8 (n8 t.lit), .int .i64 t.len, .int .i64 t.dist]) : w.ownsRow base 25 3 (.slice (some ⟨g, 0, none⟩) 1 1) 1 ([t].flatMap tkv) :=
  ⟨by simp [tkv], .inr ⟨g, 1, _, rfl, hb, h, Nat.le_refl _, by simp [maxLen], rfl, rfl⟩⟩

theorem tk_src0 {w : World} {g : Nat} {n d : Int} (h : Blk w g 25 #[.int .u8 0, .int .i64 n, .int .i64 d]) : SrcOk w (some ⟨g, 0, none⟩) 1 (tkv ⟨0, n, d⟩) := tk_src' (o := 0) h

set_option maxRecDepth 100000 in
set_option maxHeartbeats 8000000 in
theorem runs_gate (c : UInt8) (n : Int) (w : World) (hg : ¬ (1 ≤ n ∧ n ≤ 300)) :
    Calls Try.prog 9 #[.int .u8 (n8 c), .int .i64 n] w fun e w' => e = .returned (.bool true) ∧ Below w.heap.size w w' := by
  have hd : (decide (n < 1) || decide (300 < n)) = true := by simp; omega
  clear hg
  go_enter Try.func9, Try.ntmps9
  go_wp2_with (go_at_call 10; refine (live_any _).mono ?_; rintro e w1 ⟨rfl, hb1⟩)
  all_goals go_ret
  all_goals exact ⟨rfl, hb1⟩

set_option maxRecDepth 100000 in
set_option maxHeartbeats 8000000 in
theorem runs_main (c : UInt8) (n : Nat) (w : World) (h1 : 1 ≤ n) (h3 : n ≤ 300) :
    Calls Try.prog 9 #[.int .u8 (n8 c), .int .i64 n] w fun e w' => e = .returned (.bool true) ∧ Below w.heap.size w w' := by
  obtain ⟨i0, hi0, iz0, iz1, iz2⟩ := info_parts info25
  obtain ⟨i5, hi5, jz0, jz1, jz2⟩ := info_parts info5
  have hmk : ∀ W : World, (Instr.makeSlice 22 (.int .i64 n) (.int .i64 n)).run Try.prog W = .ok (.slice (some ⟨W.heap.size, 0, none⟩) n n) (W.alloc (.cells (laid n c 0) 5)) := fun W => by
    rw [laid_make]
    exact run_mk 22 5 i5 _ 1 Try.underlying22 hi5 jz0 jz1 n (by rw [jz2]; omega) (by omega) W
  have hT := fun (g : Nat) (W : World) (h : Blk W g 5 (laid n c n)) => Tokens_at 0 _ _ W (laid_all h (by omega)) (by simp; omega) W (Below.refl _ _)
  rw [show (toksB (List.replicate n c)).length = (toksB (List.replicate n c)).length from rfl] at hT
  have htb := toksB_rep n c h1
  generalize toksB (List.replicate n c) = TB at *
  replace hT := hide hT; replace htb := hide htb
  go_enter Try.func9, Try.ntmps9
  go_wp2_with (go_at_call 10; refine (live_any _).mono ?_; rintro e w1 ⟨rfl, hb1⟩)
  obtain ⟨g, hg⟩ : ∃ g, g = w1.heap.size := ⟨_, rfl⟩
  rw [← hg]
  replace hg := hide hg; replace hmk := hide hmk
  go_loopw [25] (fun i wr => ∃ (k : Nat), k ≤ n ∧ i = .int .i64 k ∧ Hid (Below w.heap.size w wr) ∧ Hid (w.heap.size ≤ g) ∧ Hid (Blk wr g 5 (laid n c k))) (fun i _ => n - (intOf i).toNat)
  case atStart => exact ⟨0, Nat.zero_le _, rfl, hide (by (repeat (first | with_reducible exact Below.refl _ _ | with_reducible assumption | with_reducible refine Below.drew ?_ | with_reducible refine bl_alloc ?_ _ | with_reducible refine bl_call ?_ (by assumption) | (focus (with_reducible refine Below.setCell ?_ ?_ _; rotate_left; focus (first | omega | (simp <;> omega)))) | fail))), hide (by rw [unhide hg]; exact hb1.size), hide (Blk.new (unhide hg))⟩
  case round =>
    obtain ⟨k, hk, rfl, hb, hgw, hB⟩ := hrel
    by_cases hlt : k < n
    · have q0 := (unhide hB).cell k
      rw [laid_get n c k hlt] at q0
      have f0 := (unhide hB).frozen k
      have y0 : g < wr.heap.size := (unhide hB).lt
      go_wp2_with fail
      go_roundw
      case rel =>
        refine ⟨k + 1, by omega, by go_num, hide ?_, hgw, hide ?_⟩
        · exact (unhide hb).setCell (by simpa using unhide hgw) _
        · rw [← laid_set n c k hlt]; exact (unhide hB).set k _
      case measure => simp [intOf]; omega
    · obtain rfl : k = n := by omega
      clear hlt hk
      have hg2' := unhide hgw
      go_wp2_with fail
      replace hg2' := hide hg2'
      go_loopw [8, 9] (fun s8 s9 wx => ∃ (ts : List Tok) (m left k2 : Nat) (Lf : Int) (A : Option Addr) (c' : Nat), s8 = .slice A m c' ∧ s9 = .int .i64 Lf ∧ Lf = (left : Int) ∧ left ≤ k2 ∧ TB = ts ++ wantF c k2 left ∧ ts.length = m ∧ m + left ≤ 300 ∧ Hid (wx.ownsRow w.heap.size 25 3 (.slice A m c') m (ts.flatMap tkv)) ∧ Hid (Below w.heap.size w wx) ∧ Hid (Blk wx g 5 (laid k c k))) (fun _ i _ => (intOf i).toNat)
      case atStart =>
        refine ⟨[⟨c, 0, 0⟩], 1, k - 1, k - 1, (k : Int) - 1, _, 1, rfl, rfl, by omega, Nat.le_refl _, unhide htb, rfl, by omega, hide ?_, hide (bl_alloc (unhide hb) _), hide ((unhide hB).alloc _)⟩
        exact own_of_blk (t := ⟨c, 0, 0⟩) (unhide hb).size (Blk.new rfl)
      case round =>
        obtain ⟨ts, m, left, k2, Lf, A, c', rfl, rfl, hLf, hlk, hts, hm, hml, ho, hb, hB⟩ := hrel
        have j0 : 0 ≤ Lf := by omega
        have j1 : Lf ≤ 300 := by omega
        have i1 : IntKind.i64.wrap (Lf - 1) = Lf - 1 := IntWalk.i64_in _ (by omega)
        have i2 : IntKind.i64.wrap (Lf - 18) = Lf - 18 := IntWalk.i64_in _ (by omega)
        by_cases hz : 0 < Lf
        · by_cases h3' : Lf < 3
          · clear i2
            have hnl : m + 1 ≤ maxLen := by simp only [maxLen]; omega
            have hnb : (m + 1) * 24 ≤ 140737488355328 := by omega
            have htl : (tkv ⟨c, 0, 0⟩).length = 1 * 3 := rfl
            have hto := tkv_one ⟨c, 0, 0⟩
            have hfl := flat_snoc ts ⟨c, 0, 0⟩
            obtain ⟨k', hk', hw'⟩ := wantF_lit (c := c) hlk (by omega) (by omega)
            have hTB : TB = (ts ++ [⟨c, 0, 0⟩]) ++ wantF c k' (left - 1) := by rw [hts, hw', List.append_assoc]
            have hl2 : (ts ++ [(⟨c, 0, 0⟩ : Tok)]).length = m + 1 := by rw [List.length_append, hm]; rfl
            clear hw' hts
            replace hnl := hide hnl; replace hnb := hide hnb; replace htl := hide htl; replace hto := hide hto; replace hfl := hide hfl; replace hTB := hide hTB; replace hl2 := hide hl2; replace hm := hide hm; replace hk' := hide hk'; replace hLf := hide hLf; replace hml := hide hml
            go_wp2_with (first
              | (at_builtin
                 refine wpList_app _ rfl (.tmp 44) (.tmp 47) 29 rfl w.heap.size 25 i0 _ 3 24 Try.underlying29 hi0 iz0 iz1 iz2 rfl (Nat.succ_pos _) _ m (ts.flatMap tkv) rfl ((unhide ho).alloc _) (some ⟨wr.heap.size, 0, none⟩) 1 1 (tkv ⟨c, 0, 0⟩) rfl (unhide htl) (tk_src' (by (repeat (first | with_reducible assumption | (focus (with_reducible refine Blk.new ?_; focus (simp <;> fail))) | with_reducible refine Blk.set3 (a := .int .u8 0) (b := .int .i64 0) (c := .int .i64 0) ?_ | with_reducible refine Blk.alloc ?_ _ | with_reducible refine Blk.drew ?_ | (focus (with_reducible refine Blk.far ?_ ?_ _; rotate_left; focus (first | omega | (simp <;> omega)))) | (focus (with_reducible refine Blk.below ?_ hb1 ?_; rotate_left; focus (first | omega | (simp <;> omega)))) | (focus (with_reducible refine Blk.below ?_ hb2 ?_; rotate_left; focus (first | omega | (simp <;> omega)))) | (focus (with_reducible refine Blk.below ?_ hb3 ?_; rotate_left; focus (first | omega | (simp <;> omega)))) | (focus (with_reducible refine Blk.below ?_ hb4 ?_; rotate_left; focus (first | omega | (simp <;> omega)))) | (focus (with_reducible refine Blk.below ?_ hb5 ?_; rotate_left; focus (first | omega | (simp <;> omega)))) | (focus (with_reducible refine Blk.below ?_ hb6 ?_; rotate_left; focus (first | omega | (simp <;> omega)))) | (focus (with_reducible refine Blk.below ?_ hb7 ?_; rotate_left; focus (first | omega | (simp <;> omega)))) | (focus (with_reducible refine Blk.below ?_ hb8 ?_; rotate_left; focus (first | omega | (simp <;> omega)))) | (focus (with_reducible refine Blk.below ?_ hb9 ?_; rotate_left; focus (first | omega | (simp <;> omega)))) | (focus (with_reducible refine Blk.below ?_ hb10 ?_; rotate_left; focus (first | omega | (simp <;> omega)))) | (focus (with_reducible refine Blk.below ?_ hb11 ?_; rotate_left; focus (first | omega | (simp <;> omega)))) | (focus (with_reducible refine Blk.below ?_ hb12 ?_; rotate_left; focus (first | omega | (simp <;> omega)))) | fail)))) (unhide hto) (unhide hnl) (unhide hnb) (by have := (unhide hb).size; simp; omega) ?_
                 intro v2 w2 hown2 hg2
                 obtain ⟨A2, c2, rfl⟩ := ownsRow_form hown2
                 rw [unhide hfl] at hown2)
              | fail)
            go_roundw
            case rel =>
              have hk2 := unhide hk'
              have hLf2 := unhide hLf
              have hml2 := unhide hml
              refine ⟨ts ++ [⟨c, 0, 0⟩], m + 1, (left - 1), k', Lf - 1, A2, c2, rfl, rfl, by omega, by omega, unhide hTB, unhide hl2, by omega, hide hown2, hide ?_, hide ?_⟩
              · exact ((unhide hb).alloc (unhide hb).size _).grown hg2 (by have := (unhide hb).size; simp; omega) (own_base (unhide ho))
              · exact Blk.grown ((unhide hB).alloc _) hg2 (own_ne (unhide ho) (unhide hB) (by decide))
            case measure => simp [intOf]; omega
          · clear i1
            by_cases h18 : Lf ≤ 18
            · clear i2
              have hnl : m + 1 ≤ maxLen := by simp only [maxLen]; omega
              have hnb : (m + 1) * 24 ≤ 140737488355328 := by omega
              have htl : (tkv ⟨0, Lf, 1⟩).length = 1 * 3 := rfl
              have hto := tkv_one ⟨0, Lf, 1⟩
              have hfl := flat_snoc ts ⟨0, Lf, 1⟩
              obtain ⟨k', hk', hw'⟩ := wantF_rep (c := c) (m := left) hlk (by omega) (by omega)
              have hTB : TB = (ts ++ [⟨0, Lf, 1⟩]) ++ wantF c k' (left - left) := by rw [hts, hw', List.append_assoc, hLf]
              have hl2 : (ts ++ [(⟨0, Lf, 1⟩ : Tok)]).length = m + 1 := by rw [List.length_append, hm]; rfl
              clear hw' hts
              replace hnl := hide hnl; replace hnb := hide hnb; replace htl := hide htl; replace hto := hide hto; replace hfl := hide hfl; replace hTB := hide hTB; replace hl2 := hide hl2; replace hm := hide hm; replace hk' := hide hk'; replace hLf := hide hLf; replace hml := hide hml
              go_wp2_with (first
                | (at_builtin
                   refine wpList_app _ rfl (.tmp 51) (.tmp 54) 29 rfl w.heap.size 25 i0 _ 3 24 Try.underlying29 hi0 iz0 iz1 iz2 rfl (Nat.succ_pos _) _ m (ts.flatMap tkv) rfl ((unhide ho).alloc _) (some ⟨wr.heap.size, 0, none⟩) 1 1 (tkv ⟨0, Lf, 1⟩) rfl (unhide htl) (tk_src0 (by (repeat (first | with_reducible assumption | (focus (with_reducible refine Blk.new ?_; focus (simp <;> fail))) | with_reducible refine Blk.set3 (a := .int .u8 0) (b := .int .i64 0) (c := .int .i64 0) ?_ | with_reducible refine Blk.alloc ?_ _ | with_reducible refine Blk.drew ?_ | (focus (with_reducible refine Blk.far ?_ ?_ _; rotate_left; focus (first | omega | (simp <;> omega)))) | (focus (with_reducible refine Blk.below ?_ hb1 ?_; rotate_left; focus (first | omega | (simp <;> omega)))) | (focus (with_reducible refine Blk.below ?_ hb2 ?_; rotate_left; focus (first | omega | (simp <;> omega)))) | (focus (with_reducible refine Blk.below ?_ hb3 ?_; rotate_left; focus (first | omega | (simp <;> omega)))) | (focus (with_reducible refine Blk.below ?_ hb4 ?_; rotate_left; focus (first | omega | (simp <;> omega)))) | (focus (with_reducible refine Blk.below ?_ hb5 ?_; rotate_left; focus (first | omega | (simp <;> omega)))) | (focus (with_reducible refine Blk.below ?_ hb6 ?_; rotate_left; focus (first | omega | (simp <;> omega)))) | (focus (with_reducible refine Blk.below ?_ hb7 ?_; rotate_left; focus (first | omega | (simp <;> omega)))) | (focus (with_reducible refine Blk.below ?_ hb8 ?_; rotate_left; focus (first | omega | (simp <;> omega)))) | (focus (with_reducible refine Blk.below ?_ hb9 ?_; rotate_left; focus (first | omega | (simp <;> omega)))) | (focus (with_reducible refine Blk.below ?_ hb10 ?_; rotate_left; focus (first | omega | (simp <;> omega)))) | (focus (with_reducible refine Blk.below ?_ hb11 ?_; rotate_left; focus (first | omega | (simp <;> omega)))) | (focus (with_reducible refine Blk.below ?_ hb12 ?_; rotate_left; focus (first | omega | (simp <;> omega)))) | fail)))) (unhide hto) (unhide hnl) (unhide hnb) (by have := (unhide hb).size; simp; omega) ?_
                   intro v2 w2 hown2 hg2
                   obtain ⟨A2, c2, rfl⟩ := ownsRow_form hown2
                   rw [unhide hfl] at hown2)
                | fail)
              go_roundw
              case rel =>
                have hk2 := unhide hk'
                have hLf2 := unhide hLf
                have hml2 := unhide hml
                refine ⟨ts ++ [⟨0, Lf, 1⟩], m + 1, (left - left), k', 0, A2, c2, rfl, rfl, by omega, by omega, unhide hTB, unhide hl2, by omega, hide hown2, hide ?_, hide ?_⟩
                · exact ((unhide hb).alloc (unhide hb).size _).grown hg2 (by have := (unhide hb).size; simp; omega) (own_base (unhide ho))
                · exact Blk.grown ((unhide hB).alloc _) hg2 (own_ne (unhide ho) (unhide hB) (by decide))
              case measure => simp [intOf]; omega
            · have hnl : m + 1 ≤ maxLen := by simp only [maxLen]; omega
              have hnb : (m + 1) * 24 ≤ 140737488355328 := by omega
              have htl : (tkv ⟨0, 18, 1⟩).length = 1 * 3 := rfl
              have hto := tkv_one ⟨0, 18, 1⟩
              have hfl := flat_snoc ts ⟨0, 18, 1⟩
              obtain ⟨k', hk', hw'⟩ := wantF_rep (c := c) (m := 18) hlk (by omega) (by omega)
              have hTB : TB = (ts ++ [⟨0, 18, 1⟩]) ++ wantF c k' (left - 18) := by rw [hts, hw', List.append_assoc]; rfl
              have hl2 : (ts ++ [(⟨0, 18, 1⟩ : Tok)]).length = m + 1 := by rw [List.length_append, hm]; rfl
              clear hw' hts
              replace hnl := hide hnl; replace hnb := hide hnb; replace htl := hide htl; replace hto := hide hto; replace hfl := hide hfl; replace hTB := hide hTB; replace hl2 := hide hl2; replace hm := hide hm; replace hk' := hide hk'; replace hLf := hide hLf; replace hml := hide hml
              go_wp2_with (first
                | (at_builtin
                   refine wpList_app _ rfl (.tmp 51) (.tmp 54) 29 rfl w.heap.size 25 i0 _ 3 24 Try.underlying29 hi0 iz0 iz1 iz2 rfl (Nat.succ_pos _) _ m (ts.flatMap tkv) rfl ((unhide ho).alloc _) (some ⟨wr.heap.size, 0, none⟩) 1 1 (tkv ⟨0, 18, 1⟩) rfl (unhide htl) (tk_src0 (by (repeat (first | with_reducible assumption | (focus (with_reducible refine Blk.new ?_; focus (simp <;> fail))) | with_reducible refine Blk.set3 (a := .int .u8 0) (b := .int .i64 0) (c := .int .i64 0) ?_ | with_reducible refine Blk.alloc ?_ _ | with_reducible refine Blk.drew ?_ | (focus (with_reducible refine Blk.far ?_ ?_ _; rotate_left; focus (first | omega | (simp <;> omega)))) | (focus (with_reducible refine Blk.below ?_ hb1 ?_; rotate_left; focus (first | omega | (simp <;> omega)))) | (focus (with_reducible refine Blk.below ?_ hb2 ?_; rotate_left; focus (first | omega | (simp <;> omega)))) | (focus (with_reducible refine Blk.below ?_ hb3 ?_; rotate_left; focus (first | omega | (simp <;> omega)))) | (focus (with_reducible refine Blk.below ?_ hb4 ?_; rotate_left; focus (first | omega | (simp <;> omega)))) | (focus (with_reducible refine Blk.below ?_ hb5 ?_; rotate_left; focus (first | omega | (simp <;> omega)))) | (focus (with_reducible refine Blk.below ?_ hb6 ?_; rotate_left; focus (first | omega | (simp <;> omega)))) | (focus (with_reducible refine Blk.below ?_ hb7 ?_; rotate_left; focus (first | omega | (simp <;> omega)))) | (focus (with_reducible refine Blk.below ?_ hb8 ?_; rotate_left; focus (first | omega | (simp <;> omega)))) | (focus (with_reducible refine Blk.below ?_ hb9 ?_; rotate_left; focus (first | omega | (simp <;> omega)))) | (focus (with_reducible refine Blk.below ?_ hb10 ?_; rotate_left; focus (first | omega | (simp <;> omega)))) | (focus (with_reducible refine Blk.below ?_ hb11 ?_; rotate_left; focus (first | omega | (simp <;> omega)))) | (focus (with_reducible refine Blk.below ?_ hb12 ?_; rotate_left; focus (first | omega | (simp <;> omega)))) | fail)))) (unhide hto) (unhide hnl) (unhide hnb) (by have := (unhide hb).size; simp; omega) ?_
                   intro v2 w2 hown2 hg2
                   obtain ⟨A2, c2, rfl⟩ := ownsRow_form hown2
                   rw [unhide hfl] at hown2)
                | fail)
              go_roundw
              case rel =>
                have hk2 := unhide hk'
                have hLf2 := unhide hLf
                have hml2 := unhide hml
                refine ⟨ts ++ [⟨0, 18, 1⟩], m + 1, (left - 18), k', Lf - 18, A2, c2, rfl, rfl, by omega, by omega, unhide hTB, unhide hl2, by omega, hide hown2, hide ?_, hide ?_⟩
                · exact ((unhide hb).alloc (unhide hb).size _).grown hg2 (by have := (unhide hb).size; simp; omega) (own_base (unhide ho))
                · exact Blk.grown ((unhide hB).alloc _) hg2 (own_ne (unhide ho) (unhide hB) (by decide))
              case measure => simp [intOf]; omega
        · obtain rfl : left = 0 := by omega
          rw [wantF_zero, List.append_nil] at hts
          subst hts hm
          clear i1 i2 hLf htb
          have htk := Tks.own (unhide ho)
          have hT2 := unhide hT g wr (unhide hB)
          replace htk := hide htk; replace hT2 := hide hT2
          go_wp2_with (first
            | (go_at_call 13; refine (unhide hT2).mono ?_; rintro e w3 ⟨A3, c3, rfl, ht3, hb3⟩; replace ht3 := hide ht3)
            | (go_at_call 15; refine (same_any _ _ _ _ _ _ _ (unhide ht3) ((unhide htk).grow hb3)).mono ?_; rintro e w4 ⟨rfl, hb4⟩; rw [decide_eq_true rfl])
            | fail)
          go_ret
          have hb9 := unhide hb
          exact ⟨rfl, by (repeat (first | with_reducible exact Below.refl _ _ | with_reducible assumption | with_reducible refine Below.drew ?_ | with_reducible refine bl_alloc ?_ _ | with_reducible refine bl_call ?_ (by assumption) | (focus (with_reducible refine Below.setCell ?_ ?_ _; rotate_left; focus (first | omega | (simp <;> omega)))) | fail))⟩
end Go.Proofs.Ytiobhglhfjbcbaa
