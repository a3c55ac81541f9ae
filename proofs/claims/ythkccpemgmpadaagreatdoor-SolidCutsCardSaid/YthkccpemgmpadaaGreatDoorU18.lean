import Derived.Test.YthkccpemgmpadaaGreatDoorU17
namespace Go.Proofs.YthkccpemgmpadaaGreatDoor.P.M
set_option maxRecDepth 100000
open Go.RowKit
set_option maxHeartbeats 8000000 in
theorem rTokens_any (lo : Nat) (v : Value) (l : List UInt8) (w : World) (h : Bs lo w.heap.size w v l) (hl : l.length ≤ 65536) :
    Calls Tryz.prog 63 #[v] w fun e w' => ∃ A c, e = .returned (.tuple #[.slice A (toksB l).length c, .int .i64 0]) ∧ w'.ownsRow w.heap.size 79 3 (.slice A (toksB l).length c) (toksB l).length ((toksB l).flatMap tkv) ∧ Below w.heap.size w w' := by
  obtain ⟨i0, hi0, iz0, iz1, iz2⟩ := info_parts info25
  have hf := fun (i : Int) (t : Tok) (er : Int) (W : World) (hb : Below w.heap.size w W) => rFind_any lo v l i t er W (h.grow hb)
  obtain ⟨A, c, rfl, h1, h2, h3⟩ := h.open
  clear h
  replace hf := hide hf; replace h3 := hide h3
  go_enter Tryz.func63, Tryz.ntmps63
  go_wp2
  go_loopw [4, 5] (fun s4 s5 wr => ∃ (I : Int) (at_ k n c' : Nat) (ts : List Tok) (A' : Option Addr), s4 = .slice A' n c' ∧ s5 = .int .i64 I ∧ I = (at_ : Int) ∧ at_ ≤ l.length ∧ l.length ≤ at_ + k ∧ toksB l = ts ++ toksF l k at_ ∧ ts.length = n ∧ n ≤ at_ ∧ Hid (wr.ownsRow w.heap.size 79 3 (.slice A' n c') n (ts.flatMap tkv)) ∧ Hid (Below w.heap.size w wr)) (fun _ i _ => 65537 - (intOf i).toNat)
  case atStart => exact ⟨0, 0, l.length, 0, 0, [], none, rfl, rfl, rfl, Nat.zero_le _, by omega, rfl, rfl, Nat.le_refl _, hide (World.ownsRow_nil _ _ _ _), hide (by (repeat (first | with_reducible exact Below.refl _ _ | with_reducible assumption | with_reducible refine Below.drew ?_ | with_reducible refine bl_alloc ?_ _ | with_reducible refine bl_call ?_ (by assumption) | (focus (with_reducible refine Below.setCell ?_ ?_ _; rotate_left; focus (first | omega | (simp <;> omega)))) | fail)))⟩
  case round =>
    obtain ⟨I, at_, k, n, c', ts, A', rfl, rfl, hI, x1, x2, hts, hn, hna, hownH, hbH⟩ := hrel
    by_cases hlt : at_ < l.length
    · obtain ⟨k', hk', hnx⟩ := TokJ.next hts hlt x2
      obtain ⟨hok, hdist, hsz, hs1⟩ := nextT_ok hlt
      have hs18 := (okT_size hok).2
      have hfr := findR_at hlt hl
      obtain ⟨b, off, hA, g1, g2, q1⟩ := unhide h3 at_ hlt
      subst hA
      have hown := unhide hownH
      have hb := unhide hbH
      have c1 := (hb.cell (p := ⟨b, off + at_, none⟩) g2).trans q1
      have e1 : off + at_ = off + I.toNat := by omega
      rw [e1] at c1
      have i1 : 0 ≤ I := by omega
      have i2 : I < (l.length : Int) := by omega
      have i3 : (l.length : Int) ≤ 65536 := by omega
      have y1 : b < wr.heap.size := World.block_lt_of_cell? wr _ c1
      have hnl : n + 1 ≤ maxLen := by simp only [maxLen]; omega
      have hnb : (n + 1) * 24 ≤ 140737488355328 := by omega
      have htl : (tkv (nextT l at_)).length = 1 * 3 := rfl
      have hto := tkv_one (nextT l at_)
      have hfl := flat_snoc ts (nextT l at_)
      rw [← hI] at hfr
      by_cases hbz : (bestF l at_ (min at_ 256)).2 = 0
      · have hnt : nextT l at_ = ⟨l.getD at_ 0, 0, 0⟩ := by unfold nextT; rw [if_pos hbz]
        rw [if_pos hbz] at hfr
        have hfc := unhide hf I _ _ wr hb hfr
        have hlg := fun W => size_any (nextT l at_) W (okT_len0 hok)
        unfold tkV at hlg
        generalize nextT l at_ = T at *
        generalize l.getD at_ 0 = x at *
        subst hnt
        have hsx : sizeT ⟨x, 0, 0⟩ = 1 := rfl
        replace hsz : (at_ : Int) + 1 ≤ l.length := hsz
        replace hnx : toksB l = ts ++ [⟨x, 0, 0⟩] ++ toksF l k' (at_ + 1) := hnx
        replace hlg : ∀ W : World, Calls Tryz.prog 98 #[.agg #[.int .u8 (n8 x), .int .i64 0, .int .i64 0]] W fun e w' => e = .returned (.int .i64 1) ∧ Below W.heap.size W w' := hlg
        have s1 : I + 1 ≤ l.length := by omega
        have s2 : Hid (I + 1 = ((at_ + 1 : Nat) : Int) ∧ at_ + 1 ≤ l.length ∧ l.length ≤ at_ + 1 + k' ∧ n + 1 ≤ at_ + 1) := hide (by omega)
        replace hfc := hide hfc; replace hlg := hide hlg; replace hnx := hide hnx; replace hts := hide hts; replace hn := hide hn; replace hown := hide hown; replace hb := hide hb
        replace hnl := hide hnl; replace hnb := hide hnb; replace htl := hide htl; replace hto := hide hto; replace hfl := hide hfl
        clear hbz hfr hok hdist hsz hlt x2 x1 hk' q1 e1 hI g1 g2 hsx
        go_wp2_with (first
          | (go_at_call 97; refine (unhide hfc).mono ?_; rintro e w1 ⟨rfl, hb1⟩; obtain ⟨hc1, hf1⟩ := bcell hb1; have hz1 := hb1.size; have hown1 := own_below (unhide hown) hb1 (Nat.le_refl _); have hbw1 := bl_call (unhide hb) hb1; have hbs1 := hbw1.size; have y1' : w.heap.size ≤ w1.heap.size := hbs1; have y1b : b < w1.heap.size := Nat.lt_of_lt_of_le y1 hz1; replace hown1 := hide hown1; replace hbs1 := hide hbs1)
          | (at_builtin
             refine wpList_app _ rfl (.tmp 28) (.tmp 30) 77 rfl w.heap.size 79 i0 _ 3 24 Tryz.underlying77 hi0 iz0 iz1 iz2 rfl (Nat.succ_pos _) _ n (ts.flatMap tkv) rfl (own_below (unhide hown1) (B := w1.heap.size) (by (repeat (first | with_reducible exact Below.refl _ _ | with_reducible assumption | with_reducible refine Below.drew ?_ | with_reducible refine bl_alloc ?_ _ | with_reducible refine bl_call ?_ (by assumption) | (focus (with_reducible refine Below.setCell ?_ ?_ _; rotate_left; focus (first | omega | (simp <;> omega)))) | fail))) (Nat.le_refl _)) (some ⟨w1.heap.size + 1, 0, none⟩) 1 1 (tkv ⟨x, 0, 0⟩) rfl (unhide htl) (tk_src' (by (repeat (first | with_reducible assumption | (focus (with_reducible refine Blk.new ?_; focus (simp <;> fail))) | with_reducible refine Blk.set3 (a := .int .u8 0) (b := .int .i64 0) (c := .int .i64 0) ?_ | with_reducible refine Blk.alloc ?_ _ | with_reducible refine Blk.drew ?_ | (focus (with_reducible refine Blk.far ?_ ?_ _; rotate_left; focus (first | omega | (simp <;> omega)))) | (focus (with_reducible refine Blk.below ?_ hb1 ?_; rotate_left; focus (first | omega | (simp <;> omega)))) | (focus (with_reducible refine Blk.below ?_ hb2 ?_; rotate_left; focus (first | omega | (simp <;> omega)))) | (focus (with_reducible refine Blk.below ?_ hb3 ?_; rotate_left; focus (first | omega | (simp <;> omega)))) | (focus (with_reducible refine Blk.below ?_ hb4 ?_; rotate_left; focus (first | omega | (simp <;> omega)))) | (focus (with_reducible refine Blk.below ?_ hb5 ?_; rotate_left; focus (first | omega | (simp <;> omega)))) | (focus (with_reducible refine Blk.below ?_ hb6 ?_; rotate_left; focus (first | omega | (simp <;> omega)))) | (focus (with_reducible refine Blk.below ?_ hb7 ?_; rotate_left; focus (first | omega | (simp <;> omega)))) | (focus (with_reducible refine Blk.below ?_ hb8 ?_; rotate_left; focus (first | omega | (simp <;> omega)))) | (focus (with_reducible refine Blk.below ?_ hb9 ?_; rotate_left; focus (first | omega | (simp <;> omega)))) | (focus (with_reducible refine Blk.below ?_ hb10 ?_; rotate_left; focus (first | omega | (simp <;> omega)))) | (focus (with_reducible refine Blk.below ?_ hb11 ?_; rotate_left; focus (first | omega | (simp <;> omega)))) | (focus (with_reducible refine Blk.below ?_ hb12 ?_; rotate_left; focus (first | omega | (simp <;> omega)))) | fail)))) (unhide hto) (unhide hnl) (unhide hnb) (by have := unhide hbs1; simp; omega) ?_
             intro v2 w2 hown2 hg2
             obtain ⟨A2, c2, rfl⟩ := ownsRow_form hown2
             rw [unhide hfl] at hown2
             have N2 : Blk w2 w1.heap.size 79 #[.int .u8 (n8 x), .int .i64 0, .int .i64 0] := Blk.grown (by (repeat (first | with_reducible assumption | (focus (with_reducible refine Blk.new ?_; focus (simp <;> fail))) | with_reducible refine Blk.set3 (a := .int .u8 0) (b := .int .i64 0) (c := .int .i64 0) ?_ | with_reducible refine Blk.alloc ?_ _ | with_reducible refine Blk.drew ?_ | (focus (with_reducible refine Blk.far ?_ ?_ _; rotate_left; focus (first | omega | (simp <;> omega)))) | (focus (with_reducible refine Blk.below ?_ hb1 ?_; rotate_left; focus (first | omega | (simp <;> omega)))) | (focus (with_reducible refine Blk.below ?_ hb2 ?_; rotate_left; focus (first | omega | (simp <;> omega)))) | (focus (with_reducible refine Blk.below ?_ hb3 ?_; rotate_left; focus (first | omega | (simp <;> omega)))) | (focus (with_reducible refine Blk.below ?_ hb4 ?_; rotate_left; focus (first | omega | (simp <;> omega)))) | (focus (with_reducible refine Blk.below ?_ hb5 ?_; rotate_left; focus (first | omega | (simp <;> omega)))) | (focus (with_reducible refine Blk.below ?_ hb6 ?_; rotate_left; focus (first | omega | (simp <;> omega)))) | (focus (with_reducible refine Blk.below ?_ hb7 ?_; rotate_left; focus (first | omega | (simp <;> omega)))) | (focus (with_reducible refine Blk.below ?_ hb8 ?_; rotate_left; focus (first | omega | (simp <;> omega)))) | (focus (with_reducible refine Blk.below ?_ hb9 ?_; rotate_left; focus (first | omega | (simp <;> omega)))) | (focus (with_reducible refine Blk.below ?_ hb10 ?_; rotate_left; focus (first | omega | (simp <;> omega)))) | (focus (with_reducible refine Blk.below ?_ hb11 ?_; rotate_left; focus (first | omega | (simp <;> omega)))) | (focus (with_reducible refine Blk.below ?_ hb12 ?_; rotate_left; focus (first | omega | (simp <;> omega)))) | fail))) hg2 (vb_ne (own_vbelow (unhide hown1)) (Nat.le_refl _))
             have n20 := N2.cell 0
             have n21 := N2.cell 1
             have n22 := N2.cell 2
             simp at n20 n21 n22
             have y2 : w1.heap.size < w2.heap.size := N2.lt
             have hb2 : Below w.heap.size w w2 := bl_grown (by (repeat (first | with_reducible exact Below.refl _ _ | with_reducible assumption | with_reducible refine Below.drew ?_ | with_reducible refine bl_alloc ?_ _ | with_reducible refine bl_call ?_ (by assumption) | (focus (with_reducible refine Below.setCell ?_ ?_ _; rotate_left; focus (first | omega | (simp <;> omega)))) | fail))) hg2 (own_base (unhide hown1))
             replace hown2 := hide hown2; replace hb2 := hide hb2)
          | (go_at_call 98; refine (unhide hlg _).mono ?_; rintro e w3 ⟨rfl, hb3⟩)
          | fail)
        obtain ⟨z1, z2, z3, z4⟩ := unhide s2
        have hl2 : (ts ++ [(⟨x, 0, 0⟩ : Tok)]).length = n + 1 := by rw [List.length_append, unhide hn]; rfl
        replace hl2 := hide hl2; replace z1 := hide z1
        go_roundw
        case rel => exact ⟨I + 1, at_ + 1, k', n + 1, c2, ts ++ [⟨x, 0, 0⟩], A2, rfl, rfl, unhide z1, z2, z3, unhide hnx, unhide hl2, z4, hide (own_below (unhide hown2) hb3 (Nat.le_refl _)), hide (bl_call (unhide hb2) hb3)⟩
        case measure => simp [intOf]; omega
      · rw [if_neg hbz] at hfr
        have hfc := unhide hf I _ _ wr hb hfr
        have hlg := fun W => size_any (nextT l at_) W (okT_len0 hok)
        unfold tkV at hlg
        generalize nextT l at_ = t at *
        have s1 : I + sizeT t ≤ l.length := by omega
        have s2 : Hid (I + sizeT t = ((at_ + (sizeT t).toNat : Nat) : Int) ∧ at_ + (sizeT t).toNat ≤ l.length ∧ l.length ≤ at_ + (sizeT t).toNat + k' ∧ n + 1 ≤ at_ + (sizeT t).toNat) := hide (by omega)
        replace hfc := hide hfc; replace hlg := hide hlg; replace hnx := hide hnx; replace hts := hide hts; replace hn := hide hn; replace hown := hide hown; replace hb := hide hb
        replace hnl := hide hnl; replace hnb := hide hnb; replace htl := hide htl; replace hto := hide hto; replace hfl := hide hfl
        clear hbz hfr hok hdist hsz hlt x2 x1 hk' q1 c1 e1 hI g1 g2
        go_wp2_with (first
          | (go_at_call 97; refine (unhide hfc).mono ?_; rintro e w1 ⟨rfl, hb1⟩; obtain ⟨hc1, hf1⟩ := bcell hb1; have hz1 := hb1.size; have hown1 := own_below (unhide hown) hb1 (Nat.le_refl _); have hbw1 := bl_call (unhide hb) hb1; have hbs1 := hbw1.size; have y1' : w.heap.size ≤ w1.heap.size := hbs1; have y1b : b < w1.heap.size := Nat.lt_of_lt_of_le y1 hz1; replace hown1 := hide hown1; replace hbs1 := hide hbs1)
          | (at_builtin
             refine wpList_app _ rfl (.tmp 28) (.tmp 30) 77 rfl w.heap.size 79 i0 _ 3 24 Tryz.underlying77 hi0 iz0 iz1 iz2 rfl (Nat.succ_pos _) _ n (ts.flatMap tkv) rfl (own_below (unhide hown1) (B := w1.heap.size) (by (repeat (first | with_reducible exact Below.refl _ _ | with_reducible assumption | with_reducible refine Below.drew ?_ | with_reducible refine bl_alloc ?_ _ | with_reducible refine bl_call ?_ (by assumption) | (focus (with_reducible refine Below.setCell ?_ ?_ _; rotate_left; focus (first | omega | (simp <;> omega)))) | fail))) (Nat.le_refl _)) (some ⟨w1.heap.size + 1, 0, none⟩) 1 1 (tkv t) rfl (unhide htl) (tk_src (by (repeat (first | with_reducible assumption | (focus (with_reducible refine Blk.new ?_; focus (simp <;> fail))) | with_reducible refine Blk.set3 (a := .int .u8 0) (b := .int .i64 0) (c := .int .i64 0) ?_ | with_reducible refine Blk.alloc ?_ _ | with_reducible refine Blk.drew ?_ | (focus (with_reducible refine Blk.far ?_ ?_ _; rotate_left; focus (first | omega | (simp <;> omega)))) | (focus (with_reducible refine Blk.below ?_ hb1 ?_; rotate_left; focus (first | omega | (simp <;> omega)))) | (focus (with_reducible refine Blk.below ?_ hb2 ?_; rotate_left; focus (first | omega | (simp <;> omega)))) | (focus (with_reducible refine Blk.below ?_ hb3 ?_; rotate_left; focus (first | omega | (simp <;> omega)))) | (focus (with_reducible refine Blk.below ?_ hb4 ?_; rotate_left; focus (first | omega | (simp <;> omega)))) | (focus (with_reducible refine Blk.below ?_ hb5 ?_; rotate_left; focus (first | omega | (simp <;> omega)))) | (focus (with_reducible refine Blk.below ?_ hb6 ?_; rotate_left; focus (first | omega | (simp <;> omega)))) | (focus (with_reducible refine Blk.below ?_ hb7 ?_; rotate_left; focus (first | omega | (simp <;> omega)))) | (focus (with_reducible refine Blk.below ?_ hb8 ?_; rotate_left; focus (first | omega | (simp <;> omega)))) | (focus (with_reducible refine Blk.below ?_ hb9 ?_; rotate_left; focus (first | omega | (simp <;> omega)))) | (focus (with_reducible refine Blk.below ?_ hb10 ?_; rotate_left; focus (first | omega | (simp <;> omega)))) | (focus (with_reducible refine Blk.below ?_ hb11 ?_; rotate_left; focus (first | omega | (simp <;> omega)))) | (focus (with_reducible refine Blk.below ?_ hb12 ?_; rotate_left; focus (first | omega | (simp <;> omega)))) | fail)))) (unhide hto) (unhide hnl) (unhide hnb) (by have := unhide hbs1; simp; omega) ?_
             intro v2 w2 hown2 hg2
             obtain ⟨A2, c2, rfl⟩ := ownsRow_form hown2
             rw [unhide hfl] at hown2
             have N2 : Blk w2 w1.heap.size 79 #[.int .u8 (n8 t.lit), .int .i64 t.len, .int .i64 t.dist] := Blk.grown (by (repeat (first | with_reducible assumption | (focus (with_reducible refine Blk.new ?_; focus (simp <;> fail))) | with_reducible refine Blk.set3 (a := .int .u8 0) (b := .int .i64 0) (c := .int .i64 0) ?_ | with_reducible refine Blk.alloc ?_ _ | with_reducible refine Blk.drew ?_ | (focus (with_reducible refine Blk.far ?_ ?_ _; rotate_left; focus (first | omega | (simp <;> omega)))) | (focus (with_reducible refine Blk.below ?_ hb1 ?_; rotate_left; focus (first | omega | (simp <;> omega)))) | (focus (with_reducible refine Blk.below ?_ hb2 ?_; rotate_left; focus (first | omega | (simp <;> omega)))) | (focus (with_reducible refine Blk.below ?_ hb3 ?_; rotate_left; focus (first | omega | (simp <;> omega)))) | (focus (with_reducible refine Blk.below ?_ hb4 ?_; rotate_left; focus (first | omega | (simp <;> omega)))) | (focus (with_reducible refine Blk.below ?_ hb5 ?_; rotate_left; focus (first | omega | (simp <;> omega)))) | (focus (with_reducible refine Blk.below ?_ hb6 ?_; rotate_left; focus (first | omega | (simp <;> omega)))) | (focus (with_reducible refine Blk.below ?_ hb7 ?_; rotate_left; focus (first | omega | (simp <;> omega)))) | (focus (with_reducible refine Blk.below ?_ hb8 ?_; rotate_left; focus (first | omega | (simp <;> omega)))) | (focus (with_reducible refine Blk.below ?_ hb9 ?_; rotate_left; focus (first | omega | (simp <;> omega)))) | (focus (with_reducible refine Blk.below ?_ hb10 ?_; rotate_left; focus (first | omega | (simp <;> omega)))) | (focus (with_reducible refine Blk.below ?_ hb11 ?_; rotate_left; focus (first | omega | (simp <;> omega)))) | (focus (with_reducible refine Blk.below ?_ hb12 ?_; rotate_left; focus (first | omega | (simp <;> omega)))) | fail))) hg2 (vb_ne (own_vbelow (unhide hown1)) (Nat.le_refl _))
             have n20 := N2.cell 0
             have n21 := N2.cell 1
             have n22 := N2.cell 2
             simp at n20 n21 n22
             have y2 : w1.heap.size < w2.heap.size := N2.lt
             have hb2 : Below w.heap.size w w2 := bl_grown (by (repeat (first | with_reducible exact Below.refl _ _ | with_reducible assumption | with_reducible refine Below.drew ?_ | with_reducible refine bl_alloc ?_ _ | with_reducible refine bl_call ?_ (by assumption) | (focus (with_reducible refine Below.setCell ?_ ?_ _; rotate_left; focus (first | omega | (simp <;> omega)))) | fail))) hg2 (own_base (unhide hown1))
             replace hown2 := hide hown2; replace hb2 := hide hb2)
          | (go_at_call 98; refine (unhide hlg _).mono ?_; rintro e w3 ⟨rfl, hb3⟩)
          | fail)
        obtain ⟨z1, z2, z3, z4⟩ := unhide s2
        have hl2 : (ts ++ [t]).length = n + 1 := by rw [List.length_append, unhide hn]; rfl
        replace hl2 := hide hl2; replace z1 := hide z1
        go_roundw
        case rel => exact ⟨I + sizeT t, at_ + (sizeT t).toNat, k', n + 1, c2, ts ++ [t], A2, rfl, rfl, unhide z1, z2, z3, unhide hnx, unhide hl2, z4, hide (own_below (unhide hown2) hb3 (Nat.le_refl _)), hide (bl_call (unhide hb2) hb3)⟩
        case measure => simp [intOf]; omega
    · obtain rfl : at_ = l.length := by omega
      have ht := TokJ.end hts
      subst ht
      replace hts := hide hts; replace hn := hide hn
      have hI' : (l.length : Int) ≤ I := by omega
      clear hI
      go_wp2_with fail
      go_ret2
      rw [unhide hn]
      exact ⟨A', c', rfl, unhide hownH, unhide hbH⟩
end Go.Proofs.YthkccpemgmpadaaGreatDoor.P.M
