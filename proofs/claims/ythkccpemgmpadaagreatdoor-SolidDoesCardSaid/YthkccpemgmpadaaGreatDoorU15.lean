import Derived.Test.YthkccpemgmpadaaGreatDoorU14
import Derived.ScopeJumps
import Derived.Lib.SlBytesConst
import Derived.Laws.StructEq
namespace Go.Proofs.YthkccpemgmpadaaGreatDoor.P.M
set_option maxRecDepth 100000
open Go.RowKit
theorem wp_scope_jumps2 {P : Program} {a : Act} {w : World} {Q : Exit → Act → World → Prop} {c rest : Code} (l : Nat) (J : Act → World → Prop) (μ : Act → World → Nat) (hf : findLabel c l = some (Code.skip.seq rest))
    (pass : ∀ a w, J a w → rest.wp P (Exit.jump l (fun a' w' => J a' w' ∧ μ a' w' < μ a w) Q) a w)
    (first : (∀ a w, J a w → rest.wp P (Exit.jump l J Q) a w) → c.wp P (Exit.jump l J Q) a w) : (Code.scope c).wp P Q a w :=
  wp_scope_jumps l J μ hf (first fun a w h => Go.wp_mono (pass a w h) (by
    intro e a' w' hq
    cases e <;> first | exact hq | exact ⟨hq.1, hq.2.1⟩)) fun a w h => wp_seq (wp_skip (pass a w h))
theorem findR_at {l : List UInt8} {a : Nat} (h : a < l.length) (hL : l.length ≤ 65536) : findR l a = if (bestF l a (min a 256)).2 = 0 then (noT, 4) else (nextT l a, 0) := by
  unfold findR nextT
  rw [if_neg (by omega), if_neg (by omega), Int.toNat_natCast]
  split <;> rfl
theorem tk_src {w : World} {g : Nat} {t : Tok} (h : Blk w g 79 #[.int .u8 (n8 t.lit), .int .i64 t.len, .int .i64 t.dist]) : SrcOk w (some ⟨g, 0, none⟩) 1 (tkv t) := by
  refine fun _ => ⟨_, rfl, fun j u hu => ?_⟩
  have key : w.cell? ⟨g, j, none⟩ = some u := by
    rw [h.cell, ← hu]
    match j with
    | 0 => rfl
    | 1 => rfl
    | 2 => rfl
    | j + 3 => rfl
  unfold Addr.add
  split
  · rename_i h0; subst h0; exact key
  · rw [Nat.zero_add]; exact key
theorem tk_src' {w : World} {g : Nat} {o : UInt8} {n d : Int} (h : Blk w g 79 #[.int .u8 (n8 o), .int .i64 n, .int .i64 d]) : SrcOk w (some ⟨g, 0, none⟩) 1 (tkv ⟨o, n, d⟩) := tk_src (t := ⟨o, n, d⟩) h
theorem tkv_one (t : Tok) : ∀ u ∈ tkv t, u.oneCell' = true := by
  intro u hu
  simp [tkv] at hu
  rcases hu with rfl | rfl | rfl <;> rfl
theorem flat_snoc (ts : List Tok) (t : Tok) : ts.flatMap tkv ++ tkv t = (ts ++ [t]).flatMap tkv := by simp
theorem Blk.grown {w w' : World} {g : Nat} {t : TypeId} {cs : Array Value} {row : Option Nat} (h : Blk w g t cs) (hg : w.grownBy w' row) (hne : some g ≠ row) : Blk w' g t cs := (hg.block g h.lt hne).trans h
theorem vb_ne {B g : Nat} {v : Value} (h : VBelow B v) (hg : B ≤ g) : some g ≠ v.ownBlock := by
  intro e
  unfold Value.ownBlock at e
  split at e
  · rename_i a n c; have := h a n c rfl; injection e with e; omega
  · cases e
def TokJ (l : List UInt8) (A : Option Addr) (c : Nat) (w0 : World) (a : Act) (w : World) : Prop :=
  ∃ (I : Int) (at_ k n c' : Nat) (ts : List Tok) (A' : Option Addr) (u1 u6 u7 u8 u9 u10 u11 u12 u13 u14 u15 u16 u17 u18 u19 u20 u21 u22 u23 u24 u25 u26 u27 u28 u29 u30 u31 u32 u33 u34 u35 u36 : Value), a = ⟨#[.slice A l.length c, u1, .slice none 0 0, .int .i64 0, .slice A' n c', .int .i64 I, u6, u7, u8, u9, u10, u11, u12, u13, u14, u15, u16, u17, u18, u19, u20, u21, u22, u23, u24, u25, u26, u27, u28, u29, u30, u31, u32, u33, u34, u35, u36], []⟩ ∧
    I = (at_ : Int) ∧ at_ ≤ l.length ∧ l.length ≤ at_ + k ∧ toksB l = ts ++ toksF l k at_ ∧ ts.length = n ∧ n ≤ at_ ∧ w.ownsRow w0.heap.size 79 3 (.slice A' n c') n (ts.flatMap tkv) ∧ Below w0.heap.size w0 w
theorem TokJ.next {l : List UInt8} {at_ k : Nat} {ts : List Tok} (h : toksB l = ts ++ toksF l k at_) (h1 : at_ < l.length) (h2 : l.length ≤ at_ + k) :
    ∃ k', k = k' + 1 ∧ toksB l = (ts ++ [nextT l at_]) ++ toksF l k' (at_ + (sizeT (nextT l at_)).toNat) := by
  obtain ⟨k', rfl⟩ : ∃ k', k = k' + 1 := ⟨k - 1, by omega⟩
  refine ⟨k', rfl, ?_⟩
  rw [h, toksF, if_pos h1]
  simp
theorem TokJ.end {l : List UInt8} {k : Nat} {ts : List Tok} (h : toksB l = ts ++ toksF l k l.length) : toksB l = ts := by
  cases k <;> simpa [toksF] using h
set_option maxHeartbeats 4000000 in
theorem Tokens_any (lo : Nat) (v : Value) (l : List UInt8) (w : World) (h : Bs lo w.heap.size w v l) (hl : l.length ≤ 65536) :
    Calls Tryz.prog 54 #[v] w fun e w' => ∃ A c, e = .returned (.tuple #[.slice A (toksB l).length c, .int .i64 0]) ∧ w'.ownsRow w.heap.size 79 3 (.slice A (toksB l).length c) (toksB l).length ((toksB l).flatMap tkv) ∧ Below w.heap.size w w' := by
  obtain ⟨i0, hi0, iz0, iz1, iz2⟩ := info_parts info25
  have hf := fun (i : Int) (t : Tok) (er : Int) (W : World) (hb : Below w.heap.size w W) => Find_any lo v l i t er W (h.grow hb)
  obtain ⟨A, c, rfl, h1, h2, h3⟩ := h.open
  clear h
  replace hf := hide hf; replace h3 := hide h3
  go_enter Tryz.func54, Tryz.ntmps54
  go_wp2
  refine wp_scope_jumps2 0 (TokJ l A c w) (fun a' _ => 65537 - (intOf (a'.tmps.getD 5 undef)).toNat) rfl ?_ ?_
  · rintro a' wr ⟨I, at_, k, n, c', ts, A', u1, u6, u7, u8, u9, u10, u11, u12, u13, u14, u15, u16, u17, u18, u19, u20, u21, u22, u23, u24, u25, u26, u27, u28, u29, u30, u31, u32, u33, u34, u35, u36, rfl, hI, x1, x2, hts, hn, hna, hown, hb⟩
    by_cases hlt : at_ < l.length
    · obtain ⟨k', hk', hnx⟩ := TokJ.next hts hlt x2
      obtain ⟨hok, hdist, hsz, hs1⟩ := nextT_ok hlt
      have hs18 := (okT_size hok).2
      have hfr := findR_at hlt hl
      obtain ⟨b, off, hA, g1, g2, q1⟩ := unhide h3 at_ hlt
      subst hA
      have c1 := (hb.cell (p := ⟨b, off + at_, none⟩) g2).trans q1
      have e1 : off + at_ = off + I.toNat := by omega
      rw [e1] at c1
      have i1 : 0 ≤ I := by omega
      have i2 : I < (l.length : Int) := by omega
      have i3 : (l.length : Int) ≤ 65536 := by omega
      have y1 : b < wr.heap.size := World.block_lt_of_cell? wr _ c1
      have hnl : n + 1 ≤ maxLen := by simp only [maxLen]; omega
      have hnb : (n + 1) * 24 ≤ 140737488355328 := by omega
      have htl : (tkv (nextT l at_)).length = 1 * 3 := rfl
      have hto := tkv_one (nextT l at_)
      have hfl := flat_snoc ts (nextT l at_)
      rw [← hI] at hfr
      by_cases hbz : (bestF l at_ (min at_ 256)).2 = 0
      · have hnt : nextT l at_ = ⟨l.getD at_ 0, 0, 0⟩ := by unfold nextT; rw [if_pos hbz]
        rw [if_pos hbz] at hfr
        have hfc := unhide hf I _ _ wr hb hfr
        have hlg := fun W => long_any (nextT l at_) W
        unfold tkV at hlg
        generalize nextT l at_ = T at *
        generalize l.getD at_ 0 = x at *
        subst hnt
        have hsx : sizeT ⟨x, 0, 0⟩ = 1 := rfl
        replace hsz : (at_ : Int) + 1 ≤ l.length := hsz
        replace hnx : toksB l = ts ++ [⟨x, 0, 0⟩] ++ toksF l k' (at_ + 1) := hnx
        replace hlg : ∀ W : World, Calls Tryz.prog 85 #[.agg #[.int .u8 (n8 x), .int .i64 0, .int .i64 0]] W fun e w' => e = .returned (.int .i64 1) ∧ Below W.heap.size W w' := hlg
        have s1 : I + 1 ≤ l.length := by omega
        have s2 : Hid (I + 1 = ((at_ + 1 : Nat) : Int) ∧ at_ + 1 ≤ l.length ∧ l.length ≤ at_ + 1 + k' ∧ n + 1 ≤ at_ + 1) := hide (by omega)
        replace hfc := hide hfc; replace hlg := hide hlg; replace hnx := hide hnx; replace hts := hide hts; replace hn := hide hn; replace hown := hide hown; replace hb := hide hb
        replace hnl := hide hnl; replace hnb := hide hnb; replace htl := hide htl; replace hto := hide hto; replace hfl := hide hfl
        clear hbz hfr hok hdist hsz hlt x2 x1 hk' q1 e1 hI g1 g2 hsx
        go_wp2_with (first
          | (go_at_call 84; refine (unhide hfc).mono ?_; rintro e w1 ⟨rfl, hb1⟩; obtain ⟨hc1, hf1⟩ := bcell hb1; have hz1 := hb1.size; have hown1 := own_below (unhide hown) hb1 (Nat.le_refl _); have hbw1 := bl_call (unhide hb) hb1; have hbs1 := hbw1.size; have y1' : w.heap.size ≤ w1.heap.size := hbs1; have y1b : b < w1.heap.size := Nat.lt_of_lt_of_le y1 hz1; replace hown1 := hide hown1; replace hbs1 := hide hbs1)
          | (at_builtin
             refine wpList_app _ rfl (.tmp 28) (.tmp 30) 77 rfl w.heap.size 79 i0 _ 3 24 Tryz.underlying77 hi0 iz0 iz1 iz2 rfl (Nat.succ_pos _) _ n (ts.flatMap tkv) rfl (own_below (unhide hown1) (B := w1.heap.size) (by (repeat (first | with_reducible exact Below.refl _ _ | with_reducible assumption | with_reducible refine Below.drew ?_ | with_reducible refine bl_alloc ?_ _ | with_reducible refine bl_call ?_ (by assumption) | (focus (with_reducible refine Below.setCell ?_ ?_ _; rotate_left; focus (first | omega | (simp <;> omega)))) | fail))) (Nat.le_refl _)) (some ⟨w1.heap.size + 1, 0, none⟩) 1 1 (tkv ⟨x, 0, 0⟩) rfl (unhide htl) (tk_src' (by (repeat (first | with_reducible assumption | (focus (with_reducible refine Blk.new ?_; focus (simp <;> fail))) | with_reducible refine Blk.set3 (a := .int .u8 0) (b := .int .i64 0) (c := .int .i64 0) ?_ | with_reducible refine Blk.alloc ?_ _ | with_reducible refine Blk.drew ?_ | (focus (with_reducible refine Blk.far ?_ ?_ _; rotate_left; focus (first | omega | (simp <;> omega)))) | (focus (with_reducible refine Blk.below ?_ hb1 ?_; rotate_left; focus (first | omega | (simp <;> omega)))) | (focus (with_reducible refine Blk.below ?_ hb2 ?_; rotate_left; focus (first | omega | (simp <;> omega)))) | (focus (with_reducible refine Blk.below ?_ hb3 ?_; rotate_left; focus (first | omega | (simp <;> omega)))) | (focus (with_reducible refine Blk.below ?_ hb4 ?_; rotate_left; focus (first | omega | (simp <;> omega)))) | (focus (with_reducible refine Blk.below ?_ hb5 ?_; rotate_left; focus (first | omega | (simp <;> omega)))) | (focus (with_reducible refine Blk.below ?_ hb6 ?_; rotate_left; focus (first | omega | (simp <;> omega)))) | (focus (with_reducible refine Blk.below ?_ hb7 ?_; rotate_left; focus (first | omega | (simp <;> omega)))) | (focus (with_reducible refine Blk.below ?_ hb8 ?_; rotate_left; focus (first | omega | (simp <;> omega)))) | (focus (with_reducible refine Blk.below ?_ hb9 ?_; rotate_left; focus (first | omega | (simp <;> omega)))) | (focus (with_reducible refine Blk.below ?_ hb10 ?_; rotate_left; focus (first | omega | (simp <;> omega)))) | (focus (with_reducible refine Blk.below ?_ hb11 ?_; rotate_left; focus (first | omega | (simp <;> omega)))) | (focus (with_reducible refine Blk.below ?_ hb12 ?_; rotate_left; focus (first | omega | (simp <;> omega)))) | fail)))) (unhide hto) (unhide hnl) (unhide hnb) (by have := unhide hbs1; simp; omega) ?_
             intro v2 w2 hown2 hg2
             obtain ⟨A2, c2, rfl⟩ := ownsRow_form hown2
             rw [unhide hfl] at hown2
             have N2 : Blk w2 w1.heap.size 79 #[.int .u8 (n8 x), .int .i64 0, .int .i64 0] := Blk.grown (by (repeat (first | with_reducible assumption | (focus (with_reducible refine Blk.new ?_; focus (simp <;> fail))) | with_reducible refine Blk.set3 (a := .int .u8 0) (b := .int .i64 0) (c := .int .i64 0) ?_ | with_reducible refine Blk.alloc ?_ _ | with_reducible refine Blk.drew ?_ | (focus (with_reducible refine Blk.far ?_ ?_ _; rotate_left; focus (first | omega | (simp <;> omega)))) | (focus (with_reducible refine Blk.below ?_ hb1 ?_; rotate_left; focus (first | omega | (simp <;> omega)))) | (focus (with_reducible refine Blk.below ?_ hb2 ?_; rotate_left; focus (first | omega | (simp <;> omega)))) | (focus (with_reducible refine Blk.below ?_ hb3 ?_; rotate_left; focus (first | omega | (simp <;> omega)))) | (focus (with_reducible refine Blk.below ?_ hb4 ?_; rotate_left; focus (first | omega | (simp <;> omega)))) | (focus (with_reducible refine Blk.below ?_ hb5 ?_; rotate_left; focus (first | omega | (simp <;> omega)))) | (focus (with_reducible refine Blk.below ?_ hb6 ?_; rotate_left; focus (first | omega | (simp <;> omega)))) | (focus (with_reducible refine Blk.below ?_ hb7 ?_; rotate_left; focus (first | omega | (simp <;> omega)))) | (focus (with_reducible refine Blk.below ?_ hb8 ?_; rotate_left; focus (first | omega | (simp <;> omega)))) | (focus (with_reducible refine Blk.below ?_ hb9 ?_; rotate_left; focus (first | omega | (simp <;> omega)))) | (focus (with_reducible refine Blk.below ?_ hb10 ?_; rotate_left; focus (first | omega | (simp <;> omega)))) | (focus (with_reducible refine Blk.below ?_ hb11 ?_; rotate_left; focus (first | omega | (simp <;> omega)))) | (focus (with_reducible refine Blk.below ?_ hb12 ?_; rotate_left; focus (first | omega | (simp <;> omega)))) | fail))) hg2 (vb_ne (own_vbelow (unhide hown1)) (Nat.le_refl _))
             have n20 := N2.cell 0
             have n21 := N2.cell 1
             have n22 := N2.cell 2
             simp at n20 n21 n22
             have y2 : w1.heap.size < w2.heap.size := N2.lt
             have hb2 : Below w.heap.size w w2 := bl_grown (by (repeat (first | with_reducible exact Below.refl _ _ | with_reducible assumption | with_reducible refine Below.drew ?_ | with_reducible refine bl_alloc ?_ _ | with_reducible refine bl_call ?_ (by assumption) | (focus (with_reducible refine Below.setCell ?_ ?_ _; rotate_left; focus (first | omega | (simp <;> omega)))) | fail))) hg2 (own_base (unhide hown1))
             replace hown2 := hide hown2; replace hb2 := hide hb2)
          | (go_at_call 85; refine (unhide hlg _).mono ?_; rintro e w3 ⟨rfl, hb3⟩)
          | fail)
        go_step3
        obtain ⟨z1, z2, z3, z4⟩ := unhide s2
        have hl2 : (ts ++ [(⟨x, 0, 0⟩ : Tok)]).length = n + 1 := by rw [List.length_append, unhide hn]; rfl
        refine ⟨rfl, ⟨I + 1, at_ + 1, k', n + 1, c2, ts ++ [⟨x, 0, 0⟩], A2, u1, _, _, _, _, _, _, _, _, _, _, _, _, _, _, _, _, _, _, _, _, _, _, _, _, _, _, _, _, _, _, _, rfl, z1, z2, z3, unhide hnx, hl2, z4, own_below (unhide hown2) hb3 (Nat.le_refl _), bl_call (unhide hb2) hb3⟩, ?_⟩
        simp [intOf]
        omega
      · rw [if_neg hbz] at hfr
        have hfc := unhide hf I _ _ wr hb hfr
        have hlg := fun W => long_any (nextT l at_) W
        unfold tkV at hlg
        generalize nextT l at_ = t at *
        have s1 : I + sizeT t ≤ l.length := by omega
        have s2 : Hid (I + sizeT t = ((at_ + (sizeT t).toNat : Nat) : Int) ∧ at_ + (sizeT t).toNat ≤ l.length ∧ l.length ≤ at_ + (sizeT t).toNat + k' ∧ n + 1 ≤ at_ + (sizeT t).toNat) := hide (by omega)
        replace hfc := hide hfc; replace hlg := hide hlg; replace hnx := hide hnx; replace hts := hide hts; replace hn := hide hn; replace hown := hide hown; replace hb := hide hb
        replace hnl := hide hnl; replace hnb := hide hnb; replace htl := hide htl; replace hto := hide hto; replace hfl := hide hfl
        clear hbz hfr hok hdist hsz hlt x2 x1 hk' q1 c1 e1 hI g1 g2
        go_wp2_with (first
          | (go_at_call 84; refine (unhide hfc).mono ?_; rintro e w1 ⟨rfl, hb1⟩; obtain ⟨hc1, hf1⟩ := bcell hb1; have hz1 := hb1.size; have hown1 := own_below (unhide hown) hb1 (Nat.le_refl _); have hbw1 := bl_call (unhide hb) hb1; have hbs1 := hbw1.size; have y1' : w.heap.size ≤ w1.heap.size := hbs1; have y1b : b < w1.heap.size := Nat.lt_of_lt_of_le y1 hz1; replace hown1 := hide hown1; replace hbs1 := hide hbs1)
          | (at_builtin
             refine wpList_app _ rfl (.tmp 28) (.tmp 30) 77 rfl w.heap.size 79 i0 _ 3 24 Tryz.underlying77 hi0 iz0 iz1 iz2 rfl (Nat.succ_pos _) _ n (ts.flatMap tkv) rfl (own_below (unhide hown1) (B := w1.heap.size) (by (repeat (first | with_reducible exact Below.refl _ _ | with_reducible assumption | with_reducible refine Below.drew ?_ | with_reducible refine bl_alloc ?_ _ | with_reducible refine bl_call ?_ (by assumption) | (focus (with_reducible refine Below.setCell ?_ ?_ _; rotate_left; focus (first | omega | (simp <;> omega)))) | fail))) (Nat.le_refl _)) (some ⟨w1.heap.size + 1, 0, none⟩) 1 1 (tkv t) rfl (unhide htl) (tk_src (by (repeat (first | with_reducible assumption | (focus (with_reducible refine Blk.new ?_; focus (simp <;> fail))) | with_reducible refine Blk.set3 (a := .int .u8 0) (b := .int .i64 0) (c := .int .i64 0) ?_ | with_reducible refine Blk.alloc ?_ _ | with_reducible refine Blk.drew ?_ | (focus (with_reducible refine Blk.far ?_ ?_ _; rotate_left; focus (first | omega | (simp <;> omega)))) | (focus (with_reducible refine Blk.below ?_ hb1 ?_; rotate_left; focus (first | omega | (simp <;> omega)))) | (focus (with_reducible refine Blk.below ?_ hb2 ?_; rotate_left; focus (first | omega | (simp <;> omega)))) | (focus (with_reducible refine Blk.below ?_ hb3 ?_; rotate_left; focus (first | omega | (simp <;> omega)))) | (focus (with_reducible refine Blk.below ?_ hb4 ?_; rotate_left; focus (first | omega | (simp <;> omega)))) | (focus (with_reducible refine Blk.below ?_ hb5 ?_; rotate_left; focus (first | omega | (simp <;> omega)))) | (focus (with_reducible refine Blk.below ?_ hb6 ?_; rotate_left; focus (first | omega | (simp <;> omega)))) | (focus (with_reducible refine Blk.below ?_ hb7 ?_; rotate_left; focus (first | omega | (simp <;> omega)))) | (focus (with_reducible refine Blk.below ?_ hb8 ?_; rotate_left; focus (first | omega | (simp <;> omega)))) | (focus (with_reducible refine Blk.below ?_ hb9 ?_; rotate_left; focus (first | omega | (simp <;> omega)))) | (focus (with_reducible refine Blk.below ?_ hb10 ?_; rotate_left; focus (first | omega | (simp <;> omega)))) | (focus (with_reducible refine Blk.below ?_ hb11 ?_; rotate_left; focus (first | omega | (simp <;> omega)))) | (focus (with_reducible refine Blk.below ?_ hb12 ?_; rotate_left; focus (first | omega | (simp <;> omega)))) | fail)))) (unhide hto) (unhide hnl) (unhide hnb) (by have := unhide hbs1; simp; omega) ?_
             intro v2 w2 hown2 hg2
             obtain ⟨A2, c2, rfl⟩ := ownsRow_form hown2
             rw [unhide hfl] at hown2
             have N2 : Blk w2 w1.heap.size 79 #[.int .u8 (n8 t.lit), .int .i64 t.len, .int .i64 t.dist] := Blk.grown (by (repeat (first | with_reducible assumption | (focus (with_reducible refine Blk.new ?_; focus (simp <;> fail))) | with_reducible refine Blk.set3 (a := .int .u8 0) (b := .int .i64 0) (c := .int .i64 0) ?_ | with_reducible refine Blk.alloc ?_ _ | with_reducible refine Blk.drew ?_ | (focus (with_reducible refine Blk.far ?_ ?_ _; rotate_left; focus (first | omega | (simp <;> omega)))) | (focus (with_reducible refine Blk.below ?_ hb1 ?_; rotate_left; focus (first | omega | (simp <;> omega)))) | (focus (with_reducible refine Blk.below ?_ hb2 ?_; rotate_left; focus (first | omega | (simp <;> omega)))) | (focus (with_reducible refine Blk.below ?_ hb3 ?_; rotate_left; focus (first | omega | (simp <;> omega)))) | (focus (with_reducible refine Blk.below ?_ hb4 ?_; rotate_left; focus (first | omega | (simp <;> omega)))) | (focus (with_reducible refine Blk.below ?_ hb5 ?_; rotate_left; focus (first | omega | (simp <;> omega)))) | (focus (with_reducible refine Blk.below ?_ hb6 ?_; rotate_left; focus (first | omega | (simp <;> omega)))) | (focus (with_reducible refine Blk.below ?_ hb7 ?_; rotate_left; focus (first | omega | (simp <;> omega)))) | (focus (with_reducible refine Blk.below ?_ hb8 ?_; rotate_left; focus (first | omega | (simp <;> omega)))) | (focus (with_reducible refine Blk.below ?_ hb9 ?_; rotate_left; focus (first | omega | (simp <;> omega)))) | (focus (with_reducible refine Blk.below ?_ hb10 ?_; rotate_left; focus (first | omega | (simp <;> omega)))) | (focus (with_reducible refine Blk.below ?_ hb11 ?_; rotate_left; focus (first | omega | (simp <;> omega)))) | (focus (with_reducible refine Blk.below ?_ hb12 ?_; rotate_left; focus (first | omega | (simp <;> omega)))) | fail))) hg2 (vb_ne (own_vbelow (unhide hown1)) (Nat.le_refl _))
             have n20 := N2.cell 0
             have n21 := N2.cell 1
             have n22 := N2.cell 2
             simp at n20 n21 n22
             have y2 : w1.heap.size < w2.heap.size := N2.lt
             have hb2 : Below w.heap.size w w2 := bl_grown (by (repeat (first | with_reducible exact Below.refl _ _ | with_reducible assumption | with_reducible refine Below.drew ?_ | with_reducible refine bl_alloc ?_ _ | with_reducible refine bl_call ?_ (by assumption) | (focus (with_reducible refine Below.setCell ?_ ?_ _; rotate_left; focus (first | omega | (simp <;> omega)))) | fail))) hg2 (own_base (unhide hown1))
             replace hown2 := hide hown2; replace hb2 := hide hb2)
          | (go_at_call 85; refine (unhide hlg _).mono ?_; rintro e w3 ⟨rfl, hb3⟩)
          | fail)
        go_step3
        obtain ⟨z1, z2, z3, z4⟩ := unhide s2
        have hl2 : (ts ++ [t]).length = n + 1 := by rw [List.length_append, unhide hn]; rfl
        refine ⟨rfl, ⟨I + sizeT t, at_ + (sizeT t).toNat, k', n + 1, c2, ts ++ [t], A2, u1, _, _, _, _, _, _, _, _, _, _, _, _, _, _, _, _, _, _, _, _, _, _, _, _, _, _, _, _, _, _, _, rfl, z1, z2, z3, unhide hnx, hl2, z4, own_below (unhide hown2) hb3 (Nat.le_refl _), bl_call (unhide hb2) hb3⟩, ?_⟩
        simp [intOf]
        omega
    · obtain rfl : at_ = l.length := by omega
      have ht := TokJ.end hts
      subst ht
      replace hown := hide hown; replace hb := hide hb; replace hts := hide hts; replace hn := hide hn
      have hI' : (l.length : Int) ≤ I := by omega
      clear hI
      go_wp2_with fail
      simp only [Exit.jump]
      go_ret2
      rw [unhide hn]
      exact ⟨A', c', rfl, unhide hown, unhide hb⟩
  · intro hp
    replace hp := hide hp
    go_wp2
    go_step3
    simp only [Exit.then]
    rename_i K1 hK1
    refine hK1 _ _ ?_
    refine unhide hp _ _ ⟨0, 0, l.length, 0, 0, [], none, undef, _, _, _, _, _, _, _, _, _, _, _, _, _, _, _, _, _, _, _, _, _, _, _, _, _, _, _, _, _, _, _, rfl, rfl, Nat.zero_le _, by omega, rfl, rfl, Nat.le_refl _, World.ownsRow_nil _ _ _ _, Below.refl _ _⟩
theorem tok_if {s t : Tok} (W : World) : (if n8 s.lit = n8 t.lit then if s.len = t.len then if s.dist = t.dist then Result.ok true W else Result.ok false W else Result.ok false W else Result.ok false W) = Result.ok (decide (s = t)) W := by
  by_cases h : s = t
  · subst h; simp
  · rw [decide_eq_false h]
    split
    · split
      · split
        · exact absurd (Tok.eq (n8_inj (by assumption)) (by assumption) (by assumption)) h
        · rfl
      · rfl
    · rfl
def eqT (a : UInt8) (b c : Int) (a' : UInt8) (b' c' : Int) : Bool := decide ((⟨a, b, c⟩ : Tok) = ⟨a', b', c'⟩)
theorem run_eq_tok (a : UInt8) (b c : Int) (a' : UInt8) (b' c' : Int) (W : World) : (Op.equalIn 10000 79 (.agg #[.int .u8 (n8 a), .int .i64 b, .int .i64 c]) (.agg #[.int .u8 (n8 a'), .int .i64 b', .int .i64 c'])).run Tryz.prog W = .ok (eqT a b c a' b' c') W := by
  rw [run_equalIn_agg W 9999 79 _ _ (by kernel_rfl) (by kernel_rfl)]
  have e5 := fun (a b : Int) => run_equalIn_int W 9998 5 .u8 .u8 a b Tryz.underlying5
  have e3 := fun (a b : Int) => run_equalIn_int W 9998 3 .i64 .i64 a b Tryz.underlying3
  unfold Program.fieldsOf
  unfold eqT
  rw [← tok_if (s := ⟨a, b, c⟩) (t := ⟨a', b', c'⟩)]
  simp [Tryz.underlying79, Op.eqFields, part, e5, e3]
theorem guard25 : Tryz.prog.eqGuardType Tryz.prog.depth 79 = false := by kernel_rfl
theorem run_neq_tok (a : UInt8) (b c : Int) (a' : UInt8) (b' c' : Int) (W : World) : (binOp .neq 79 (.agg #[.int .u8 (n8 a), .int .i64 b, .int .i64 c]) (.agg #[.int .u8 (n8 a'), .int .i64 b', .int .i64 c'])).run Tryz.prog W = .ok (.bool (!eqT a b c a' b' c')) W := by
  rw [run_neq_struct, run_eq_tok]; rfl
theorem run_eql_tok (a : UInt8) (b c : Int) (a' : UInt8) (b' c' : Int) (W : World) : (binOp .eql 79 (.agg #[.int .u8 (n8 a), .int .i64 b, .int .i64 c]) (.agg #[.int .u8 (n8 a'), .int .i64 b', .int .i64 c'])).run Tryz.prog W = .ok (.bool (eqT a b c a' b' c')) W := by
  rw [run_eql_struct, run_eq_tok]; rfl
attribute [-go_sem] run_eql_struct run_neq_struct
attribute [local go_sem] run_neq_tok run_eql_tok guard25
end Go.Proofs.YthkccpemgmpadaaGreatDoor.P.M

namespace Go.Proofs.YthkccpemgmpadaaGreatDoor.P.M
set_option maxRecDepth 100000
open Go.RowKit
theorem bb_alloc {B : Nat} {a w : World} (h : Below B a w) (hB : B ≤ a.heap.size) (o : Obj) : Below B a (w.alloc o) := h.alloc (Nat.le_trans hB h.size) o
theorem o_src {w : World} {g : Nat} {x : UInt8} (h : Blk w g 5 #[.int .u8 (n8 x)]) : SrcOk w (some ⟨g, 0, none⟩) 1 [.int .u8 (n8 x)] := by
  refine fun _ => ⟨_, rfl, fun j u hu => ?_⟩
  have key : w.cell? ⟨g, j, none⟩ = some u := by
    rw [h.cell, ← hu]
    match j with
    | 0 => rfl
    | j + 1 => rfl
  unfold Addr.add
  split
  · rename_i h0; subst h0; exact key
  · rw [Nat.zero_add]; exact key
theorem o_one (x : UInt8) : ∀ u ∈ [Value.int .u8 (n8 x)], u.oneCell' = true := by
  intro u hu
  simp at hu
  subst hu
  rfl
theorem map_snoc (l : List UInt8) (x : UInt8) : l.map u8v ++ [.int .u8 (n8 x)] = (l ++ [x]).map u8v := by simp
theorem own_ne {w : World} {base : Nat} {e : TypeId} {size : Nat} {v : Value} {n : Nat} {xs : List Value} (h : w.ownsRow base e size v n xs) {g : Nat} {t : TypeId} {cs : Array Value} (hg : Blk w g t cs) (hne : e ≠ t) : some g ≠ v.ownBlock := by
  intro q
  rcases h.2 with ⟨rfl, _⟩ | ⟨g', cap, cur, rfl, _, hh, _⟩
  · cases q
  · injection q with q
    exact Blk.ne_ (t := e) (cs := cur) hh hg hne q.symm
set_option maxHeartbeats 2000000 in
theorem tell_any (base : Nat) (A : Option Addr) (n c : Nat) (l : List UInt8) (t : Tok) (w : World) (h : w.ownsRow base 5 1 (.slice A n c) n (l.map u8v)) (hb : base ≤ w.heap.size) (hok : okT t = true) (hd : t.dist ≤ n) (hn : n ≤ 2000000) :
    Calls Tryz.prog 112 #[.slice A n c, tkV t] w fun e w' => ∃ A' n' c', e = .returned (.slice A' n' c') ∧ (n' : Int) = n + sizeT t ∧ w'.ownsRow base 5 1 (.slice A' n' c') n' ((tellT l t).map u8v) ∧ Below base w w' := by
  obtain ⟨i0, hi0, iz0, iz1, iz2⟩ := info_parts info5
  have hbl := fun (x : List UInt8) W (m : Nat) (a : Option Addr) (d : Nat) (k : World.ownsRow W base 5 1 (.slice a m d) m (x.map u8v)) => (Bs.own k).open
  by_cases h0 : t.len = 0
  · have ht : tellT l t = l ++ [t.lit] := by simp [tellT, h0]
    have hs : sizeT t = 1 := by simp [sizeT, h0]
    rw [ht, hs]
    obtain ⟨o, tl, td⟩ := t
    simp only [] at h0
    subst h0
    have hto := o_one o
    have hfl := map_snoc l o
    have b1 : n + 1 ≤ maxLen := by simp only [maxLen]; omega
    have b2 : (n + 1) * 1 ≤ 140737488355328 := by omega
    clear ht hs hok hd hbl
    replace h := hide h; replace hto := hide hto; replace hfl := hide hfl; replace b1 := hide b1; replace b2 := hide b2; replace hb := hide hb
    go_enter Tryz.func112, Tryz.ntmps112
    go_wp2_with (first
      | (at_builtin
         refine wpList_app _ rfl (.tmp 8) (.tmp 11) 29 rfl base 5 i0 _ 1 1 Tryz.underlying29 hi0 iz0 iz1 iz2 rfl (Nat.succ_pos _) _ n (l.map u8v) rfl (((unhide h).alloc _).alloc _) (some ⟨w.heap.size + 1, 0, none⟩) 1 1 [.int .u8 (n8 o)] rfl rfl (o_src (by (repeat (first | with_reducible assumption | (focus (with_reducible refine Blk.new ?_; focus (simp <;> fail))) | with_reducible refine Blk.set3 (a := .int .u8 0) (b := .int .i64 0) (c := .int .i64 0) ?_ | with_reducible refine Blk.alloc ?_ _ | with_reducible refine Blk.drew ?_ | (focus (with_reducible refine Blk.far ?_ ?_ _; rotate_left; focus (first | omega | (simp <;> omega)))) | (focus (with_reducible refine Blk.below ?_ hb1 ?_; rotate_left; focus (first | omega | (simp <;> omega)))) | (focus (with_reducible refine Blk.below ?_ hb2 ?_; rotate_left; focus (first | omega | (simp <;> omega)))) | (focus (with_reducible refine Blk.below ?_ hb3 ?_; rotate_left; focus (first | omega | (simp <;> omega)))) | (focus (with_reducible refine Blk.below ?_ hb4 ?_; rotate_left; focus (first | omega | (simp <;> omega)))) | (focus (with_reducible refine Blk.below ?_ hb5 ?_; rotate_left; focus (first | omega | (simp <;> omega)))) | (focus (with_reducible refine Blk.below ?_ hb6 ?_; rotate_left; focus (first | omega | (simp <;> omega)))) | (focus (with_reducible refine Blk.below ?_ hb7 ?_; rotate_left; focus (first | omega | (simp <;> omega)))) | (focus (with_reducible refine Blk.below ?_ hb8 ?_; rotate_left; focus (first | omega | (simp <;> omega)))) | (focus (with_reducible refine Blk.below ?_ hb9 ?_; rotate_left; focus (first | omega | (simp <;> omega)))) | (focus (with_reducible refine Blk.below ?_ hb10 ?_; rotate_left; focus (first | omega | (simp <;> omega)))) | (focus (with_reducible refine Blk.below ?_ hb11 ?_; rotate_left; focus (first | omega | (simp <;> omega)))) | (focus (with_reducible refine Blk.below ?_ hb12 ?_; rotate_left; focus (first | omega | (simp <;> omega)))) | fail)))) (unhide hto) (unhide b1) (unhide b2) (by have := unhide hb; simp; omega) ?_
         intro v2 w2 hown2 hg2
         obtain ⟨A2, c2, rfl⟩ := ownsRow_form hown2
         rw [unhide hfl] at hown2)
      | fail)
    go_ret
    refine ⟨A2, n + 1, c2, rfl, by simp, hown2, ?_⟩
    exact (bb_alloc (bb_alloc (Below.refl _ _) (unhide hb) _) (unhide hb) _).grown hg2 (by have := unhide hb; simp; omega) (own_base (unhide h))
  · obtain ⟨k0, k1, k2, k3, k4⟩ := okT_len hok h0
    have ht : tellT l t = tellN l t.dist.toNat t.len.toNat := by simp [tellT, h0]
    have hs : sizeT t = t.len := by simp [sizeT, h0]
    rw [ht, hs]
    have hll : l.length = n := by have := ownsRow_len h; simpa using this
    obtain ⟨o, L, d⟩ := t
    simp only [] at h0 k0 k1 k2 k3 k4 hd
    have hL0 : (L == 0) = false := by simpa using h0
    clear ht hs hok k0 h0
    replace h := hide h; replace hbl := hide hbl; replace hll := hide hll
    go_enter Tryz.func112, Tryz.ntmps112
    go_wp2_with fail
    go_loopw [0, 15] (fun s0 i wr => ∃ (K : Int) (m : Nat) (A2 : Option Addr) (c2 : Nat), 0 ≤ K ∧ K ≤ L ∧ i = .int .i64 K ∧ s0 = .slice A2 m c2 ∧ (m : Int) = n + K ∧ Hid (wr.ownsRow base 5 1 (.slice A2 m c2) m ((tellN l d.toNat K.toNat).map u8v)) ∧ Hid (Below base w wr) ∧ Hid (Blk wr w.heap.size 79 #[.int .u8 (n8 o), .int .i64 L, .int .i64 d])) (fun _ i _ => 18 - (intOf i).toNat)
    case atStart => exact ⟨0, n, A, c, by omega, by omega, rfl, rfl, by omega, hide ((unhide h).alloc _), hide (bb_alloc (Below.refl _ _) hb _), hide (by (repeat (first | with_reducible assumption | (focus (with_reducible refine Blk.new ?_; focus (simp <;> fail))) | with_reducible refine Blk.set3 (a := .int .u8 0) (b := .int .i64 0) (c := .int .i64 0) ?_ | with_reducible refine Blk.alloc ?_ _ | with_reducible refine Blk.drew ?_ | (focus (with_reducible refine Blk.far ?_ ?_ _; rotate_left; focus (first | omega | (simp <;> omega)))) | (focus (with_reducible refine Blk.below ?_ hb1 ?_; rotate_left; focus (first | omega | (simp <;> omega)))) | (focus (with_reducible refine Blk.below ?_ hb2 ?_; rotate_left; focus (first | omega | (simp <;> omega)))) | (focus (with_reducible refine Blk.below ?_ hb3 ?_; rotate_left; focus (first | omega | (simp <;> omega)))) | (focus (with_reducible refine Blk.below ?_ hb4 ?_; rotate_left; focus (first | omega | (simp <;> omega)))) | (focus (with_reducible refine Blk.below ?_ hb5 ?_; rotate_left; focus (first | omega | (simp <;> omega)))) | (focus (with_reducible refine Blk.below ?_ hb6 ?_; rotate_left; focus (first | omega | (simp <;> omega)))) | (focus (with_reducible refine Blk.below ?_ hb7 ?_; rotate_left; focus (first | omega | (simp <;> omega)))) | (focus (with_reducible refine Blk.below ?_ hb8 ?_; rotate_left; focus (first | omega | (simp <;> omega)))) | (focus (with_reducible refine Blk.below ?_ hb9 ?_; rotate_left; focus (first | omega | (simp <;> omega)))) | (focus (with_reducible refine Blk.below ?_ hb10 ?_; rotate_left; focus (first | omega | (simp <;> omega)))) | (focus (with_reducible refine Blk.below ?_ hb11 ?_; rotate_left; focus (first | omega | (simp <;> omega)))) | (focus (with_reducible refine Blk.below ?_ hb12 ?_; rotate_left; focus (first | omega | (simp <;> omega)))) | fail)))⟩
    case round =>
      obtain ⟨K, m, A2, c2, j0, j1, rfl, rfl, hm, ho, hbw, hB⟩ := hrel
      have q1 := (unhide hB).cell 1
      have q2 := (unhide hB).cell 2
      simp at q1 q2
      have y0 : w.heap.size < wr.heap.size := (unhide hB).lt
      by_cases hlt : K < L
      · have hlen : (tellN l d.toNat K.toNat).length = m := by rw [tellN_len]; have := unhide hll; omega
        obtain ⟨A3, c3, e3, x1, x2, x3⟩ := unhide hbl _ wr _ _ _ (unhide ho)
        injection e3 with e4 e6 e5
        clear e6
        subst e4 e5
        rw [hlen] at x1
        obtain ⟨g, off, rfl, g1, g2, g3⟩ := x3 (m - d.toNat) (by omega)
        have hnx : tellN l d.toNat (K + 1).toNat = tellN l d.toNat K.toNat ++ [(tellN l d.toNat K.toNat).getD (m - d.toNat) 0] := by
          rw [show (K + 1).toNat = K.toNat + 1 by omega, tellN, hlen]
        generalize (tellN l d.toNat K.toNat).getD (m - d.toNat) 0 = x at *
        generalize tellN l d.toNat K.toNat = T at *
        have hto := o_one x
        have hfl := map_snoc T x
        rw [← hnx] at hfl
        have b1 : m + 1 ≤ maxLen := by simp only [maxLen]; omega
        have b2 : (m + 1) * 1 ≤ 140737488355328 := by omega
        have hbs := (unhide hbw).size
        have bb : base ≤ wr.heap.size := by omega
        have hm1 : ((m + 1 : Nat) : Int) = (n : Int) + (K + 1) := by omega
        have e1 : m - d.toNat = ((m : Int) - d).toNat := by omega
        rw [e1] at g3
        have i1 : IntKind.i64.wrap ((m : Int) - d) = (m : Int) - d := IntWalk.i64_in _ (by omega)
        have i2 : (0 : Int) ≤ (m : Int) - d := by omega
        have i3 : (m : Int) - d < m := by omega
        have i4 : d ≤ (m : Int) := by omega
        have i5 : IntKind.i64.wrap (K + 1) = K + 1 := IntWalk.i64_in _ (by omega)
        replace hto := hide hto; replace hfl := hide hfl; replace b1 := hide b1; replace b2 := hide b2; replace bb := hide bb; replace hm1 := hide hm1
        clear hnx hlen x3 x1 e1
        replace hm := hide hm
        go_wp2_with (first
          | (at_builtin
             refine wpList_app _ rfl (.tmp 17) (.tmp 26) 29 rfl base 5 i0 _ 1 1 Tryz.underlying29 hi0 iz0 iz1 iz2 rfl (Nat.succ_pos _) _ m (T.map u8v) rfl ((unhide ho).alloc _) (some ⟨wr.heap.size, 0, none⟩) 1 1 [.int .u8 (n8 x)] rfl rfl (o_src (by (repeat (first | with_reducible assumption | (focus (with_reducible refine Blk.new ?_; focus (simp <;> fail))) | with_reducible refine Blk.set3 (a := .int .u8 0) (b := .int .i64 0) (c := .int .i64 0) ?_ | with_reducible refine Blk.alloc ?_ _ | with_reducible refine Blk.drew ?_ | (focus (with_reducible refine Blk.far ?_ ?_ _; rotate_left; focus (first | omega | (simp <;> omega)))) | (focus (with_reducible refine Blk.below ?_ hb1 ?_; rotate_left; focus (first | omega | (simp <;> omega)))) | (focus (with_reducible refine Blk.below ?_ hb2 ?_; rotate_left; focus (first | omega | (simp <;> omega)))) | (focus (with_reducible refine Blk.below ?_ hb3 ?_; rotate_left; focus (first | omega | (simp <;> omega)))) | (focus (with_reducible refine Blk.below ?_ hb4 ?_; rotate_left; focus (first | omega | (simp <;> omega)))) | (focus (with_reducible refine Blk.below ?_ hb5 ?_; rotate_left; focus (first | omega | (simp <;> omega)))) | (focus (with_reducible refine Blk.below ?_ hb6 ?_; rotate_left; focus (first | omega | (simp <;> omega)))) | (focus (with_reducible refine Blk.below ?_ hb7 ?_; rotate_left; focus (first | omega | (simp <;> omega)))) | (focus (with_reducible refine Blk.below ?_ hb8 ?_; rotate_left; focus (first | omega | (simp <;> omega)))) | (focus (with_reducible refine Blk.below ?_ hb9 ?_; rotate_left; focus (first | omega | (simp <;> omega)))) | (focus (with_reducible refine Blk.below ?_ hb10 ?_; rotate_left; focus (first | omega | (simp <;> omega)))) | (focus (with_reducible refine Blk.below ?_ hb11 ?_; rotate_left; focus (first | omega | (simp <;> omega)))) | (focus (with_reducible refine Blk.below ?_ hb12 ?_; rotate_left; focus (first | omega | (simp <;> omega)))) | fail)))) (unhide hto) (unhide b1) (unhide b2) (by have := unhide bb; simp; omega) ?_
             intro v2 w2 hown2 hg2
             obtain ⟨A4, c4, rfl⟩ := ownsRow_form hown2
             rw [unhide hfl] at hown2)
          | fail)
        clear i1 i5
        go_roundw
        case rel =>
          refine ⟨K + 1, m + 1, A4, c4, by omega, by omega, rfl, rfl, unhide hm1, hide hown2, hide ?_, hide ?_⟩
          · exact (bb_alloc (unhide hbw) hb _).grown hg2 (by have := unhide bb; simp; omega) (own_base (unhide ho))
          · exact Blk.grown ((unhide hB).alloc _) hg2 (own_ne (unhide ho) (unhide hB) (by decide))
        case measure => simp [intOf]; omega
      · obtain rfl : K = L := by omega
        replace hm := hide hm
        go_wp2_with fail
        go_ret
        exact ⟨A2, m, c2, rfl, unhide hm, unhide ho, unhide hbw⟩
def textR (l : List Tok) (most : Int) : List UInt8 × Int :=
  if okB l = false then ([], 1) else if most < 0 then ([], 1) else if sumT l ≤ most ∧ sumT l ≤ 65536 then (textF [] l, 0) else ([], 3)
set_option maxHeartbeats 2000000 in
theorem Text_any (lo : Nat) (v : Value) (l : List Tok) (most : Int) (bs : List UInt8) (er : Int) (w : World) (h : Tks lo w.heap.size w v l) (hr : textR l most = (bs, er)) :
    Calls Tryz.prog 75 #[v, .int .i64 most] w fun e w' => ∃ A n c, e = .returned (.tuple #[.slice A n c, .int .i64 er]) ∧ w'.ownsRow w.heap.size 5 1 (.slice A n c) n (bs.map u8v) ∧ Below w.heap.size w w' := by
  obtain ⟨i0, hi0, iz0, iz1, iz2⟩ := info_parts info5
  have hlg := Long_any lo v l w h
  obtain ⟨A, c, rfl, h1, h2, h3⟩ := h.open
  clear h
  cases hok : okB l with
  | false =>
    rw [textR, if_pos hok] at hr
    injection hr with r1 r2
    subst r1 r2
    rw [hok] at hlg
    change Calls Tryz.prog 111 #[.slice A l.length c] w fun e w' => e = .returned (.tuple #[.int .i64 (longN l), .int .i64 1]) ∧ Below w.heap.size w w' at hlg
    replace hlg := hide hlg; replace hok := hide hok; replace h3 := hide h3
    go_enter Tryz.func75, Tryz.ntmps75
    go_wp2_with (go_at_call 111; refine (unhide hlg).mono ?_; rintro e w1 ⟨rfl, hb1⟩)
    go_ret2
    exact ⟨none, 0, 0, rfl, World.ownsRow_nil _ _ _ _, hb1⟩
  | true =>
    rw [textR, if_neg (by rw [hok]; decide)] at hr
    obtain ⟨o1, o2⟩ := okB_iff.1 hok
    have hs := okL_sum o2
    have hln : longN l = sumT l := by simp [longN, hok]
    rw [hok, hln] at hlg
    change Calls Tryz.prog 111 #[.slice A l.length c] w fun e w' => e = .returned (.tuple #[.int .i64 (sumT l), .int .i64 0]) ∧ Below w.heap.size w w' at hlg
    have hsl : sumT (l.take l.length) = sumT l := by rw [List.take_length]
    have htl : textF [] (l.take l.length) = textF [] l := by rw [List.take_length]
    generalize hS : sumT l = S at *
    obtain ⟨s1, s2⟩ := hs
    by_cases hm : most < 0
    · rw [if_pos hm] at hr
      injection hr with r1 r2
      subst r1 r2
      replace hlg := hide hlg; replace hok := hide hok; replace h3 := hide h3; replace hS := hide hS; replace hsl := hide hsl; replace htl := hide htl
      go_enter Tryz.func75, Tryz.ntmps75
      go_wp2_with (go_at_call 111; refine (unhide hlg).mono ?_; rintro e w1 ⟨rfl, hb1⟩)
      go_ret2
      exact ⟨none, 0, 0, rfl, World.ownsRow_nil _ _ _ _, hb1⟩
    · rw [if_neg hm] at hr
      by_cases hc : S ≤ most ∧ S ≤ 65536
      · rw [if_pos hc] at hr
        injection hr with r1 r2
        subst r1 r2
        obtain ⟨c1, c2⟩ := hc
        obtain ⟨N, hN⟩ : ∃ N : Nat, S = N := ⟨S.toNat, by omega⟩
        have hmk0 := fun W : World => run_make (P := Tryz.prog) W 29 5 i0 _ Tryz.underlying29 hi0 iz0 .i64 .i64 0 S (by omega) (by omega) (by rw [iz2]; omega) (by omega)
        have hmk : ∃ C : Array Value, C.size = N ∧ ∀ W : World, (Instr.makeSlice 29 (.int .i64 0) (.int .i64 S)).run Tryz.prog W = .ok (.slice (some ⟨W.heap.size, 0, none⟩) 0 N) (W.alloc (.cells C 5)) := by
          refine ⟨madeCells (Value.int .u8 0).cells (S.toNat * i0.size), ?_, fun W => ?_⟩
          · rw [hN, Int.toNat_natCast, iz1]; simp [madeCells]
          · rw [hmk0 W, hN, Int.toNat_natCast]; rfl
        obtain ⟨C, hC, hmk⟩ := hmk
        have hown0 : ∀ W : World, Below w.heap.size w W → (W.alloc (.cells C 5)).ownsRow w.heap.size 5 1 (.slice (some ⟨W.heap.size, 0, none⟩) 0 N) 0 [] := fun W hb => own_fresh W _ _ 5 1 N C rfl hb.size (by simp only [maxLen]; omega) (by omega)
        replace hN := hide hN; replace hC := hide hC; replace hown0 := hide hown0; replace o2 := hide o2
        replace hlg := hide hlg; replace hok := hide hok; replace h3 := hide h3; replace hS := hide hS; replace hsl := hide hsl; replace htl := hide htl
        clear hmk0 hln
        have g1 : ¬ most < S := by omega
        have g2 : ¬ 65536 < S := by omega
        go_enter Tryz.func75, Tryz.ntmps75
        go_wp2_with (go_at_call 111; refine (unhide hlg).mono ?_; rintro e w1 ⟨rfl, hb1⟩)
        all_goals
          replace hmk := hide hmk
          go_loopw [8, 29] (fun s8 i wr => ∃ (k m : Nat) (A2 : Option Addr) (c2 : Nat), k ≤ l.length ∧ i = .int .i64 k ∧ s8 = .slice A2 m c2 ∧ Hid ((m : Int) = sumT (l.take k)) ∧ m ≤ 18 * k ∧ Hid (wr.ownsRow w.heap.size 5 1 (.slice A2 m c2) m ((textF [] (l.take k)).map u8v)) ∧ Hid (Below w.heap.size w wr)) (fun _ i _ => l.length - (intOf i).toNat)
          case atStart => exact ⟨0, 0, _, _, Nat.zero_le _, rfl, rfl, hide rfl, Nat.le_refl _, hide (unhide hown0 w1 hb1), hide (by (repeat (first | with_reducible exact Below.refl _ _ | with_reducible assumption | with_reducible refine Below.drew ?_ | with_reducible refine bl_alloc ?_ _ | with_reducible refine bl_call ?_ (by assumption) | (focus (with_reducible refine Below.setCell ?_ ?_ _; rotate_left; focus (first | omega | (simp <;> omega)))) | fail)))⟩
          case round =>
            obtain ⟨k, m, A2, c2, hk, rfl, rfl, hm1, hm2, ho, hb⟩ := hrel
            by_cases hlt : k < l.length
            · obtain ⟨b, off, rfl, x1, x2, q0, q1, q2⟩ := unhide h3 k hlt
              have c0 := ((unhide hb).cell (p := ⟨b, off + k * 3, none⟩) x2).trans q0
              have c1 := ((unhide hb).cell (p := ⟨b, off + k * 3 + 1, none⟩) x2).trans q1
              have c2' := ((unhide hb).cell (p := ⟨b, off + k * 3 + 2, none⟩) x2).trans q2
              obtain ⟨t1, t2⟩ := okL_get hlt (unhide o2)
              have t3 := okT_size t1
              have hsn := sumT_snoc hlt
              have htx := textF_snoc (b := []) hlt
              have hbs := (unhide hb).size
              rw [Int.zero_add, ← unhide hm1] at t2
              rw [← unhide hm1] at hsn
              have htell := fun W (hbb : Below wr.heap.size wr W) => tell_any w.heap.size A2 m c2 (textF [] (l.take k)) l[k] W (own_below (unhide ho) hbb (Nat.le_refl _)) (Nat.le_trans hbs hbb.size) t1 t2 (by omega)
              rw [← htx] at htell
              unfold tkV at htell
              generalize l[k] = t at *
              clear q0 q1 q2 x1 x2 htx t1 t2
              replace htell := hide htell; replace hsn := hide hsn; replace hbs := hide hbs
              go_wp2_with (go_at_call 112; refine (unhide htell _ (by (repeat (first | with_reducible exact Below.refl _ _ | with_reducible assumption | with_reducible refine Below.drew ?_ | with_reducible refine bl_alloc ?_ _ | with_reducible refine bl_call ?_ (by assumption) | (focus (with_reducible refine Below.setCell ?_ ?_ _; rotate_left; focus (first | omega | (simp <;> omega)))) | fail)))).mono ?_; rintro e w2 ⟨A3, n3, c3, rfl, hn3, ho3, hb3⟩; replace hn3 := hide hn3; replace ho3 := hide ho3)
              go_roundw
              case rel => exact ⟨k + 1, n3, A3, c3, by omega, by go_num, rfl, hide (by rw [unhide hsn]; exact unhide hn3), by have := unhide hn3; omega, hide (unhide ho3), hide (((unhide hb).alloc (unhide hbs) _).trans hb3)⟩
              case measure => simp [intOf]; omega
            · obtain rfl : k = l.length := by omega
              go_wp2_with fail
              go_ret2
              have ho' := unhide ho
              rw [unhide htl] at ho'
              exact ⟨A2, m, c2, rfl, ho', unhide hb⟩
      · rw [if_neg hc] at hr
        injection hr with r1 r2
        subst r1 r2
        replace hlg := hide hlg; replace hok := hide hok; replace h3 := hide h3; replace hS := hide hS; replace hsl := hide hsl; replace htl := hide htl
        replace hc := hide hc
        go_enter Tryz.func75, Tryz.ntmps75
        go_wp2_with (go_at_call 111; refine (unhide hlg).mono ?_; rintro e w1 ⟨rfl, hb1⟩)
        all_goals (have hc' := unhide hc; first | (exfalso; omega) | skip)
        all_goals go_ret2
        all_goals exact ⟨none, 0, 0, rfl, World.ownsRow_nil _ _ _ _, hb1⟩
end Go.Proofs.YthkccpemgmpadaaGreatDoor.P.M
