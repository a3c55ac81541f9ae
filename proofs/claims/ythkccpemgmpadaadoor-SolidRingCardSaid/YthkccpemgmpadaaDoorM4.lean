import Derived.Test.YthkccpemgmpadaaDoorM3
import Derived.ScopeJumps
import Derived.Lib.SlBytesConst
import Derived.Laws.StructEq
import Derived.Test.YthkccpemgmpadaaDoorM2
namespace Go.Proofs.YthkccpemgmpadaaDoor.P.M
set_option maxRecDepth 100000
open Go.RowKit

/-- As 'wp_scope_jumps', with one walk for the first pass and the others. -/
theorem wp_scope_jumps2 {P : Program} {a : Act} {w : World} {Q : Exit → Act → World → Prop} {c rest : Code} (l : Nat) (J : Act → World → Prop) (μ : Act → World → Nat) (hf : findLabel c l = some (Code.skip.seq rest))
    (pass : ∀ a w, J a w → rest.wp P (Exit.jump l (fun a' w' => J a' w' ∧ μ a' w' < μ a w) Q) a w)
    (first : (∀ a w, J a w → rest.wp P (Exit.jump l J Q) a w) → c.wp P (Exit.jump l J Q) a w) : (Code.scope c).wp P Q a w :=
  wp_scope_jumps l J μ hf (first fun a w h => Go.wp_mono (pass a w h) (by
    intro e a' w' hq
    cases e <;> first | exact hq | exact ⟨hq.1, hq.2.1⟩)) fun a w h => wp_seq (wp_skip (pass a w h))

theorem findR_at {l : List UInt8} {a : Nat} (h : a < l.length) (hL : l.length ≤ 65536) : findR l a = if (bestF l a (min a 256)).2 = 0 then (noT, 4) else (nextT l a, 0) := by
  unfold findR nextT
  rw [if_neg (by omega), if_neg (by omega), Int.toNat_natCast]
  split <;> rfl
theorem tk_src {w : World} {g : Nat} {t : Tok} (h : Blk w g 91 #[.int .u8 (n8 t.lit), .int .i64 t.len, .int .i64 t.dist]) : SrcOk w (some ⟨g, 0, none⟩) 1 (tkv t) := by
  refine fun _ => ⟨_, rfl, fun j u hu => ?_⟩
  have key : w.cell? ⟨g, j, none⟩ = some u := by
    rw [h.cell, ← hu]
    match j with
    | 0 => rfl
    | 1 => rfl
    | 2 => rfl
    | j + 3 => rfl
  unfold Addr.add
  split
  · rename_i h0; subst h0; exact key
  · rw [Nat.zero_add]; exact key
theorem tk_src' {w : World} {g : Nat} {o : UInt8} {n d : Int} (h : Blk w g 91 #[.int .u8 (n8 o), .int .i64 n, .int .i64 d]) : SrcOk w (some ⟨g, 0, none⟩) 1 (tkv ⟨o, n, d⟩) := tk_src (t := ⟨o, n, d⟩) h
theorem tkv_one (t : Tok) : ∀ u ∈ tkv t, u.oneCell' = true := by
  intro u hu
  simp [tkv] at hu
  rcases hu with rfl | rfl | rfl <;> rfl
theorem flat_snoc (ts : List Tok) (t : Tok) : ts.flatMap tkv ++ tkv t = (ts ++ [t]).flatMap tkv := by simp

theorem Blk.grown {w w' : World} {g : Nat} {t : TypeId} {cs : Array Value} {row : Option Nat} (h : Blk w g t cs) (hg : w.grownBy w' row) (hne : some g ≠ row) : Blk w' g t cs := (hg.block g h.lt hne).trans h
theorem vb_ne {B g : Nat} {v : Value} (h : VBelow B v) (hg : B ≤ g) : some g ≠ v.ownBlock := by
  intro e
  unfold Value.ownBlock at e
  split at e
  · rename_i a n c; have := h a n c rfl; injection e with e; omega
  · cases e

/-- What holds at Tokens' label. -/
def TokJ (l : List UInt8) (A : Option Addr) (c : Nat) (w0 : World) (a : Act) (w : World) : Prop :=
  ∃ (I : Int) (at_ k n c' : Nat) (ts : List Tok) (A' : Option Addr) (u1 u6 u7 u8 u9 u10 u11 u12 u13 u14 u15 u16 u17 u18 u19 u20 u21 u22 u23 u24 u25 u26 u27 u28 u29 u30 u31 u32 u33 u34 u35 u36 : Value), a = ⟨#[.slice A l.length c, u1, .slice none 0 0, .int .i64 0, .slice A' n c', .int .i64 I, u6, u7, u8, u9, u10, u11, u12, u13, u14, u15, u16, u17, u18, u19, u20, u21, u22, u23, u24, u25, u26, u27, u28, u29, u30, u31, u32, u33, u34, u35, u36], []⟩ ∧
    I = (at_ : Int) ∧ at_ ≤ l.length ∧ l.length ≤ at_ + k ∧ toksB l = ts ++ toksF l k at_ ∧ ts.length = n ∧ n ≤ at_ ∧ w.ownsRow w0.heap.size 91 3 (.slice A' n c') n (ts.flatMap tkv) ∧ Below w0.heap.size w0 w

theorem TokJ.next {l : List UInt8} {at_ k : Nat} {ts : List Tok} (h : toksB l = ts ++ toksF l k at_) (h1 : at_ < l.length) (h2 : l.length ≤ at_ + k) :
    ∃ k', k = k' + 1 ∧ toksB l = (ts ++ [nextT l at_]) ++ toksF l k' (at_ + (sizeT (nextT l at_)).toNat) := by
  obtain ⟨k', rfl⟩ : ∃ k', k = k' + 1 := ⟨k - 1, by omega⟩
  refine ⟨k', rfl, ?_⟩
  rw [h, toksF, if_pos h1]
  simp
theorem TokJ.end {l : List UInt8} {k : Nat} {ts : List Tok} (h : toksB l = ts ++ toksF l k l.length) : toksB l = ts := by
  cases k <;> simpa [toksF] using h

set_option maxHeartbeats 4000000 in
theorem Tokens_any (lo : Nat) (v : Value) (l : List UInt8) (w : World) (h : Bs lo w.heap.size w v l) (hl : l.length ≤ 65536) :
    Calls Tryd.prog 34 #[v] w fun e w' => ∃ A c, e = .returned (.tuple #[.slice A (toksB l).length c, .int .i64 0]) ∧ w'.ownsRow w.heap.size 91 3 (.slice A (toksB l).length c) (toksB l).length ((toksB l).flatMap tkv) ∧ Below w.heap.size w w' := by
  obtain ⟨i0, hi0, iz0, iz1, iz2⟩ := info_parts info25
  have hf := fun (i : Int) (t : Tok) (er : Int) (W : World) (hb : Below w.heap.size w W) => Find_any lo v l i t er W (h.grow hb)
  obtain ⟨A, c, rfl, h1, h2, h3⟩ := h.open
  clear h
  replace hf := hide hf; replace h3 := hide h3
  go_enter Tryd.func34, Tryd.ntmps34
  go_wp2
  refine wp_scope_jumps2 0 (TokJ l A c w) (fun a' _ => 65537 - (intOf (a'.tmps.getD 5 undef)).toNat) rfl ?_ ?_
  · rintro a' wr ⟨I, at_, k, n, c', ts, A', u1, u6, u7, u8, u9, u10, u11, u12, u13, u14, u15, u16, u17, u18, u19, u20, u21, u22, u23, u24, u25, u26, u27, u28, u29, u30, u31, u32, u33, u34, u35, u36, rfl, hI, x1, x2, hts, hn, hna, hown, hb⟩
    by_cases hlt : at_ < l.length
    · obtain ⟨k', hk', hnx⟩ := TokJ.next hts hlt x2
      obtain ⟨hok, hdist, hsz, hs1⟩ := nextT_ok hlt
      have hs18 := (okT_size hok).2
      have hfr := findR_at hlt hl
      obtain ⟨b, off, hA, g1, g2, q1⟩ := unhide h3 at_ hlt
      subst hA
      have c1 := (hb.cell (p := ⟨b, off + at_, none⟩) g2).trans q1
      have e1 : off + at_ = off + I.toNat := by omega
      rw [e1] at c1
      have i1 : 0 ≤ I := by omega
      have i2 : I < (l.length : Int) := by omega
      have i3 : (l.length : Int) ≤ 65536 := by omega
      have y1 : b < wr.heap.size := World.block_lt_of_cell? wr _ c1
      have hnl : n + 1 ≤ maxLen := by simp only [maxLen]; omega
      have hnb : (n + 1) * 24 ≤ 140737488355328 := by omega
      have htl : (tkv (nextT l at_)).length = 1 * 3 := rfl
      have hto := tkv_one (nextT l at_)
      have hfl := flat_snoc ts (nextT l at_)
      rw [← hI] at hfr
      by_cases hbz : (bestF l at_ (min at_ 256)).2 = 0
      · have hnt : nextT l at_ = ⟨l.getD at_ 0, 0, 0⟩ := by unfold nextT; rw [if_pos hbz]
        rw [if_pos hbz] at hfr
        have hfc := unhide hf I _ _ wr hb hfr
        have hlg := fun W => long_any (nextT l at_) W
        unfold tkV at hlg
        generalize nextT l at_ = T at *
        generalize l.getD at_ 0 = x at *
        subst hnt
        have hsx : sizeT ⟨x, 0, 0⟩ = 1 := rfl
        replace hsz : (at_ : Int) + 1 ≤ l.length := hsz
        replace hnx : toksB l = ts ++ [⟨x, 0, 0⟩] ++ toksF l k' (at_ + 1) := hnx
        replace hlg : ∀ W : World, Calls Tryd.prog 49 #[.agg #[.int .u8 (n8 x), .int .i64 0, .int .i64 0]] W fun e w' => e = .returned (.int .i64 1) ∧ Below W.heap.size W w' := hlg
        have s1 : I + 1 ≤ l.length := by omega
        have s2 : Hid (I + 1 = ((at_ + 1 : Nat) : Int) ∧ at_ + 1 ≤ l.length ∧ l.length ≤ at_ + 1 + k' ∧ n + 1 ≤ at_ + 1) := hide (by omega)
        replace hfc := hide hfc; replace hlg := hide hlg; replace hnx := hide hnx; replace hts := hide hts; replace hn := hide hn; replace hown := hide hown; replace hb := hide hb
        replace hnl := hide hnl; replace hnb := hide hnb; replace htl := hide htl; replace hto := hide hto; replace hfl := hide hfl
        clear hbz hfr hok hdist hsz hlt x2 x1 hk' q1 e1 hI g1 g2 hsx
        go_wp2_with (first
          | (go_at_call 48; refine (unhide hfc).mono ?_; rintro e w1 ⟨rfl, hb1⟩; obtain ⟨hc1, hf1⟩ := bcell hb1; have hz1 := hb1.size; have hown1 := own_below (unhide hown) hb1 (Nat.le_refl _); have hbw1 := bl_call (unhide hb) hb1; have hbs1 := hbw1.size; have y1' : w.heap.size ≤ w1.heap.size := hbs1; have y1b : b < w1.heap.size := Nat.lt_of_lt_of_le y1 hz1; replace hown1 := hide hown1; replace hbs1 := hide hbs1)
          | (at_builtin
             refine wpList_app _ rfl (.tmp 28) (.tmp 30) 69 rfl w.heap.size 91 i0 _ 3 24 Tryd.underlying69 hi0 iz0 iz1 iz2 rfl (Nat.succ_pos _) _ n (ts.flatMap tkv) rfl (own_below (unhide hown1) (B := w1.heap.size) (by (repeat (first | with_reducible exact Below.refl _ _ | with_reducible assumption | with_reducible refine Below.drew ?_ | with_reducible refine bl_alloc ?_ _ | with_reducible refine bl_call ?_ (by assumption) | (focus (with_reducible refine Below.setCell ?_ ?_ _; rotate_left; focus (first | omega | (simp <;> omega)))) | fail))) (Nat.le_refl _)) (some ⟨w1.heap.size + 1, 0, none⟩) 1 1 (tkv ⟨x, 0, 0⟩) rfl (unhide htl) (tk_src' (by (repeat (first | with_reducible assumption | (focus (with_reducible refine Blk.new ?_; focus (simp <;> fail))) | with_reducible refine Blk.set3 (a := .int .u8 0) (b := .int .i64 0) (c := .int .i64 0) ?_ | with_reducible refine Blk.alloc ?_ _ | with_reducible refine Blk.drew ?_ | (focus (with_reducible refine Blk.far ?_ ?_ _; rotate_left; focus (first | omega | (simp <;> omega)))) | (focus (with_reducible refine Blk.below ?_ hb1 ?_; rotate_left; focus (first | omega | (simp <;> omega)))) | (focus (with_reducible refine Blk.below ?_ hb2 ?_; rotate_left; focus (first | omega | (simp <;> omega)))) | (focus (with_reducible refine Blk.below ?_ hb3 ?_; rotate_left; focus (first | omega | (simp <;> omega)))) | (focus (with_reducible refine Blk.below ?_ hb4 ?_; rotate_left; focus (first | omega | (simp <;> omega)))) | (focus (with_reducible refine Blk.below ?_ hb5 ?_; rotate_left; focus (first | omega | (simp <;> omega)))) | (focus (with_reducible refine Blk.below ?_ hb6 ?_; rotate_left; focus (first | omega | (simp <;> omega)))) | (focus (with_reducible refine Blk.below ?_ hb7 ?_; rotate_left; focus (first | omega | (simp <;> omega)))) | (focus (with_reducible refine Blk.below ?_ hb8 ?_; rotate_left; focus (first | omega | (simp <;> omega)))) | (focus (with_reducible refine Blk.below ?_ hb9 ?_; rotate_left; focus (first | omega | (simp <;> omega)))) | (focus (with_reducible refine Blk.below ?_ hb10 ?_; rotate_left; focus (first | omega | (simp <;> omega)))) | (focus (with_reducible refine Blk.below ?_ hb11 ?_; rotate_left; focus (first | omega | (simp <;> omega)))) | (focus (with_reducible refine Blk.below ?_ hb12 ?_; rotate_left; focus (first | omega | (simp <;> omega)))) | fail)))) (unhide hto) (unhide hnl) (unhide hnb) (by have := unhide hbs1; simp; omega) ?_
             intro v2 w2 hown2 hg2
             obtain ⟨A2, c2, rfl⟩ := ownsRow_form hown2
             rw [unhide hfl] at hown2
             have N2 : Blk w2 w1.heap.size 91 #[.int .u8 (n8 x), .int .i64 0, .int .i64 0] := Blk.grown (by (repeat (first | with_reducible assumption | (focus (with_reducible refine Blk.new ?_; focus (simp <;> fail))) | with_reducible refine Blk.set3 (a := .int .u8 0) (b := .int .i64 0) (c := .int .i64 0) ?_ | with_reducible refine Blk.alloc ?_ _ | with_reducible refine Blk.drew ?_ | (focus (with_reducible refine Blk.far ?_ ?_ _; rotate_left; focus (first | omega | (simp <;> omega)))) | (focus (with_reducible refine Blk.below ?_ hb1 ?_; rotate_left; focus (first | omega | (simp <;> omega)))) | (focus (with_reducible refine Blk.below ?_ hb2 ?_; rotate_left; focus (first | omega | (simp <;> omega)))) | (focus (with_reducible refine Blk.below ?_ hb3 ?_; rotate_left; focus (first | omega | (simp <;> omega)))) | (focus (with_reducible refine Blk.below ?_ hb4 ?_; rotate_left; focus (first | omega | (simp <;> omega)))) | (focus (with_reducible refine Blk.below ?_ hb5 ?_; rotate_left; focus (first | omega | (simp <;> omega)))) | (focus (with_reducible refine Blk.below ?_ hb6 ?_; rotate_left; focus (first | omega | (simp <;> omega)))) | (focus (with_reducible refine Blk.below ?_ hb7 ?_; rotate_left; focus (first | omega | (simp <;> omega)))) | (focus (with_reducible refine Blk.below ?_ hb8 ?_; rotate_left; focus (first | omega | (simp <;> omega)))) | (focus (with_reducible refine Blk.below ?_ hb9 ?_; rotate_left; focus (first | omega | (simp <;> omega)))) | (focus (with_reducible refine Blk.below ?_ hb10 ?_; rotate_left; focus (first | omega | (simp <;> omega)))) | (focus (with_reducible refine Blk.below ?_ hb11 ?_; rotate_left; focus (first | omega | (simp <;> omega)))) | (focus (with_reducible refine Blk.below ?_ hb12 ?_; rotate_left; focus (first | omega | (simp <;> omega)))) | fail))) hg2 (vb_ne (own_vbelow (unhide hown1)) (Nat.le_refl _))
             have n20 := N2.cell 0
             have n21 := N2.cell 1
             have n22 := N2.cell 2
             simp at n20 n21 n22
             have y2 : w1.heap.size < w2.heap.size := N2.lt
             have hb2 : Below w.heap.size w w2 := bl_grown (by (repeat (first | with_reducible exact Below.refl _ _ | with_reducible assumption | with_reducible refine Below.drew ?_ | with_reducible refine bl_alloc ?_ _ | with_reducible refine bl_call ?_ (by assumption) | (focus (with_reducible refine Below.setCell ?_ ?_ _; rotate_left; focus (first | omega | (simp <;> omega)))) | fail))) hg2 (own_base (unhide hown1))
             replace hown2 := hide hown2; replace hb2 := hide hb2)
          | (go_at_call 49; refine (unhide hlg _).mono ?_; rintro e w3 ⟨rfl, hb3⟩)
          | fail)
        go_step3
        obtain ⟨z1, z2, z3, z4⟩ := unhide s2
        have hl2 : (ts ++ [(⟨x, 0, 0⟩ : Tok)]).length = n + 1 := by rw [List.length_append, unhide hn]; rfl
        refine ⟨rfl, ⟨I + 1, at_ + 1, k', n + 1, c2, ts ++ [⟨x, 0, 0⟩], A2, u1, _, _, _, _, _, _, _, _, _, _, _, _, _, _, _, _, _, _, _, _, _, _, _, _, _, _, _, _, _, _, _, rfl, z1, z2, z3, unhide hnx, hl2, z4, own_below (unhide hown2) hb3 (Nat.le_refl _), bl_call (unhide hb2) hb3⟩, ?_⟩
        simp [intOf]
        omega
      · rw [if_neg hbz] at hfr
        have hfc := unhide hf I _ _ wr hb hfr
        have hlg := fun W => long_any (nextT l at_) W
        unfold tkV at hlg
        generalize nextT l at_ = t at *
        have s1 : I + sizeT t ≤ l.length := by omega
        have s2 : Hid (I + sizeT t = ((at_ + (sizeT t).toNat : Nat) : Int) ∧ at_ + (sizeT t).toNat ≤ l.length ∧ l.length ≤ at_ + (sizeT t).toNat + k' ∧ n + 1 ≤ at_ + (sizeT t).toNat) := hide (by omega)
        replace hfc := hide hfc; replace hlg := hide hlg; replace hnx := hide hnx; replace hts := hide hts; replace hn := hide hn; replace hown := hide hown; replace hb := hide hb
        replace hnl := hide hnl; replace hnb := hide hnb; replace htl := hide htl; replace hto := hide hto; replace hfl := hide hfl
        clear hbz hfr hok hdist hsz hlt x2 x1 hk' q1 c1 e1 hI g1 g2
        go_wp2_with (first
          | (go_at_call 48; refine (unhide hfc).mono ?_; rintro e w1 ⟨rfl, hb1⟩; obtain ⟨hc1, hf1⟩ := bcell hb1; have hz1 := hb1.size; have hown1 := own_below (unhide hown) hb1 (Nat.le_refl _); have hbw1 := bl_call (unhide hb) hb1; have hbs1 := hbw1.size; have y1' : w.heap.size ≤ w1.heap.size := hbs1; have y1b : b < w1.heap.size := Nat.lt_of_lt_of_le y1 hz1; replace hown1 := hide hown1; replace hbs1 := hide hbs1)
          | (at_builtin
             refine wpList_app _ rfl (.tmp 28) (.tmp 30) 69 rfl w.heap.size 91 i0 _ 3 24 Tryd.underlying69 hi0 iz0 iz1 iz2 rfl (Nat.succ_pos _) _ n (ts.flatMap tkv) rfl (own_below (unhide hown1) (B := w1.heap.size) (by (repeat (first | with_reducible exact Below.refl _ _ | with_reducible assumption | with_reducible refine Below.drew ?_ | with_reducible refine bl_alloc ?_ _ | with_reducible refine bl_call ?_ (by assumption) | (focus (with_reducible refine Below.setCell ?_ ?_ _; rotate_left; focus (first | omega | (simp <;> omega)))) | fail))) (Nat.le_refl _)) (some ⟨w1.heap.size + 1, 0, none⟩) 1 1 (tkv t) rfl (unhide htl) (tk_src (by (repeat (first | with_reducible assumption | (focus (with_reducible refine Blk.new ?_; focus (simp <;> fail))) | with_reducible refine Blk.set3 (a := .int .u8 0) (b := .int .i64 0) (c := .int .i64 0) ?_ | with_reducible refine Blk.alloc ?_ _ | with_reducible refine Blk.drew ?_ | (focus (with_reducible refine Blk.far ?_ ?_ _; rotate_left; focus (first | omega | (simp <;> omega)))) | (focus (with_reducible refine Blk.below ?_ hb1 ?_; rotate_left; focus (first | omega | (simp <;> omega)))) | (focus (with_reducible refine Blk.below ?_ hb2 ?_; rotate_left; focus (first | omega | (simp <;> omega)))) | (focus (with_reducible refine Blk.below ?_ hb3 ?_; rotate_left; focus (first | omega | (simp <;> omega)))) | (focus (with_reducible refine Blk.below ?_ hb4 ?_; rotate_left; focus (first | omega | (simp <;> omega)))) | (focus (with_reducible refine Blk.below ?_ hb5 ?_; rotate_left; focus (first | omega | (simp <;> omega)))) | (focus (with_reducible refine Blk.below ?_ hb6 ?_; rotate_left; focus (first | omega | (simp <;> omega)))) | (focus (with_reducible refine Blk.below ?_ hb7 ?_; rotate_left; focus (first | omega | (simp <;> omega)))) | (focus (with_reducible refine Blk.below ?_ hb8 ?_; rotate_left; focus (first | omega | (simp <;> omega)))) | (focus (with_reducible refine Blk.below ?_ hb9 ?_; rotate_left; focus (first | omega | (simp <;> omega)))) | (focus (with_reducible refine Blk.below ?_ hb10 ?_; rotate_left; focus (first | omega | (simp <;> omega)))) | (focus (with_reducible refine Blk.below ?_ hb11 ?_; rotate_left; focus (first | omega | (simp <;> omega)))) | (focus (with_reducible refine Blk.below ?_ hb12 ?_; rotate_left; focus (first | omega | (simp <;> omega)))) | fail)))) (unhide hto) (unhide hnl) (unhide hnb) (by have := unhide hbs1; simp; omega) ?_
             intro v2 w2 hown2 hg2
             obtain ⟨A2, c2, rfl⟩ := ownsRow_form hown2
             rw [unhide hfl] at hown2
             have N2 : Blk w2 w1.heap.size 91 #[.int .u8 (n8 t.lit), .int .i64 t.len, .int .i64 t.dist] := Blk.grown (by (repeat (first | with_reducible assumption | (focus (with_reducible refine Blk.new ?_; focus (simp <;> fail))) | with_reducible refine Blk.set3 (a := .int .u8 0) (b := .int .i64 0) (c := .int .i64 0) ?_ | with_reducible refine Blk.alloc ?_ _ | with_reducible refine Blk.drew ?_ | (focus (with_reducible refine Blk.far ?_ ?_ _; rotate_left; focus (first | omega | (simp <;> omega)))) | (focus (with_reducible refine Blk.below ?_ hb1 ?_; rotate_left; focus (first | omega | (simp <;> omega)))) | (focus (with_reducible refine Blk.below ?_ hb2 ?_; rotate_left; focus (first | omega | (simp <;> omega)))) | (focus (with_reducible refine Blk.below ?_ hb3 ?_; rotate_left; focus (first | omega | (simp <;> omega)))) | (focus (with_reducible refine Blk.below ?_ hb4 ?_; rotate_left; focus (first | omega | (simp <;> omega)))) | (focus (with_reducible refine Blk.below ?_ hb5 ?_; rotate_left; focus (first | omega | (simp <;> omega)))) | (focus (with_reducible refine Blk.below ?_ hb6 ?_; rotate_left; focus (first | omega | (simp <;> omega)))) | (focus (with_reducible refine Blk.below ?_ hb7 ?_; rotate_left; focus (first | omega | (simp <;> omega)))) | (focus (with_reducible refine Blk.below ?_ hb8 ?_; rotate_left; focus (first | omega | (simp <;> omega)))) | (focus (with_reducible refine Blk.below ?_ hb9 ?_; rotate_left; focus (first | omega | (simp <;> omega)))) | (focus (with_reducible refine Blk.below ?_ hb10 ?_; rotate_left; focus (first | omega | (simp <;> omega)))) | (focus (with_reducible refine Blk.below ?_ hb11 ?_; rotate_left; focus (first | omega | (simp <;> omega)))) | (focus (with_reducible refine Blk.below ?_ hb12 ?_; rotate_left; focus (first | omega | (simp <;> omega)))) | fail))) hg2 (vb_ne (own_vbelow (unhide hown1)) (Nat.le_refl _))
             have n20 := N2.cell 0
             have n21 := N2.cell 1
             have n22 := N2.cell 2
             simp at n20 n21 n22
             have y2 : w1.heap.size < w2.heap.size := N2.lt
             have hb2 : Below w.heap.size w w2 := bl_grown (by (repeat (first | with_reducible exact Below.refl _ _ | with_reducible assumption | with_reducible refine Below.drew ?_ | with_reducible refine bl_alloc ?_ _ | with_reducible refine bl_call ?_ (by assumption) | (focus (with_reducible refine Below.setCell ?_ ?_ _; rotate_left; focus (first | omega | (simp <;> omega)))) | fail))) hg2 (own_base (unhide hown1))
             replace hown2 := hide hown2; replace hb2 := hide hb2)
          | (go_at_call 49; refine (unhide hlg _).mono ?_; rintro e w3 ⟨rfl, hb3⟩)
          | fail)
        go_step3
        obtain ⟨z1, z2, z3, z4⟩ := unhide s2
        have hl2 : (ts ++ [t]).length = n + 1 := by rw [List.length_append, unhide hn]; rfl
        refine ⟨rfl, ⟨I + sizeT t, at_ + (sizeT t).toNat, k', n + 1, c2, ts ++ [t], A2, u1, _, _, _, _, _, _, _, _, _, _, _, _, _, _, _, _, _, _, _, _, _, _, _, _, _, _, _, _, _, _, _, rfl, z1, z2, z3, unhide hnx, hl2, z4, own_below (unhide hown2) hb3 (Nat.le_refl _), bl_call (unhide hb2) hb3⟩, ?_⟩
        simp [intOf]
        omega
    · obtain rfl : at_ = l.length := by omega
      have ht := TokJ.end hts
      subst ht
      replace hown := hide hown; replace hb := hide hb; replace hts := hide hts; replace hn := hide hn
      have hI' : (l.length : Int) ≤ I := by omega
      clear hI
      go_wp2_with fail
      simp only [Exit.jump]
      go_ret2
      rw [unhide hn]
      exact ⟨A', c', rfl, unhide hown, unhide hb⟩
  · intro hp
    replace hp := hide hp
    go_wp2
    go_step3
    simp only [Exit.then]
    rename_i K1 hK1
    refine hK1 _ _ ?_
    refine unhide hp _ _ ⟨0, 0, l.length, 0, 0, [], none, undef, _, _, _, _, _, _, _, _, _, _, _, _, _, _, _, _, _, _, _, _, _, _, _, _, _, _, _, _, _, _, _, rfl, rfl, Nat.zero_le _, by omega, rfl, rfl, Nat.le_refl _, World.ownsRow_nil _ _ _ _, Below.refl _ _⟩
end Go.Proofs.YthkccpemgmpadaaDoor.P.M

namespace Go.Proofs.YthkccpemgmpadaaDoor.P.M
set_option maxRecDepth 100000
open Go.RowKit

theorem tok_if {s t : Tok} (W : World) : (if n8 s.lit = n8 t.lit then if s.len = t.len then if s.dist = t.dist then Result.ok true W else Result.ok false W else Result.ok false W else Result.ok false W) = Result.ok (decide (s = t)) W := by
  by_cases h : s = t
  · subst h; simp
  · rw [decide_eq_false h]
    split
    · split
      · split
        · exact absurd (Tok.eq (n8_inj (by assumption)) (by assumption) (by assumption)) h
        · rfl
      · rfl
    · rfl
/-- Are two tokens the same? -/
def eqT (a : UInt8) (b c : Int) (a' : UInt8) (b' c' : Int) : Bool := decide ((⟨a, b, c⟩ : Tok) = ⟨a', b', c'⟩)
theorem run_eq_tok (a : UInt8) (b c : Int) (a' : UInt8) (b' c' : Int) (W : World) : (Op.equalIn 10000 91 (.agg #[.int .u8 (n8 a), .int .i64 b, .int .i64 c]) (.agg #[.int .u8 (n8 a'), .int .i64 b', .int .i64 c'])).run Tryd.prog W = .ok (eqT a b c a' b' c') W := by
  rw [run_equalIn_agg W 9999 91 _ _ (by kernel_rfl) (by kernel_rfl)]
  have e5 := fun (a b : Int) => run_equalIn_int W 9998 5 .u8 .u8 a b Tryd.underlying5
  have e3 := fun (a b : Int) => run_equalIn_int W 9998 3 .i64 .i64 a b Tryd.underlying3
  unfold Program.fieldsOf
  unfold eqT
  rw [← tok_if (s := ⟨a, b, c⟩) (t := ⟨a', b', c'⟩)]
  simp [Tryd.underlying91, Op.eqFields, part, e5, e3]
theorem guard25 : Tryd.prog.eqGuardType Tryd.prog.depth 91 = false := by kernel_rfl
theorem run_neq_tok (a : UInt8) (b c : Int) (a' : UInt8) (b' c' : Int) (W : World) : (binOp .neq 91 (.agg #[.int .u8 (n8 a), .int .i64 b, .int .i64 c]) (.agg #[.int .u8 (n8 a'), .int .i64 b', .int .i64 c'])).run Tryd.prog W = .ok (.bool (!eqT a b c a' b' c')) W := by
  rw [run_neq_struct, run_eq_tok]; rfl
theorem run_eql_tok (a : UInt8) (b c : Int) (a' : UInt8) (b' c' : Int) (W : World) : (binOp .eql 91 (.agg #[.int .u8 (n8 a), .int .i64 b, .int .i64 c]) (.agg #[.int .u8 (n8 a'), .int .i64 b', .int .i64 c'])).run Tryd.prog W = .ok (.bool (eqT a b c a' b' c')) W := by
  rw [run_eql_struct, run_eq_tok]; rfl
attribute [-go_sem] run_eql_struct run_neq_struct
attribute [local go_sem] run_neq_tok run_eql_tok guard25

set_option maxHeartbeats 400000 in
theorem sameb_any (lo hi lo' hi' : Nat) (v1 v2 : Value) (a b : List UInt8) (w : World) (h1 : Bs lo hi w v1 a) (h2 : Bs lo' hi' w v2 b) : Calls Tryd.prog 12 #[v1, v2] w fun e w' => e = .returned (.bool (decide (a = b))) ∧ w = w' := by
  have c1 := h1.convert
  have c2 := h2.convert
  clear h1 h2
  have hs : ((strU a).toList == (strU b).toList) = decide (a = b) := by
    have e1 : (strU a).toList = a := strU_toList a
    have e2 : (strU b).toList = b := strU_toList b
    rw [e1, e2, Bool.eq_iff_iff]; simp
  go_enter Tryd.func12, Tryd.ntmps12
  go_wp2
  go_ret
  exact ⟨rfl, rfl⟩

end Go.Proofs.YthkccpemgmpadaaDoor.P.M

namespace Go.Proofs.YthkccpemgmpadaaDoor.P.M
set_option maxRecDepth 100000
open Go.RowKit

def liveL : List UInt8 := [97, 97, 97, 97, 97]
def liveT : List Tok := [⟨97, 0, 0⟩, ⟨0, 4, 1⟩]
theorem live_toks : toksB liveL = liveT := by decide +kernel
theorem liveL_bs (w : World) : Bs 0 (w.heap.size + 1) (w.alloc (.cells #[.int .u8 97, .int .u8 97, .int .u8 97, .int .u8 97, .int .u8 97] 5 (5, 6))) (.slice (some ⟨w.heap.size, 0, none⟩) 5 5) liveL := by
  refine ⟨_, 5, rfl, by simp [liveL], by omega, fun _ => ⟨w.heap.size, 0, rfl, Nat.zero_le _, by omega, fun i hi => ?_⟩⟩
  rw [cell_of_row _ w.heap.size (0 + i) _ 5 (5, 6) (heap_alloc_new w _)]
  match i, hi with
  | 0, _ => rfl
  | 1, _ => rfl
  | 2, _ => rfl
  | 3, _ => rfl
  | 4, _ => rfl
theorem liveT_tks {w : World} {g : Nat} (h : Blk w g 91 #[.int .u8 97, .int .i64 0, .int .i64 0, .int .u8 0, .int .i64 4, .int .i64 1]) : Tks 0 w.heap.size w (.slice (some ⟨g, 0, none⟩) 2 2) liveT := by
  refine Tks.make (l := liveT) (by simp [liveT]) (by omega) (Nat.zero_le _) h.lt fun k hk => ?_
  rw [h.cell, h.cell, h.cell]
  match k, hk with
  | 0, _ => exact ⟨rfl, rfl, rfl⟩
  | 1, _ => exact ⟨rfl, rfl, rfl⟩

end Go.Proofs.YthkccpemgmpadaaDoor.P.M

namespace Go.Proofs.YthkccpemgmpadaaDoor.P.M
set_option maxRecDepth 100000
open Go.RowKit

theorem bb_alloc {B : Nat} {a w : World} (h : Below B a w) (hB : B ≤ a.heap.size) (o : Obj) : Below B a (w.alloc o) := h.alloc (Nat.le_trans hB h.size) o
theorem bb_call {B : Nat} {a w w' : World} (h : Below B a w) (h' : Below w.heap.size w w') (hB : B ≤ a.heap.size) : Below B a w' := h.trans (h'.mono (Nat.le_trans hB h.size))
theorem o_src {w : World} {g : Nat} {x : UInt8} (h : Blk w g 5 #[.int .u8 (n8 x)]) : SrcOk w (some ⟨g, 0, none⟩) 1 [.int .u8 (n8 x)] := by
  refine fun _ => ⟨_, rfl, fun j u hu => ?_⟩
  have key : w.cell? ⟨g, j, none⟩ = some u := by
    rw [h.cell, ← hu]
    match j with
    | 0 => rfl
    | j + 1 => rfl
  unfold Addr.add
  split
  · rename_i h0; subst h0; exact key
  · rw [Nat.zero_add]; exact key
theorem o_one (x : UInt8) : ∀ u ∈ [Value.int .u8 (n8 x)], u.oneCell' = true := by
  intro u hu
  simp at hu
  subst hu
  rfl
theorem map_snoc (l : List UInt8) (x : UInt8) : l.map u8v ++ [.int .u8 (n8 x)] = (l ++ [x]).map u8v := by simp

theorem own_ne {w : World} {base : Nat} {e : TypeId} {size : Nat} {v : Value} {n : Nat} {xs : List Value} (h : w.ownsRow base e size v n xs) {g : Nat} {t : TypeId} {cs : Array Value} (hg : Blk w g t cs) (hne : e ≠ t) : some g ≠ v.ownBlock := by
  intro q
  rcases h.2 with ⟨rfl, _⟩ | ⟨g', cap, cur, rfl, _, hh, _⟩
  · cases q
  · injection q with q
    exact Blk.ne_ (t := e) (cs := cur) hh hg hne q.symm

set_option maxHeartbeats 2000000 in
theorem tell_any (base : Nat) (A : Option Addr) (n c : Nat) (l : List UInt8) (t : Tok) (w : World) (h : w.ownsRow base 5 1 (.slice A n c) n (l.map u8v)) (hb : base ≤ w.heap.size) (hok : okT t = true) (hd : t.dist ≤ n) (hn : n ≤ 2000000) :
    Calls Tryd.prog 67 #[.slice A n c, tkV t] w fun e w' => ∃ A' n' c', e = .returned (.slice A' n' c') ∧ (n' : Int) = n + sizeT t ∧ w'.ownsRow base 5 1 (.slice A' n' c') n' ((tellT l t).map u8v) ∧ Below base w w' := by
  obtain ⟨i0, hi0, iz0, iz1, iz2⟩ := info_parts info5
  have hbl := fun (x : List UInt8) W (m : Nat) (a : Option Addr) (d : Nat) (k : World.ownsRow W base 5 1 (.slice a m d) m (x.map u8v)) => (Bs.own k).open
  by_cases h0 : t.len = 0
  · have ht : tellT l t = l ++ [t.lit] := by simp [tellT, h0]
    have hs : sizeT t = 1 := by simp [sizeT, h0]
    rw [ht, hs]
    obtain ⟨o, tl, td⟩ := t
    simp only [] at h0
    subst h0
    have hto := o_one o
    have hfl := map_snoc l o
    have b1 : n + 1 ≤ maxLen := by simp only [maxLen]; omega
    have b2 : (n + 1) * 1 ≤ 140737488355328 := by omega
    clear ht hs hok hd hbl
    replace h := hide h; replace hto := hide hto; replace hfl := hide hfl; replace b1 := hide b1; replace b2 := hide b2; replace hb := hide hb
    go_enter Tryd.func67, Tryd.ntmps67
    go_wp2_with (first
      | (at_builtin
         refine wpList_app _ rfl (.tmp 8) (.tmp 11) 31 rfl base 5 i0 _ 1 1 Tryd.underlying31 hi0 iz0 iz1 iz2 rfl (Nat.succ_pos _) _ n (l.map u8v) rfl (((unhide h).alloc _).alloc _) (some ⟨w.heap.size + 1, 0, none⟩) 1 1 [.int .u8 (n8 o)] rfl rfl (o_src (by (repeat (first | with_reducible assumption | (focus (with_reducible refine Blk.new ?_; focus (simp <;> fail))) | with_reducible refine Blk.set3 (a := .int .u8 0) (b := .int .i64 0) (c := .int .i64 0) ?_ | with_reducible refine Blk.alloc ?_ _ | with_reducible refine Blk.drew ?_ | (focus (with_reducible refine Blk.far ?_ ?_ _; rotate_left; focus (first | omega | (simp <;> omega)))) | (focus (with_reducible refine Blk.below ?_ hb1 ?_; rotate_left; focus (first | omega | (simp <;> omega)))) | (focus (with_reducible refine Blk.below ?_ hb2 ?_; rotate_left; focus (first | omega | (simp <;> omega)))) | (focus (with_reducible refine Blk.below ?_ hb3 ?_; rotate_left; focus (first | omega | (simp <;> omega)))) | (focus (with_reducible refine Blk.below ?_ hb4 ?_; rotate_left; focus (first | omega | (simp <;> omega)))) | (focus (with_reducible refine Blk.below ?_ hb5 ?_; rotate_left; focus (first | omega | (simp <;> omega)))) | (focus (with_reducible refine Blk.below ?_ hb6 ?_; rotate_left; focus (first | omega | (simp <;> omega)))) | (focus (with_reducible refine Blk.below ?_ hb7 ?_; rotate_left; focus (first | omega | (simp <;> omega)))) | (focus (with_reducible refine Blk.below ?_ hb8 ?_; rotate_left; focus (first | omega | (simp <;> omega)))) | (focus (with_reducible refine Blk.below ?_ hb9 ?_; rotate_left; focus (first | omega | (simp <;> omega)))) | (focus (with_reducible refine Blk.below ?_ hb10 ?_; rotate_left; focus (first | omega | (simp <;> omega)))) | (focus (with_reducible refine Blk.below ?_ hb11 ?_; rotate_left; focus (first | omega | (simp <;> omega)))) | (focus (with_reducible refine Blk.below ?_ hb12 ?_; rotate_left; focus (first | omega | (simp <;> omega)))) | fail)))) (unhide hto) (unhide b1) (unhide b2) (by have := unhide hb; simp; omega) ?_
         intro v2 w2 hown2 hg2
         obtain ⟨A2, c2, rfl⟩ := ownsRow_form hown2
         rw [unhide hfl] at hown2)
      | fail)
    go_ret
    refine ⟨A2, n + 1, c2, rfl, by simp, hown2, ?_⟩
    exact (bb_alloc (bb_alloc (Below.refl _ _) (unhide hb) _) (unhide hb) _).grown hg2 (by have := unhide hb; simp; omega) (own_base (unhide h))
  · obtain ⟨k0, k1, k2, k3, k4⟩ := okT_len hok h0
    have ht : tellT l t = tellN l t.dist.toNat t.len.toNat := by simp [tellT, h0]
    have hs : sizeT t = t.len := by simp [sizeT, h0]
    rw [ht, hs]
    have hll : l.length = n := by have := ownsRow_len h; simpa using this
    obtain ⟨o, L, d⟩ := t
    simp only [] at h0 k0 k1 k2 k3 k4 hd
    have hL0 : (L == 0) = false := by simpa using h0
    clear ht hs hok k0 h0
    replace h := hide h; replace hbl := hide hbl; replace hll := hide hll
    go_enter Tryd.func67, Tryd.ntmps67
    go_wp2_with fail
    go_loopw [0, 15] (fun s0 i wr => ∃ (K : Int) (m : Nat) (A2 : Option Addr) (c2 : Nat), 0 ≤ K ∧ K ≤ L ∧ i = .int .i64 K ∧ s0 = .slice A2 m c2 ∧ (m : Int) = n + K ∧ Hid (wr.ownsRow base 5 1 (.slice A2 m c2) m ((tellN l d.toNat K.toNat).map u8v)) ∧ Hid (Below base w wr) ∧ Hid (Blk wr w.heap.size 91 #[.int .u8 (n8 o), .int .i64 L, .int .i64 d])) (fun _ i _ => 18 - (intOf i).toNat)
    case atStart => exact ⟨0, n, A, c, by omega, by omega, rfl, rfl, by omega, hide ((unhide h).alloc _), hide (bb_alloc (Below.refl _ _) hb _), hide (by (repeat (first | with_reducible assumption | (focus (with_reducible refine Blk.new ?_; focus (simp <;> fail))) | with_reducible refine Blk.set3 (a := .int .u8 0) (b := .int .i64 0) (c := .int .i64 0) ?_ | with_reducible refine Blk.alloc ?_ _ | with_reducible refine Blk.drew ?_ | (focus (with_reducible refine Blk.far ?_ ?_ _; rotate_left; focus (first | omega | (simp <;> omega)))) | (focus (with_reducible refine Blk.below ?_ hb1 ?_; rotate_left; focus (first | omega | (simp <;> omega)))) | (focus (with_reducible refine Blk.below ?_ hb2 ?_; rotate_left; focus (first | omega | (simp <;> omega)))) | (focus (with_reducible refine Blk.below ?_ hb3 ?_; rotate_left; focus (first | omega | (simp <;> omega)))) | (focus (with_reducible refine Blk.below ?_ hb4 ?_; rotate_left; focus (first | omega | (simp <;> omega)))) | (focus (with_reducible refine Blk.below ?_ hb5 ?_; rotate_left; focus (first | omega | (simp <;> omega)))) | (focus (with_reducible refine Blk.below ?_ hb6 ?_; rotate_left; focus (first | omega | (simp <;> omega)))) | (focus (with_reducible refine Blk.below ?_ hb7 ?_; rotate_left; focus (first | omega | (simp <;> omega)))) | (focus (with_reducible refine Blk.below ?_ hb8 ?_; rotate_left; focus (first | omega | (simp <;> omega)))) | (focus (with_reducible refine Blk.below ?_ hb9 ?_; rotate_left; focus (first | omega | (simp <;> omega)))) | (focus (with_reducible refine Blk.below ?_ hb10 ?_; rotate_left; focus (first | omega | (simp <;> omega)))) | (focus (with_reducible refine Blk.below ?_ hb11 ?_; rotate_left; focus (first | omega | (simp <;> omega)))) | (focus (with_reducible refine Blk.below ?_ hb12 ?_; rotate_left; focus (first | omega | (simp <;> omega)))) | fail)))⟩
    case round =>
      obtain ⟨K, m, A2, c2, j0, j1, rfl, rfl, hm, ho, hbw, hB⟩ := hrel
      have q1 := (unhide hB).cell 1
      have q2 := (unhide hB).cell 2
      simp at q1 q2
      have y0 : w.heap.size < wr.heap.size := (unhide hB).lt
      by_cases hlt : K < L
      · have hlen : (tellN l d.toNat K.toNat).length = m := by rw [tellN_len]; have := unhide hll; omega
        obtain ⟨A3, c3, e3, x1, x2, x3⟩ := unhide hbl _ wr _ _ _ (unhide ho)
        injection e3 with e4 e6 e5
        clear e6
        subst e4 e5
        rw [hlen] at x1
        obtain ⟨g, off, rfl, g1, g2, g3⟩ := x3 (m - d.toNat) (by omega)
        have hnx : tellN l d.toNat (K + 1).toNat = tellN l d.toNat K.toNat ++ [(tellN l d.toNat K.toNat).getD (m - d.toNat) 0] := by
          rw [show (K + 1).toNat = K.toNat + 1 by omega, tellN, hlen]
        generalize (tellN l d.toNat K.toNat).getD (m - d.toNat) 0 = x at *
        generalize tellN l d.toNat K.toNat = T at *
        have hto := o_one x
        have hfl := map_snoc T x
        rw [← hnx] at hfl
        have b1 : m + 1 ≤ maxLen := by simp only [maxLen]; omega
        have b2 : (m + 1) * 1 ≤ 140737488355328 := by omega
        have hbs := (unhide hbw).size
        have bb : base ≤ wr.heap.size := by omega
        have hm1 : ((m + 1 : Nat) : Int) = (n : Int) + (K + 1) := by omega
        have e1 : m - d.toNat = ((m : Int) - d).toNat := by omega
        rw [e1] at g3
        have i1 : IntKind.i64.wrap ((m : Int) - d) = (m : Int) - d := IntWalk.i64_in _ (by omega)
        have i2 : (0 : Int) ≤ (m : Int) - d := by omega
        have i3 : (m : Int) - d < m := by omega
        have i4 : d ≤ (m : Int) := by omega
        have i5 : IntKind.i64.wrap (K + 1) = K + 1 := IntWalk.i64_in _ (by omega)
        replace hto := hide hto; replace hfl := hide hfl; replace b1 := hide b1; replace b2 := hide b2; replace bb := hide bb; replace hm1 := hide hm1
        clear hnx hlen x3 x1 e1
        replace hm := hide hm
        go_wp2_with (first
          | (at_builtin
             refine wpList_app _ rfl (.tmp 17) (.tmp 26) 31 rfl base 5 i0 _ 1 1 Tryd.underlying31 hi0 iz0 iz1 iz2 rfl (Nat.succ_pos _) _ m (T.map u8v) rfl ((unhide ho).alloc _) (some ⟨wr.heap.size, 0, none⟩) 1 1 [.int .u8 (n8 x)] rfl rfl (o_src (by (repeat (first | with_reducible assumption | (focus (with_reducible refine Blk.new ?_; focus (simp <;> fail))) | with_reducible refine Blk.set3 (a := .int .u8 0) (b := .int .i64 0) (c := .int .i64 0) ?_ | with_reducible refine Blk.alloc ?_ _ | with_reducible refine Blk.drew ?_ | (focus (with_reducible refine Blk.far ?_ ?_ _; rotate_left; focus (first | omega | (simp <;> omega)))) | (focus (with_reducible refine Blk.below ?_ hb1 ?_; rotate_left; focus (first | omega | (simp <;> omega)))) | (focus (with_reducible refine Blk.below ?_ hb2 ?_; rotate_left; focus (first | omega | (simp <;> omega)))) | (focus (with_reducible refine Blk.below ?_ hb3 ?_; rotate_left; focus (first | omega | (simp <;> omega)))) | (focus (with_reducible refine Blk.below ?_ hb4 ?_; rotate_left; focus (first | omega | (simp <;> omega)))) | (focus (with_reducible refine Blk.below ?_ hb5 ?_; rotate_left; focus (first | omega | (simp <;> omega)))) | (focus (with_reducible refine Blk.below ?_ hb6 ?_; rotate_left; focus (first | omega | (simp <;> omega)))) | (focus (with_reducible refine Blk.below ?_ hb7 ?_; rotate_left; focus (first | omega | (simp <;> omega)))) | (focus (with_reducible refine Blk.below ?_ hb8 ?_; rotate_left; focus (first | omega | (simp <;> omega)))) | (focus (with_reducible refine Blk.below ?_ hb9 ?_; rotate_left; focus (first | omega | (simp <;> omega)))) | (focus (with_reducible refine Blk.below ?_ hb10 ?_; rotate_left; focus (first | omega | (simp <;> omega)))) | (focus (with_reducible refine Blk.below ?_ hb11 ?_; rotate_left; focus (first | omega | (simp <;> omega)))) | (focus (with_reducible refine Blk.below ?_ hb12 ?_; rotate_left; focus (first | omega | (simp <;> omega)))) | fail)))) (unhide hto) (unhide b1) (unhide b2) (by have := unhide bb; simp; omega) ?_
             intro v2 w2 hown2 hg2
             obtain ⟨A4, c4, rfl⟩ := ownsRow_form hown2
             rw [unhide hfl] at hown2)
          | fail)
        clear i1 i5
        go_roundw
        case rel =>
          refine ⟨K + 1, m + 1, A4, c4, by omega, by omega, rfl, rfl, unhide hm1, hide hown2, hide ?_, hide ?_⟩
          · exact (bb_alloc (unhide hbw) hb _).grown hg2 (by have := unhide bb; simp; omega) (own_base (unhide ho))
          · exact Blk.grown ((unhide hB).alloc _) hg2 (own_ne (unhide ho) (unhide hB) (by decide))
        case measure => simp [intOf]; omega
      · obtain rfl : K = L := by omega
        replace hm := hide hm
        go_wp2_with fail
        go_ret
        exact ⟨A2, m, c2, rfl, unhide hm, unhide ho, unhide hbw⟩
end Go.Proofs.YthkccpemgmpadaaDoor.P.M

namespace Go.Proofs.YthkccpemgmpadaaDoor.P.M
set_option maxRecDepth 100000
open Go.RowKit

/-- What Text answers. -/
def textR (l : List Tok) (most : Int) : List UInt8 × Int :=
  if okB l = false then ([], 1) else if most < 0 then ([], 1) else if sumT l ≤ most ∧ sumT l ≤ 65536 then (textF [] l, 0) else ([], 3)
theorem ret_si {A : Option Addr} {n c : Nat} {a b : Int} (h : a = b) : Ending.returned (.tuple #[.slice A n c, .int .i64 a]) = .returned (.tuple #[.slice A n c, .int .i64 b]) := by rw [h]

set_option maxHeartbeats 2000000 in
theorem Text_any (lo : Nat) (v : Value) (l : List Tok) (most : Int) (bs : List UInt8) (er : Int) (w : World) (h : Tks lo w.heap.size w v l) (hr : textR l most = (bs, er)) :
    Calls Tryd.prog 46 #[v, .int .i64 most] w fun e w' => ∃ A n c, e = .returned (.tuple #[.slice A n c, .int .i64 er]) ∧ w'.ownsRow w.heap.size 5 1 (.slice A n c) n (bs.map u8v) ∧ Below w.heap.size w w' := by
  obtain ⟨i0, hi0, iz0, iz1, iz2⟩ := info_parts info5
  have hlg := Long_any lo v l w h
  obtain ⟨A, c, rfl, h1, h2, h3⟩ := h.open
  clear h
  cases hok : okB l with
  | false =>
    rw [textR, if_pos hok] at hr
    injection hr with r1 r2
    subst r1 r2
    rw [hok] at hlg
    change Calls Tryd.prog 66 #[.slice A l.length c] w fun e w' => e = .returned (.tuple #[.int .i64 (longN l), .int .i64 1]) ∧ Below w.heap.size w w' at hlg
    replace hlg := hide hlg; replace hok := hide hok; replace h3 := hide h3
    go_enter Tryd.func46, Tryd.ntmps46
    go_wp2_with (go_at_call 66; refine (unhide hlg).mono ?_; rintro e w1 ⟨rfl, hb1⟩)
    go_ret2
    exact ⟨none, 0, 0, rfl, World.ownsRow_nil _ _ _ _, hb1⟩
  | true =>
    rw [textR, if_neg (by rw [hok]; decide)] at hr
    obtain ⟨o1, o2⟩ := okB_iff.1 hok
    have hs := okL_sum o2
    have hln : longN l = sumT l := by simp [longN, hok]
    rw [hok, hln] at hlg
    change Calls Tryd.prog 66 #[.slice A l.length c] w fun e w' => e = .returned (.tuple #[.int .i64 (sumT l), .int .i64 0]) ∧ Below w.heap.size w w' at hlg
    have hsl : sumT (l.take l.length) = sumT l := by rw [List.take_length]
    have htl : textF [] (l.take l.length) = textF [] l := by rw [List.take_length]
    generalize hS : sumT l = S at *
    obtain ⟨s1, s2⟩ := hs
    by_cases hm : most < 0
    · rw [if_pos hm] at hr
      injection hr with r1 r2
      subst r1 r2
      replace hlg := hide hlg; replace hok := hide hok; replace h3 := hide h3; replace hS := hide hS; replace hsl := hide hsl; replace htl := hide htl
      go_enter Tryd.func46, Tryd.ntmps46
      go_wp2_with (go_at_call 66; refine (unhide hlg).mono ?_; rintro e w1 ⟨rfl, hb1⟩)
      go_ret2
      exact ⟨none, 0, 0, rfl, World.ownsRow_nil _ _ _ _, hb1⟩
    · rw [if_neg hm] at hr
      by_cases hc : S ≤ most ∧ S ≤ 65536
      · rw [if_pos hc] at hr
        injection hr with r1 r2
        subst r1 r2
        obtain ⟨c1, c2⟩ := hc
        obtain ⟨N, hN⟩ : ∃ N : Nat, S = N := ⟨S.toNat, by omega⟩
        have hmk0 := fun W : World => run_make (P := Tryd.prog) W 31 5 i0 _ Tryd.underlying31 hi0 iz0 .i64 .i64 0 S (by omega) (by omega) (by rw [iz2]; omega) (by omega)
        have hmk : ∃ C : Array Value, C.size = N ∧ ∀ W : World, (Instr.makeSlice 31 (.int .i64 0) (.int .i64 S)).run Tryd.prog W = .ok (.slice (some ⟨W.heap.size, 0, none⟩) 0 N) (W.alloc (.cells C 5)) := by
          refine ⟨madeCells (Value.int .u8 0).cells (S.toNat * i0.size), ?_, fun W => ?_⟩
          · rw [hN, Int.toNat_natCast, iz1]; simp [madeCells]
          · rw [hmk0 W, hN, Int.toNat_natCast]; rfl
        obtain ⟨C, hC, hmk⟩ := hmk
        have hown0 : ∀ W : World, Below w.heap.size w W → (W.alloc (.cells C 5)).ownsRow w.heap.size 5 1 (.slice (some ⟨W.heap.size, 0, none⟩) 0 N) 0 [] := fun W hb => own_fresh W _ _ 5 1 N C rfl hb.size (by simp only [maxLen]; omega) (by omega)
        replace hN := hide hN; replace hC := hide hC; replace hown0 := hide hown0; replace o2 := hide o2
        replace hlg := hide hlg; replace hok := hide hok; replace h3 := hide h3; replace hS := hide hS; replace hsl := hide hsl; replace htl := hide htl
        clear hmk0 hln
        have g1 : ¬ most < S := by omega
        have g2 : ¬ 65536 < S := by omega
        go_enter Tryd.func46, Tryd.ntmps46
        go_wp2_with (go_at_call 66; refine (unhide hlg).mono ?_; rintro e w1 ⟨rfl, hb1⟩)
        all_goals
          replace hmk := hide hmk
          go_loopw [8, 29] (fun s8 i wr => ∃ (k m : Nat) (A2 : Option Addr) (c2 : Nat), k ≤ l.length ∧ i = .int .i64 k ∧ s8 = .slice A2 m c2 ∧ Hid ((m : Int) = sumT (l.take k)) ∧ m ≤ 18 * k ∧ Hid (wr.ownsRow w.heap.size 5 1 (.slice A2 m c2) m ((textF [] (l.take k)).map u8v)) ∧ Hid (Below w.heap.size w wr)) (fun _ i _ => l.length - (intOf i).toNat)
          case atStart => exact ⟨0, 0, _, _, Nat.zero_le _, rfl, rfl, hide rfl, Nat.le_refl _, hide (unhide hown0 w1 hb1), hide (by (repeat (first | with_reducible exact Below.refl _ _ | with_reducible assumption | with_reducible refine Below.drew ?_ | with_reducible refine bl_alloc ?_ _ | with_reducible refine bl_call ?_ (by assumption) | (focus (with_reducible refine Below.setCell ?_ ?_ _; rotate_left; focus (first | omega | (simp <;> omega)))) | fail)))⟩
          case round =>
            obtain ⟨k, m, A2, c2, hk, rfl, rfl, hm1, hm2, ho, hb⟩ := hrel
            by_cases hlt : k < l.length
            · obtain ⟨b, off, rfl, x1, x2, q0, q1, q2⟩ := unhide h3 k hlt
              have c0 := ((unhide hb).cell (p := ⟨b, off + k * 3, none⟩) x2).trans q0
              have c1 := ((unhide hb).cell (p := ⟨b, off + k * 3 + 1, none⟩) x2).trans q1
              have c2' := ((unhide hb).cell (p := ⟨b, off + k * 3 + 2, none⟩) x2).trans q2
              obtain ⟨t1, t2⟩ := okL_get hlt (unhide o2)
              have t3 := okT_size t1
              have hsn := sumT_snoc hlt
              have htx := textF_snoc (b := []) hlt
              have hbs := (unhide hb).size
              rw [Int.zero_add, ← unhide hm1] at t2
              rw [← unhide hm1] at hsn
              have htell := fun W (hbb : Below wr.heap.size wr W) => tell_any w.heap.size A2 m c2 (textF [] (l.take k)) l[k] W (own_below (unhide ho) hbb (Nat.le_refl _)) (Nat.le_trans hbs hbb.size) t1 t2 (by omega)
              rw [← htx] at htell
              unfold tkV at htell
              generalize l[k] = t at *
              clear q0 q1 q2 x1 x2 htx t1 t2
              replace htell := hide htell; replace hsn := hide hsn; replace hbs := hide hbs
              go_wp2_with (go_at_call 67; refine (unhide htell _ (by (repeat (first | with_reducible exact Below.refl _ _ | with_reducible assumption | with_reducible refine Below.drew ?_ | with_reducible refine bl_alloc ?_ _ | with_reducible refine bl_call ?_ (by assumption) | (focus (with_reducible refine Below.setCell ?_ ?_ _; rotate_left; focus (first | omega | (simp <;> omega)))) | fail)))).mono ?_; rintro e w2 ⟨A3, n3, c3, rfl, hn3, ho3, hb3⟩; replace hn3 := hide hn3; replace ho3 := hide ho3)
              go_roundw
              case rel => exact ⟨k + 1, n3, A3, c3, by omega, by go_num, rfl, hide (by rw [unhide hsn]; exact unhide hn3), by have := unhide hn3; omega, hide (unhide ho3), hide (((unhide hb).alloc (unhide hbs) _).trans hb3)⟩
              case measure => simp [intOf]; omega
            · obtain rfl : k = l.length := by omega
              go_wp2_with fail
              go_ret2
              have ho' := unhide ho
              rw [unhide htl] at ho'
              exact ⟨A2, m, c2, rfl, ho', unhide hb⟩
      · rw [if_neg hc] at hr
        injection hr with r1 r2
        subst r1 r2
        replace hlg := hide hlg; replace hok := hide hok; replace h3 := hide h3; replace hS := hide hS; replace hsl := hide hsl; replace htl := hide htl
        replace hc := hide hc
        go_enter Tryd.func46, Tryd.ntmps46
        go_wp2_with (go_at_call 66; refine (unhide hlg).mono ?_; rintro e w1 ⟨rfl, hb1⟩)
        all_goals (have hc' := unhide hc; first | (exfalso; omega) | skip)
        all_goals go_ret2
        all_goals exact ⟨none, 0, 0, rfl, World.ownsRow_nil _ _ _ _, hb1⟩
end Go.Proofs.YthkccpemgmpadaaDoor.P.M

namespace Go.Proofs.YthkccpemgmpadaaDoor.P.M
set_option maxRecDepth 100000
open Go.RowKit

theorem toksB_ok {l : List UInt8} (h : l.length ≤ 65536) : okB (toksB l) = true := by
  rw [okB_iff]; exact ⟨by have := toksB_len l; omega, (toksB_text l).2⟩
/-- Tokens' contract for a text whose world has grown. -/
theorem Tokens_at (lo : Nat) (v : Value) (l : List UInt8) (w : World) (h : Bs lo w.heap.size w v l) (hl : l.length ≤ 65536) (W : World) (hb : Below w.heap.size w W) :
    Calls Tryd.prog 34 #[v] W fun e w' => ∃ A c, e = .returned (.tuple #[.slice A (toksB l).length c, .int .i64 0]) ∧ Tks 0 w'.heap.size w' (.slice A (toksB l).length c) (toksB l) ∧ Below W.heap.size W w' :=
  (Tokens_any lo v l W (h.grow hb) hl).mono fun _ _ ⟨A, c, he, ho, hb'⟩ => ⟨A, c, he, (Tks.own ho).mono (Nat.zero_le _) (Nat.le_refl _), hb'⟩
theorem Text_at (v : Value) (T : List Tok) (most : Int) (bs : List UInt8) (er : Int) (hr : textR T most = (bs, er)) (lo : Nat) (W : World) (h : Tks lo W.heap.size W v T) :
    Calls Tryd.prog 46 #[v, .int .i64 most] W fun e w' => ∃ A c, e = .returned (.tuple #[.slice A bs.length c, .int .i64 er]) ∧ Bs 0 w'.heap.size w' (.slice A bs.length c) bs ∧ Below W.heap.size W w' :=
  (Text_any lo v T most bs er W h hr).mono fun e w' ⟨A, n, c, he, ho, hb'⟩ => by
    have hn : bs.length = n := by have := ownsRow_len ho; simpa using this
    subst hn
    exact ⟨A, c, he, (Bs.own ho).mono (Nat.zero_le _) (Nat.le_refl _), hb'⟩

end Go.Proofs.YthkccpemgmpadaaDoor.P.M

namespace Go.Proofs.YthkccpemgmpadaaDoor.P
set_option maxRecDepth 100000

/-- A number's bits by a tree at 'c', the node 'm' being next. -/
def numB (c : Int) (n : Nat) : Nat → Nat → List Bit
  | 0, _ => []
  | k + 1, m => ⟨c + m, n / 2 ^ k % 2 == 1⟩ :: numB c n k (2 * m + n / 2 ^ k % 2)
/-- A token's bits. -/
def tokB (t : Tok) : List Bit := ⟨0, decide (0 < t.len)⟩ :: (if t.len = 0 then numB 0 t.lit.toNat 8 1 else numB 256 (t.len - 3).toNat 4 1 ++ numB 272 (t.dist - 1).toNat 8 1)
def bitsF (l : List Tok) : List Bit := l.flatMap tokB
/-- What Bits answers. -/
def bitsR (l : List Tok) : List Bit × Int := if okL 0 l then (bitsF l, 0) else ([], 1)

theorem numB_len (c : Int) (n k m : Nat) : (numB c n k m).length = k := by
  induction k generalizing m with
  | zero => rfl
  | succ k ih => simp [numB, ih]
theorem tokB_len {t : Tok} (h : okT t = true) : (tokB t).length = 9 + (if 0 < t.len then 4 else 0) := by
  unfold tokB
  by_cases h0 : t.len = 0
  · rw [if_pos h0, if_neg (by omega)]; simp [numB_len]
  · have := okT_len h h0
    rw [if_neg h0, if_pos (by omega)]; simp [numB_len]
theorem numB_in {c : Int} {n k m W : Nat} (hm : 1 ≤ m) (h : (m + 1) * 2 ^ k ≤ 2 ^ (W + 1)) : ∀ x ∈ numB c n k m, c + 1 ≤ x.at_ ∧ x.at_ < c + 2 ^ W := by
  induction k generalizing m with
  | zero => intro x hx; simp [numB] at hx
  | succ k ih =>
    intro x hx
    rw [numB, List.mem_cons] at hx
    have h1 : (m + 1) * 2 ≤ 2 ^ (W + 1) := Nat.le_trans (Nat.mul_le_mul_left _ (by rw [Nat.pow_succ]; have := Nat.one_le_two_pow (n := k); omega)) h
    rw [Nat.pow_succ] at h1
    have h2 : m < 2 ^ W := by omega
    have h2' : ((m : Nat) : Int) < 2 ^ W := by
      have : ((m : Nat) : Int) < ((2 ^ W : Nat) : Int) := by omega
      simpa using this
    rcases hx with rfl | hx
    · simp only []; omega
    · refine ih (by omega) ?_ x hx
      refine Nat.le_trans ?_ h
      rw [Nat.pow_succ, Nat.mul_comm (2 ^ k) 2, ← Nat.mul_assoc]
      exact Nat.mul_le_mul_right _ (by have := Nat.mod_lt (n / 2 ^ k) (show 0 < 2 by omega); omega)
theorem tokB_in (t : Tok) : ∀ x ∈ tokB t, inB 528 x = true := by
  intro x hx
  rw [inB_iff]
  unfold tokB at hx
  rw [List.mem_cons] at hx
  rcases hx with rfl | hx
  · simp
  · split at hx
    · have := numB_in (W := 8) (by omega) (by decide) x hx
      simp at this; omega
    · rcases List.mem_append.1 hx with hx | hx
      · have := numB_in (W := 4) (by omega) (by decide) x hx
        simp at this; omega
      · have := numB_in (W := 8) (by omega) (by decide) x hx
        simp at this; omega
theorem bitsF_in (l : List Tok) : ∀ x ∈ bitsF l, inB 528 x = true := by
  intro x hx
  obtain ⟨t, _, h⟩ := List.mem_flatMap.1 hx
  exact tokB_in t x h
theorem bitsF_append (p q : List Tok) : bitsF (p ++ q) = bitsF p ++ bitsF q := by simp [bitsF]
/-- Nine bits for an octet, at the most. -/
theorem bitsF_len {n : Int} {l : List Tok} (h : okL n l = true) : ((bitsF l).length : Int) ≤ 9 * sumT l := by
  induction l generalizing n with
  | nil => simp [bitsF, sumT]
  | cons t r ih =>
    obtain ⟨h1, h2, h3⟩ := okL_cons.1 h
    have := ih h3
    have e : (bitsF (t :: r)).length = (tokB t).length + (bitsF r).length := by simp [bitsF]
    have hs : sumT (t :: r) = sizeT t + sumT r := rfl
    rw [e, hs, tokB_len h1]
    by_cases h0 : t.len = 0
    · rw [if_neg (by omega)]
      have : sizeT t = 1 := by unfold sizeT; rw [if_pos h0]
      omega
    · have ho := okT_len h1 h0
      rw [if_pos (by omega)]
      have : sizeT t = t.len := by unfold sizeT; rw [if_neg h0]
      omega
/-- How many bits tokens have. -/
theorem bitsF_cnt {n : Int} {l : List Tok} (h : okL n l = true) : (bitsF l).length = (l.map fun t => 9 + (if 0 < t.len then 4 else 0)).sum := by
  induction l generalizing n with
  | nil => simp [bitsF]
  | cons t r ih =>
    obtain ⟨h1, h2, h3⟩ := okL_cons.1 h
    have e : (bitsF (t :: r)).length = (tokB t).length + (bitsF r).length := by simp [bitsF]
    rw [e, tokB_len h1, ih h3]; simp

/-! ### reading -/
/-- A number read by a tree. -/
def treeR (t : List Int) (c : Int) : Nat → Nat → Rdr → Option (Nat × Rdr)
  | 0, m, r => some (m, r)
  | k + 1, m, r => if (nextR t r (c + m)).2.2 = 0 then treeR t c k (2 * m + (if (nextR t r (c + m)).1 then 1 else 0)) (nextR t r (c + m)).2.1 else none
/-- The next token. -/
def tokR (t : List Int) (r : Rdr) : Option (Tok × Rdr) :=
  if (nextR t r 0).2.2 = 0 then
    if (nextR t r 0).1 then
      match treeR t 256 4 1 (nextR t r 0).2.1 with
      | none => none
      | some (m, r1) => match treeR t 272 8 1 r1 with
        | none => none
        | some (q, r2) => some (⟨0, (m : Int) - 16 + 3, (q : Int) - 256 + 1⟩, r2)
    else match treeR t 0 8 1 (nextR t r 0).2.1 with
      | none => none
      | some (m, r1) => some (⟨UInt8.ofNat (m - 256), 0, 0⟩, r1)
  else none
/-- All tokens, as long as they tell less than 'n'. -/
def toksR (t : List Int) (n : Int) : Nat → Int → Rdr → List Tok → Option (List Tok × Rdr)
  | 0, _, r, acc => some (acc, r)
  | f + 1, told, r, acc => if told < n then (match tokR t r with | none => none | some (x, r') => toksR t n f (told + sizeT x) r' (acc ++ [x])) else some (acc, r)

theorem tree_ties {t : List Int} {c : Int} {n : Nat} (ht : okB t) (k m : Nat) {s : Enc} {r : Rdr} {ys : List Bit} (h : InvE s) (hx : ∀ y ∈ numB c n k m ++ ys, inB s.c.length y = true) (hr : Ties t s r)
    (hlen : (putAll s (numB c n k m ++ ys)).text.length + 4 ≤ t.length) (hnum : num (t.take ((putAll s (numB c n k m ++ ys)).text.length + 4)) = numE (putAll s (numB c n k m ++ ys))) :
    ∃ r', treeR t c k m r = some (m * 2 ^ k + n % 2 ^ k, r') ∧ Ties t (putAll s (numB c n k m)) r' ∧ InvE (putAll s (numB c n k m)) := by
  induction k generalizing m s r with
  | zero => exact ⟨r, by simp [treeR, Nat.mod_one], by simpa [numB, putAll] using hr, by simpa [numB, putAll] using h⟩
  | succ k ih =>
    have hh : numB c n (k + 1) m = ⟨c + m, n / 2 ^ k % 2 == 1⟩ :: numB c n k (2 * m + n / 2 ^ k % 2) := rfl
    rw [hh] at hx hlen hnum ⊢
    obtain ⟨b1, b2, b3⟩ := ties_next (ys := numB c n k (2 * m + n / 2 ^ k % 2) ++ ys) ht h (by simpa using hx) hr (by simpa using hlen) (by simpa using hnum)
    simp only [] at b1 b2 b3
    obtain ⟨g, _⟩ := put_ok h (hx ⟨c + m, n / 2 ^ k % 2 == 1⟩ (by simp))
    have hbit : (if (nextR t r (c + m)).1 then 1 else 0) = n / 2 ^ k % 2 := by
      rw [b1]
      rcases Nat.mod_two_eq_zero_or_one (n / 2 ^ k) with e | e <;> rw [e] <;> rfl
    obtain ⟨r', e1, e2, e3⟩ := ih (2 * m + n / 2 ^ k % 2) g (fun y hy => by rw [put_c]; exact hx y (by rw [List.cons_append]; exact List.mem_cons_of_mem _ hy)) b3 (by simpa [putAll] using hlen) (by simpa [putAll] using hnum)
    refine ⟨r', ?_, by simpa [putAll] using e2, by simpa [putAll] using e3⟩
    rw [treeR, if_pos b2, hbit, e1, Nat.mod_pow_succ]
    congr 2
    rw [Nat.add_mul, Nat.pow_succ]
    generalize n / 2 ^ k % 2 = q
    generalize 2 ^ k = P
    generalize n % P = z
    have : 2 * m * P = m * (P * 2) := by rw [Nat.mul_comm 2 m, Nat.mul_assoc, Nat.mul_comm 2 P]
    have : q * P = P * q := Nat.mul_comm _ _
    omega

theorem tok_ties {t : List Int} {x : Tok} (ht : okB t) (hok : okT x = true) {s : Enc} {r : Rdr} {ys : List Bit} (h : InvE s) (hc : s.c.length = 528) (hy : ∀ y ∈ ys, inB 528 y = true) (hr : Ties t s r)
    (hlen : (putAll s (tokB x ++ ys)).text.length + 4 ≤ t.length) (hnum : num (t.take ((putAll s (tokB x ++ ys)).text.length + 4)) = numE (putAll s (tokB x ++ ys))) :
    ∃ r', tokR t r = some (x, r') ∧ Ties t (putAll s (tokB x)) r' ∧ InvE (putAll s (tokB x)) := by
  have hin : ∀ y ∈ tokB x ++ ys, inB s.c.length y = true := by
    rw [hc]; intro y h1
    rcases List.mem_append.1 h1 with h1 | h1
    · exact tokB_in x y h1
    · exact hy y h1
  have hd : ∃ zs, tokB x = ⟨0, decide (0 < x.len)⟩ :: zs ∧ zs = (if x.len = 0 then numB 0 x.lit.toNat 8 1 else numB 256 (x.len - 3).toNat 4 1 ++ numB 272 (x.dist - 1).toNat 8 1) := ⟨_, rfl, rfl⟩
  obtain ⟨zs, e0, hz⟩ := hd
  rw [e0] at hlen hnum hin ⊢
  obtain ⟨b1, b2, b3⟩ := ties_next (ys := zs ++ ys) ht h (by simpa using hin) hr (by simpa using hlen) (by simpa using hnum)
  simp only [] at b1 b2 b3
  obtain ⟨g, _⟩ := put_ok h (hin ⟨0, decide (0 < x.len)⟩ (by simp))
  have hlen' : (putAll (put s ⟨0, decide (0 < x.len)⟩) (zs ++ ys)).text.length + 4 ≤ t.length := by simpa [putAll] using hlen
  have hnum' : num (t.take ((putAll (put s ⟨0, decide (0 < x.len)⟩) (zs ++ ys)).text.length + 4)) = numE (putAll (put s ⟨0, decide (0 < x.len)⟩) (zs ++ ys)) := by simpa [putAll] using hnum
  have hin' : ∀ y ∈ zs ++ ys, inB (put s ⟨0, decide (0 < x.len)⟩).c.length y = true := fun y h1 => by rw [put_c]; exact hin y (by rw [List.cons_append]; exact List.mem_cons_of_mem _ h1)
  have hcons : putAll s (⟨0, decide (0 < x.len)⟩ :: zs) = putAll (put s ⟨0, decide (0 < x.len)⟩) zs := rfl
  rw [hcons]
  generalize put s ⟨0, decide (0 < x.len)⟩ = s1 at *
  by_cases h0 : x.len = 0
  · rw [if_pos h0] at hz
    subst hz
    obtain ⟨r', e1, e2, e3⟩ := tree_ties ht 8 1 g hin' b3 hlen' hnum'
    refine ⟨r', ?_, e2, e3⟩
    unfold tokR
    have hb : (nextR t r 0).1 = false := by rw [b1, h0]; rfl
    rw [if_pos b2, hb]
    simp only [Bool.false_eq_true, if_false]
    rw [e1]
    simp only [Option.some.injEq, Prod.mk.injEq, and_true]
    have hx8 : x.lit.toNat < 256 := x.lit.toNat_lt
    refine Tok.eq ?_ h0.symm ?_
    · simp only []
      rw [show 1 * 2 ^ 8 + x.lit.toNat % 2 ^ 8 - 256 = x.lit.toNat by omega]
      simp
    · unfold okT at hok; rw [if_pos h0] at hok; exact (of_decide_eq_true hok).symm
  · rw [if_neg h0] at hz
    subst hz
    obtain ⟨l0, l1, l2, l3, l4⟩ := okT_len hok h0
    obtain ⟨r1, e1, e2, e3⟩ := tree_ties (ys := numB 272 (x.dist - 1).toNat 8 1 ++ ys) ht 4 1 g (by simpa using hin') b3 (by simpa using hlen') (by simpa using hnum')
    have happ : ∀ zs, putAll s1 (numB 256 (x.len - 3).toNat 4 1 ++ zs) = putAll (putAll s1 (numB 256 (x.len - 3).toNat 4 1)) zs := fun zs => by simp [putAll]
    rw [List.append_assoc, happ] at hlen' hnum'
    obtain ⟨r2, f1, f2, f3⟩ := tree_ties (ys := ys) ht 8 1 e3 (fun y h1 => by rw [putAll_c]; exact hin' y (by rw [List.append_assoc]; exact List.mem_append_right _ h1)) e2 hlen' hnum'
    rw [happ]
    refine ⟨r2, ?_, f2, f3⟩
    unfold tokR
    have hb : (nextR t r 0).1 = true := by rw [b1]; exact decide_eq_true (by omega)
    rw [if_pos b2, hb]
    simp only [if_true]
    rw [e1]
    simp only []
    rw [f1]
    simp only [Option.some.injEq, Prod.mk.injEq, and_true]
    refine Tok.eq l0.symm ?_ ?_
    · simp only []
      rw [show ((1 * 2 ^ 4 + (x.len - 3).toNat % 2 ^ 4 : Nat) : Int) - 16 + 3 = x.len by omega]
    · simp only []
      rw [show ((1 * 2 ^ 8 + (x.dist - 1).toNat % 2 ^ 8 : Nat) : Int) - 256 + 1 = x.dist by omega]

/-- Tokens behind 'acc' are read till 'n' is told. -/
theorem toks_ties {t : List Int} (ht : okB t) {n told : Int} (l acc : List Tok) (f : Nat) (hok : okL told l = true) (hn : told + sumT l = n) (hf : l.length ≤ f) {s : Enc} {r : Rdr} (h : InvE s) (hc : s.c.length = 528) (hr : Ties t s r)
    (hlen : (putAll s (bitsF l)).text.length + 4 ≤ t.length) (hnum : num (t.take ((putAll s (bitsF l)).text.length + 4)) = numE (putAll s (bitsF l))) :
    ∃ r', toksR t n f told r acc = some (acc ++ l, r') ∧ Ties t (putAll s (bitsF l)) r' := by
  induction l generalizing told acc f s r with
  | nil =>
    refine ⟨r, ?_, by simpa [bitsF, putAll] using hr⟩
    have : told = n := by simpa [sumT] using hn
    cases f with
    | zero => simp [toksR]
    | succ f => rw [toksR, if_neg (by omega)]; simp
  | cons x l ih =>
    obtain ⟨h1, h2, h3⟩ := okL_cons.1 hok
    have hs := okT_size h1
    have hsum := (okL_sum h3).1
    have hb : bitsF (x :: l) = tokB x ++ bitsF l := by simp [bitsF]
    have hn' : told + (sizeT x + sumT l) = n := hn
    rw [hb] at hlen hnum ⊢
    obtain ⟨r1, e1, e2, e3⟩ := tok_ties ht h1 h hc (bitsF_in l) hr hlen hnum
    have happ : ∀ zs, putAll s (tokB x ++ zs) = putAll (putAll s (tokB x)) zs := fun zs => by simp [putAll]
    rw [happ] at hlen hnum ⊢
    cases f with
    | zero => simp at hf
    | succ f =>
      obtain ⟨r2, f1, f2⟩ := ih (told := told + sizeT x) (acc ++ [x]) f h3 (by omega) (by simpa using hf) e3 (by rw [putAll_c]; exact hc) e2 hlen hnum
      refine ⟨r2, ?_, f2⟩
      rw [toksR, if_pos (by omega), e1]
      simp only []
      rw [f1, List.append_assoc]
      rfl

/-! ### packed texts -/
/-- An octet's number. -/
def octs (b : List UInt8) : List Int := b.map fun x => (x.toNat : Int)
theorem octs_ok (b : List UInt8) : okB (octs b) := fun x hx => by
  obtain ⟨y, _, rfl⟩ := List.mem_map.1 hx
  have := y.toNat_lt
  omega
/-- Four octets of a number, the lowest one first. -/
def le4 (n : Int) : List Int := [n % 256, n / 256 % 256, n / 65536 % 256, n / 16777216 % 256]
def packT (b : List UInt8) : List Int := le4 b.length ++ encT 528 (bitsF (toksB b))
/-- What Pack answers. -/
def packR (b : List UInt8) : List Int × Int := if b.length ≤ 65536 then (packT b, 0) else ([], 3)
/-- How long a text tells that it is. -/
def longN (t : List Int) : Int := t.getD 0 0 + 256 * t.getD 1 0 + 65536 * t.getD 2 0 + 16777216 * t.getD 3 0
def longR (t : List Int) : Int × Int := if t.length < 9 ∨ 65536 < longN t then (0, 2) else (longN t, 0)
/-- What Unpack answers. -/
def unpackR (t : List Int) (most : Int) : List UInt8 × Int :=
  if most < 0 then ([], 1)
  else if (longR t).2 ≠ 0 then ([], 2)
  else if most < longN t then ([], 3)
  else if startE 528 (t.drop 4) ≠ 0 then ([], 2)
  else match toksR (t.drop 4) (longN t) (longN t).toNat 0 (startR 528 (t.drop 4)) [] with
    | none => ([], 2)
    | some (l, r) => if okL 0 l && decide (sumT l ≤ longN t) && decide (r.used = (t.drop 4).length) then (textF [] l, 0) else ([], 2)

theorem toksB_bits {b : List UInt8} (hb : b.length ≤ 65536) : encE 528 (bitsF (toksB b)) = 0 := by
  have h1 := bitsF_len (toksB_text b).2
  rw [toksB_sum] at h1
  have hx : (bitsF (toksB b)).all (inB 528) = true := List.all_eq_true.2 (bitsF_in _)
  unfold encE
  rw [if_neg (by simp [newN]), if_neg (by omega), if_neg (by simpa using hx)]
theorem le4_long {n : Int} (h0 : 0 ≤ n) (h : n ≤ 65536) (more : List Int) : longN (le4 n ++ more) = n := by
  simp [longN, le4]; omega
theorem packT_drop (b : List UInt8) (more : List Int) : (packT b ++ more).drop 4 = encT 528 (bitsF (toksB b)) ++ more := by simp [packT, le4]
theorem packT_long {b : List UInt8} (hb : b.length ≤ 65536) (more : List Int) : longN (packT b ++ more) = b.length := by
  rw [packT, List.append_assoc]; exact le4_long (by omega) (by omega) _
theorem packT_len {b : List UInt8} (hb : b.length ≤ 65536) : (packT b).length = 4 + (encT 528 (bitsF (toksB b))).length ∧ 9 ≤ (packT b).length := by
  have := (short_len (toksB_bits hb)).1
  simp only [packT, List.length_append]
  have : (le4 (b.length : Int)).length = 4 := rfl
  omega
/-- P7.5: what was packed is unpacked, and all of it. -/
theorem unpack_pack {b : List UInt8} (hb : b.length ≤ 65536) {most : Int} (hm : (b.length : Int) ≤ most) (more : List Int) (hmo : okB more) :
    unpackR (packT b ++ more) most = if more = [] then (b, 0) else ([], 2) := by
  have he := toksB_bits hb
  have hl := packT_len hb
  obtain ⟨a1, a2⟩ := ties_start he more hmo
  obtain ⟨e1, e2, e3⟩ := encE_ok he
  obtain ⟨t1, t2⟩ := toksB_text b
  have ts := toksB_sum b
  have hel := encT_len he
  unfold unpackR
  rw [if_neg (by omega), packT_drop, packT_long hb]
  have hlr : longR (packT b ++ more) = ((b.length : Int), 0) := by
    unfold longR
    rw [packT_long hb, if_neg (by rw [List.length_append]; omega)]
  rw [hlr, if_neg (by simp), if_neg (by omega), if_neg (by simp [a1])]
  obtain ⟨r', f1, f2⟩ := toks_ties (okB_app (encT_okB he) hmo) (n := (b.length : Int)) (told := 0) (toksB b) [] ((b.length : Int)).toNat t2 (by omega) (by have := toksB_len b; omega) (start_ok (by omega)) (by rw [start_c]; rfl) a2
    (by rw [List.length_append]; omega)
    (by rw [← hel, List.take_append_of_le_length (Nat.le_refl _), List.take_length, encT_ok he]; exact endT_num _)
  rw [f1]
  simp only [List.nil_append]
  have hu : r'.used = (encT 528 (bitsF (toksB b))).length := by rw [f2.used, hel]
  rw [t2, decide_eq_true (by omega : sumT (toksB b) ≤ (b.length : Int)), hu]
  by_cases hmore : more = []
  · subst hmore; simp [t1]
  · rw [if_neg hmore, if_neg]
    have : 0 < more.length := by cases more; exact absurd rfl hmore; simp
    simp; exact hmore
end Go.Proofs.YthkccpemgmpadaaDoor.P

namespace Go.Proofs.YthkccpemgmpadaaDoor.P
set_option maxRecDepth 100000
open Go.RowKit

theorem octs_len (b : List UInt8) : (octs b).length = b.length := by simp [octs]
theorem octs_byc (b : List UInt8) : (octs b).flatMap byc = b.map M.u8v := by
  induction b with
  | nil => rfl
  | cons x r ih =>
    have e : (octs (x :: r)).flatMap byc = byc (x.toNat : Int) ++ (octs r).flatMap byc := by simp [octs]
    rw [e, ih]
    rfl
theorem octs_get (b : List UInt8) (i : Nat) (h : i < b.length) : (octs b)[i]'(by rw [octs_len]; exact h) = (b[i].toNat : Int) := by simp [octs]
theorem octs_inj {a b : List UInt8} (h : octs a = octs b) : a = b := by
  unfold octs at h
  exact List.map_inj_right (fun x y e => UInt8.toNat_inj.1 (by omega)) |>.1 h
/-- Bytes, read as numbers. -/
theorem os_of {lo hi : Nat} {w : World} {v : Value} {b : List UInt8} (h : M.Bs lo hi w v b) : Os lo hi w v (octs b) := by
  obtain ⟨A, c, rfl, h1, h2, h3⟩ := h
  refine ⟨A, c, by rw [octs_len], by rw [octs_len]; exact h1, h2, fun h0 => ?_⟩
  rw [octs_len] at h0
  obtain ⟨g, o, rfl, g1, g2, g3⟩ := h3 h0
  refine ⟨g, o, rfl, g1, g2, fun i hi j u hu => ?_⟩
  have hi' : i < b.length := by rw [octs_len] at hi; exact hi
  rw [octs_get b i hi'] at hu
  have hj : j = 0 := by
    have := (List.getElem?_eq_some_iff.1 hu).1
    simp [byc] at this; exact this
  subst hj
  simp [byc] at hu
  subst hu
  simpa [M.u8v, M.n8] using g3 i hi'
theorem bs_of {lo hi : Nat} {w : World} {v : Value} {b : List UInt8} (h : Os lo hi w v (octs b)) : M.Bs lo hi w v b := by
  obtain ⟨A, c, rfl, h1, h2, h3⟩ := h
  rw [octs_len] at h1
  refine ⟨A, c, by rw [octs_len], h1, h2, fun h0 => ?_⟩
  obtain ⟨g, o, rfl, g1, g2, g3⟩ := h3 (by rw [octs_len]; exact h0)
  refine ⟨g, o, rfl, g1, g2, fun i hi => ?_⟩
  have := g3 i (by rw [octs_len]; exact hi) 0 (M.u8v b[i]) (by rw [octs_get b i hi]; rfl)
  simpa using this
theorem own_octs {w : World} {base n : Nat} {v : Value} {b : List UInt8} (h : w.ownsRow base 5 1 v n (b.map M.u8v)) : w.ownsRow base 5 1 v n ((octs b).flatMap byc) := by rw [octs_byc]; exact h

/-! ### four octets of a number -/
def oct4 (n : Int) : Nat → Array Value
  | 0 => #[.int .u8 0, .int .u8 0, .int .u8 0, .int .u8 0]
  | 1 => #[.int .u8 (n % 256), .int .u8 0, .int .u8 0, .int .u8 0]
  | 2 => #[.int .u8 (n % 256), .int .u8 (n / 256 % 256), .int .u8 0, .int .u8 0]
  | 3 => #[.int .u8 (n % 256), .int .u8 (n / 256 % 256), .int .u8 (n / 65536 % 256), .int .u8 0]
  | _ => #[.int .u8 (n % 256), .int .u8 (n / 256 % 256), .int .u8 (n / 65536 % 256), .int .u8 (n / 16777216 % 256)]
theorem mk4 (W : World) : (Instr.makeSlice 31 (.int .i64 4) (.int .i64 4)).run Tryd.prog W = .ok (.slice (some ⟨W.heap.size, 0, none⟩) 4 4) (W.alloc (.cells (oct4 0 0) 5)) := by
  obtain ⟨i5, hi5, iz0, iz1, iz2⟩ := info5'
  have := run_mk (P := Tryd.prog) 31 5 i5 _ 1 Tryd.underlying31 hi5 iz0 iz1 4 (by rw [iz2]; omega) (by omega) W
  have hz : (madeCells (Value.int .u8 0).cells (4 * 1)).toList = List.replicate (4 * 1) (.int .u8 0) := toList_madeCells_one _ _
  have hz' : madeCells (Value.int .u8 0).cells (4 * 1) = oct4 0 0 := by rw [← Array.toArray_toList (xs := madeCells (Value.int .u8 0).cells (4 * 1)), hz]; rfl
  rw [hz'] at this
  exact this

theorem own_le4 {w : World} {base g : Nat} {n : Int} (h : Blk w g 5 (oct4 n 4)) (hb : base ≤ g) : w.ownsRow base 5 1 (.slice (some ⟨g, 0, none⟩) 4 4) 4 ((le4 n).flatMap byc) :=
  ⟨rfl, .inr ⟨g, 4, _, rfl, hb, h, Nat.le_refl _, by simp [maxLen], rfl, rfl⟩⟩

set_option maxHeartbeats 1000000 in
theorem octets_any (n : Int) (h0 : 0 ≤ n) (h : n < 4294967296) (w : World) :
    Calls Tryd.prog 37 #[.int .i64 n] w fun e w' => ∃ g, e = .returned (.slice (some ⟨g, 0, none⟩) 4 4) ∧ w'.ownsRow w.heap.size 5 1 (.slice (some ⟨g, 0, none⟩) 4 4) 4 ((le4 n).flatMap byc) ∧ Below w.heap.size w w' := by
  have hmk := mk4
  obtain ⟨g, hg⟩ : ∃ g, g = w.heap.size := ⟨_, rfl⟩
  go_enter Tryd.func37, Tryd.ntmps37
  go_wp2_with (first | fail)
  rw [← hg]
  clear hmk
  replace hg := hide hg
  go_loopw [6] (fun i wr => ∃ (k : Nat), k ≤ 4 ∧ i = .int .i64 k ∧ Hid (Below w.heap.size w wr) ∧ Hid (Blk wr g 5 (oct4 n k))) (fun i _ => 4 - (intOf i).toNat)
  case atStart => exact ⟨0, by omega, rfl, hide (by (repeat (first | with_reducible exact Below.refl _ _ | with_reducible assumption | with_reducible refine Below.drew ?_ | with_reducible refine bl_alloc ?_ _ | with_reducible refine bl_call ?_ (by assumption) | (focus (with_reducible refine Below.setCell ?_ ?_ _; rotate_left; focus (first | omega | (simp <;> omega)))) | fail))), hide (Blk.new (unhide hg))⟩
  case round =>
    obtain ⟨k, hk, rfl, hB, hK⟩ := hrel
    have kk := (unhide hK).lt
    rcases (show k = 0 ∨ k = 1 ∨ k = 2 ∨ k = 3 ∨ k = 4 by omega) with rfl | rfl | rfl | rfl | rfl
    · have q := (unhide hK).cell 0
      have f := (unhide hK).frozen 0
      simp [oct4] at q
      go_wp2_with fail
      go_roundw
      case rel => exact ⟨1, by omega, rfl, hide ((unhide hB).setCell (by rw [unhide hg]; exact Nat.le_refl _) _), hide ((unhide hK).set 0 _)⟩
      case measure => decide
    · have q := (unhide hK).cell 1
      have f := (unhide hK).frozen 1
      simp [oct4] at q
      go_wp2_with fail
      go_roundw
      case rel => exact ⟨2, by omega, rfl, hide ((unhide hB).setCell (by rw [unhide hg]; exact Nat.le_refl _) _), hide ((unhide hK).set 1 _)⟩
      case measure => decide
    · have q := (unhide hK).cell 2
      have f := (unhide hK).frozen 2
      simp [oct4] at q
      go_wp2_with fail
      go_roundw
      case rel => exact ⟨3, by omega, rfl, hide ((unhide hB).setCell (by rw [unhide hg]; exact Nat.le_refl _) _), hide ((unhide hK).set 2 _)⟩
      case measure => decide
    · have q := (unhide hK).cell 3
      have f := (unhide hK).frozen 3
      simp [oct4] at q
      go_wp2_with fail
      go_roundw
      case rel => exact ⟨4, by omega, rfl, hide ((unhide hB).setCell (by rw [unhide hg]; exact Nat.le_refl _) _), hide (by rw [show oct4 n (3 + 1) = (oct4 n 3).setIfInBounds 3 (.int .u8 (n / 16777216)) from by simp [oct4]; omega]; exact (unhide hK).set 3 _)⟩
      case measure => decide
    · go_wp2_with fail
      go_ret
      exact ⟨_, rfl, own_le4 (unhide hK) (by rw [unhide hg]; exact Nat.le_refl _), unhide hB⟩
end Go.Proofs.YthkccpemgmpadaaDoor.P

namespace Go.Proofs.YthkccpemgmpadaaDoor.P
set_option maxRecDepth 100000
open Go.RowKit

theorem i64_join (i : Nat) (hi : i ≤ 40) (x y : Int) (hx₀ : 0 ≤ x) (hx : x % 2 ^ i = 0) (hx₁ : x < 1099511627776) (hy₀ : 0 ≤ y) (hy : y < 2 ^ i) : bits .or .i64 x y = x + y := by
  have hp : (2 : Int) ^ i ≤ 2 ^ 40 := by
    have h := Nat.pow_le_pow_right (show 0 < 2 by omega) hi
    exact_mod_cast h
  refine bits_join .i64 40 (by decide) (fun n h0 h1 => ?_) i x y hx₀ hx hx₁ hy₀ hy (by omega)
  exact IntWalk.i64_in _ (by omega)
theorem i64_join' (i : Nat) (hi : i ≤ 40) (x y : Int) (hx₀ : 0 ≤ x) (hx : x % 2 ^ i = 0) (hx₁ : x < 1099511627776) (hy₀ : 0 ≤ y) (hy : y < 2 ^ i) : bits .or .i64 y x = y + x := by
  have hc : bits .or .i64 y x = bits .or .i64 x y := by simp only [bits, BitVec.or_comm]
  rw [hc, i64_join i hi x y hx₀ hx hx₁ hy₀ hy]; omega
theorem i64_and1 (n : Int) : bits .and .i64 n 1 = n % 2 := by
  have h1 : (BitVec.ofInt 64 1).toNat = 2 ^ 1 - 1 := by decide
  have key : (BitVec.ofInt 64 n &&& BitVec.ofInt 64 1).toNat = (n % ((2 ^ 64 : Nat) : Int)).toNat % 2 ^ 1 := by
    rw [BitVec.toNat_and, BitVec.toNat_ofInt, h1, Nat.and_two_pow_sub_one_eq_mod]
  show IntKind.i64.wrap ((BitVec.ofInt 64 n &&& BitVec.ofInt 64 1).toNat : Nat) = n % 2
  rw [key, IntKind.wrap_i64]
  omega

set_option maxHeartbeats 1000000 in
theorem pnumber_any (a b c d : Int) (ha : 0 ≤ a ∧ a < 256) (hb : 0 ≤ b ∧ b < 256) (hc : 0 ≤ c ∧ c < 256) (hd : 0 ≤ d ∧ d < 256) (w : World) :
    Calls Tryd.prog 62 #[.agg #[.int .u8 a, .int .u8 b, .int .u8 c, .int .u8 d]] w fun e w' => e = .returned (.int .i64 (a + 256 * b + 65536 * c + 16777216 * d)) ∧ Below w.heap.size w w' := by
  obtain ⟨g, hg⟩ : ∃ g, g = w.heap.size := ⟨_, rfl⟩
  go_enter Tryd.func62, Tryd.ntmps62
  go_wp2_with (first | fail)
  rw [← hg]
  replace hg := hide hg
  have o0 : bits .or .i64 0 a = a := by rw [i64_join 8 (by omega) 0 a (by omega) (by decide) (by omega) ha.1 ha.2]; omega
  have o1 : bits .or .i64 a (b * 256) = a + 256 * b := by rw [i64_join' 8 (by omega) (b * 256) a (by omega) (by omega) (by omega) ha.1 ha.2]; omega
  have o2 : bits .or .i64 (a + 256 * b) (c * 65536) = a + 256 * b + 65536 * c := by rw [i64_join' 16 (by omega) (c * 65536) (a + 256 * b) (by omega) (by omega) (by omega) (by omega) (by omega)]; omega
  have o3 : bits .or .i64 (a + 256 * b + 65536 * c) (d * 16777216) = a + 256 * b + 65536 * c + 16777216 * d := by rw [i64_join' 24 (by omega) (d * 16777216) (a + 256 * b + 65536 * c) (by omega) (by omega) (by omega) (by omega) (by omega)]; omega
  replace o0 := hide o0; replace o1 := hide o1; replace o2 := hide o2; replace o3 := hide o3
  go_loopw [3, 5] (fun n i wr => ((i = .int .i64 0 ∧ n = .int .i64 0) ∨ (i = .int .i64 1 ∧ n = .int .i64 a) ∨ (i = .int .i64 2 ∧ n = .int .i64 (a + 256 * b)) ∨ (i = .int .i64 3 ∧ n = .int .i64 (a + 256 * b + 65536 * c)) ∨ (i = .int .i64 4 ∧ n = .int .i64 (a + 256 * b + 65536 * c + 16777216 * d))) ∧ Hid (Below w.heap.size w wr) ∧ Hid (Blk wr g 54 #[.int .u8 a, .int .u8 b, .int .u8 c, .int .u8 d])) (fun _ i _ => 4 - (intOf i).toNat)
  case atStart => exact ⟨.inl ⟨rfl, rfl⟩, hide (by (repeat (first | with_reducible exact Below.refl _ _ | with_reducible assumption | with_reducible refine Below.drew ?_ | with_reducible refine bl_alloc ?_ _ | with_reducible refine bl_call ?_ (by assumption) | (focus (with_reducible refine Below.setCell ?_ ?_ _; rotate_left; focus (first | omega | (simp <;> omega)))) | fail))), hide (Blk.new (unhide hg))⟩
  case round =>
    obtain ⟨hk, hB, hK⟩ := hrel
    have kk := (unhide hK).lt
    have q0 := (unhide hK).cell 0
    have q1 := (unhide hK).cell 1
    have q2 := (unhide hK).cell 2
    have q3 := (unhide hK).cell 3
    simp at q0 q1 q2 q3
    rcases hk with ⟨rfl, rfl⟩ | ⟨rfl, rfl⟩ | ⟨rfl, rfl⟩ | ⟨rfl, rfl⟩ | ⟨rfl, rfl⟩
    · go_wp2_with fail
      go_roundw
      case rel => exact ⟨.inr (.inl ⟨rfl, by rw [unhide o0]⟩), hB, hK⟩
      case measure => decide
    · go_wp2_with fail
      go_roundw
      case rel => exact ⟨.inr (.inr (.inl ⟨rfl, by rw [unhide o1]⟩)), hB, hK⟩
      case measure => decide
    · go_wp2_with fail
      go_roundw
      case rel => exact ⟨.inr (.inr (.inr (.inl ⟨rfl, by rw [unhide o2]⟩))), hB, hK⟩
      case measure => decide
    · go_wp2_with fail
      go_roundw
      case rel => exact ⟨.inr (.inr (.inr (.inr ⟨rfl, by rw [unhide o3]⟩))), hB, hK⟩
      case measure => decide
    · go_wp2_with fail
      go_ret
      exact ⟨rfl, unhide hB⟩

theorem longN_get {t : List Int} (h : 4 ≤ t.length) : longN t = t[0] + (256 : Int) * t[1] + (65536 : Int) * t[2] + (16777216 : Int) * t[3] := by
  unfold longN
  rw [getD_get (k := 0) (by omega), getD_get (k := 1) (by omega), getD_get (k := 2) (by omega), getD_get (k := 3) (by omega)]

set_option maxHeartbeats 1000000 in
theorem Long_any (lo : Nat) (v : Value) (t : List Int) (w : World) (hv : Os lo w.heap.size w v t) (ht : okB t) :
    Calls Tryd.prog 44 #[v] w fun e w' => e = .returned (.tuple #[.int .i64 (longR t).1, .int .i64 (longR t).2]) ∧ Below w.heap.size w w' := by
  obtain ⟨A, c, rfl, x1, x2, x3⟩ := hv.open
  by_cases h9 : t.length < 9
  · have hr : longR t = (0, 2) := by unfold longR; rw [if_pos (.inl h9)]
    rw [hr]
    clear hv x3
    have h9' : (t.length : Int) < 9 := by omega
    go_enter Tryd.func44, Tryd.ntmps44
    go_wp2_with fail
    go_ret2
    exact ⟨rfl, Below.refl _ _⟩
  · obtain ⟨b, off, rfl, y1, y2, q0⟩ := x3 0 (by omega)
    have qq : ∀ i (hi : i < t.length), w.cell? ⟨b, off + i, none⟩ = some (.int .u8 t[i]) := fun i hi => by
      obtain ⟨b', off', e, _, _, hc⟩ := x3 i hi
      injection e with e; injection e with e1 e2; subst e1 e2
      exact hc
    have q1 := qq 1 (by omega); have q2 := qq 2 (by omega); have q3 := qq 3 (by omega)
    rw [Nat.add_zero] at q0
    have hN := fun W => pnumber_any t[0] t[1] t[2] t[3] (ht _ (List.getElem_mem _)) (ht _ (List.getElem_mem _)) (ht _ (List.getElem_mem _)) (ht _ (List.getElem_mem _)) W
    rw [← longN_get (by omega)] at hN
    have hL : 9 ≤ (t.length : Int) := by omega
    have ra : ∀ W, (Instr.arrayAt 54 (.slice (some ⟨b, off, none⟩) t.length c)).run Tryd.prog W = .ok (.pointer (some ⟨b, off, none⟩)) W := fun W => by
      have h4 : ¬ t.length < 4 := by omega
      simp [Instr.arrayAt, run_underlying Tryd.underlying54, h4]
    have hr : longR t = if 65536 < longN t then (0, 2) else (longN t, 0) := by unfold longR; simp [h9]
    rw [hr]
    have y3 : b < w.heap.size := by omega
    generalize longN t = N at *
    generalize t[0] = o0 at *; generalize t[1] = o1 at *; generalize t[2] = o2 at *; generalize t[3] = o3 at *
    clear x3 qq hv ht hr
    replace hN := hide hN
    by_cases hb : 65536 < N
    · rw [if_pos hb]
      go_enter Tryd.func44, Tryd.ntmps44
      go_wp2_with (first
        | (go_at_call 62; refine (unhide hN _).mono ?_; rintro e w1 ⟨rfl, hb1⟩)
        | fail)
      go_ret2
      exact ⟨rfl, by (repeat (first | with_reducible exact Below.refl _ _ | with_reducible assumption | with_reducible refine Below.drew ?_ | with_reducible refine bl_alloc ?_ _ | with_reducible refine bl_call ?_ (by assumption) | (focus (with_reducible refine Below.setCell ?_ ?_ _; rotate_left; focus (first | omega | (simp <;> omega)))) | fail))⟩
    · rw [if_neg hb]
      go_enter Tryd.func44, Tryd.ntmps44
      go_wp2_with (first
        | (go_at_call 62; refine (unhide hN _).mono ?_; rintro e w1 ⟨rfl, hb1⟩)
        | fail)
      go_ret2
      exact ⟨rfl, by (repeat (first | with_reducible exact Below.refl _ _ | with_reducible assumption | with_reducible refine Below.drew ?_ | with_reducible refine bl_alloc ?_ _ | with_reducible refine bl_call ?_ (by assumption) | (focus (with_reducible refine Below.setCell ?_ ?_ _; rotate_left; focus (first | omega | (simp <;> omega)))) | fail))⟩
end Go.Proofs.YthkccpemgmpadaaDoor.P

namespace Go.Proofs.YthkccpemgmpadaaDoor.P
set_option maxRecDepth 100000
open Go.RowKit

theorem bt_src {w : World} {g : Nat} {x : Bit} (h : Blk w g 104 #[.int .i64 x.at_, .bool x.b]) : SrcOk w (some ⟨g, 0, none⟩) 1 (btc x) :=
  SrcOk.blk (cur := [.int .i64 x.at_, .bool x.b]) h fun j u hu => by rw [Nat.zero_add]; exact hu
theorem bt_snoc (l : List Bit) (x : Bit) : l.flatMap btc ++ btc x = (l ++ [x]).flatMap btc := by simp
theorem numB_step (c : Int) (n k m : Nat) : numB c n (k + 1) m = ⟨c + m, n / 2 ^ k % 2 == 1⟩ :: numB c n k (2 * m + n / 2 ^ k % 2) := rfl
theorem bb_alloc {B : Nat} {a w : World} (h : Below B a w) (hB : B ≤ a.heap.size) (o : Obj) : Below B a (w.alloc o) := h.alloc (Nat.le_trans hB h.size) o
theorem bb_call {B : Nat} {a w w' : World} (h : Below B a w) (h' : Below w.heap.size w w') (hB : B ≤ a.heap.size) : Below B a w' := h.trans (h'.mono (Nat.le_trans hB h.size))

/-- Blocks of no other type than 'e' have turned. -/
def Kept (e : TypeId) (w w' : World) : Prop := ∀ g t cs, e ≠ t → Blk w g t cs → Blk w' g t cs
theorem Kept.refl (e : TypeId) (w : World) : Kept e w w := fun _ _ _ _ h => h
theorem Kept.trans {e : TypeId} {a b c : World} (h : Kept e a b) (k : Kept e b c) : Kept e a c := fun g t cs ht hb => k g t cs ht (h g t cs ht hb)
theorem Kept.alloc {e : TypeId} {a b : World} (h : Kept e a b) (o : Obj) : Kept e a (b.alloc o) := fun g t cs ht hb => (h g t cs ht hb).alloc o
theorem Kept.drew {e : TypeId} {a b : World} (h : Kept e a b) : Kept e a b.drew := fun g t cs ht hb => (h g t cs ht hb).drew
theorem Kept.below {e : TypeId} {a b c : World} (h : Kept e a b) (hb : Below b.heap.size b c) : Kept e a c := fun g t cs ht hB => (h g t cs ht hB).below hb (h g t cs ht hB).lt
theorem Kept.grown {e : TypeId} {a b c : World} {base size n : Nat} {v : Value} {xs : List Value} (h : Kept e a b) (ho : b.ownsRow base e size v n xs) (hg : b.grownBy c v.ownBlock) : Kept e a c := fun g t cs ht hB =>
  (h g t cs ht hB).grown hg (own_ne ho (h g t cs ht hB) ht)
theorem Kept.own {e t : TypeId} {a b : World} {base size n : Nat} {v : Value} {xs : List Value} (h : Kept e a b) (ho : a.ownsRow base t size v n xs) (hne : e ≠ t) : b.ownsRow base t size v n xs := by
  refine ⟨ho.1, ?_⟩
  rcases ho.2 with hn | ⟨g, cap, cur, h1, h2, h3, h4⟩
  · exact .inl hn
  · exact .inr ⟨g, cap, cur, h1, h2, h g t cur hne h3, h4⟩

set_option maxHeartbeats 1000000 in
theorem putNum_any (base n c0 k V : Nat) (A : Option Addr) (c : Int) (l : List Bit) (w : World) (h : w.ownsRow base 104 2 (.slice A n c0) n (l.flatMap btc)) (hb : base ≤ w.heap.size) (hk : k ≤ 8) (hc : 0 ≤ c ∧ c ≤ 528) (hn : n ≤ 1000000000) :
    Calls Tryd.prog 69 #[.slice A n c0, .int .i64 k, .int .i64 c, .int .i64 V] w fun e w' => ∃ A' c', e = .returned (.slice A' (n + k) c') ∧ w'.ownsRow base 104 2 (.slice A' (n + k) c') (n + k) ((l ++ numB c V k 1).flatMap btc) ∧ Below base w w' ∧ Kept 104 w w' := by
  obtain ⟨i0, hi0, iz0, iz1, iz2⟩ := info_parts info51
  replace hb := hide hb
  replace h := hide h
  go_enter Tryd.func69, Tryd.ntmps69
  go_wp2_with fail
  go_loopw [0, 9, 13] (fun s0 s9 i wr => ∃ (j m n' c' : Nat) (A' : Option Addr) (lj : List Bit), j ≤ k ∧ s0 = .slice A' n' c' ∧ s9 = .int .i64 m ∧ i = .int .i64 j ∧ Hid (m < 2 ^ (j + 1)) ∧ m < 1024 ∧ n' = n + j ∧ Hid (l ++ numB c V k 1 = lj ++ numB c V (k - j) m) ∧ Hid (wr.ownsRow base 104 2 (.slice A' n' c') n' (lj.flatMap btc)) ∧ Hid (Below base w wr) ∧ Hid (Kept 104 w wr)) (fun _ _ i _ => 8 - (intOf i).toNat)
  case atStart => exact ⟨0, 1, n, c0, A, l, by omega, rfl, rfl, rfl, hide (by decide), by omega, rfl, hide rfl, h, hide (Below.refl _ _), hide (Kept.refl _ _)⟩
  case round =>
    obtain ⟨j, m, n', c', A', lj, hj, rfl, rfl, rfl, hm, hm2, hn', hl, ho, hB, hE⟩ := hrel
    by_cases hlt : j < k
    · have hq2 : V / 2 ^ (k - 1 - j) % 2 < 2 := Nat.mod_lt _ (by omega)
      have hbit : bits .and .i64 ((V : Int) / 2 ^ (k - 1 - j)) 1 = ((V / 2 ^ (k - 1 - j) % 2 : Nat) : Int) := by rw [i64_and1]; simp
      have hnx := numB_step c V (k - (j + 1)) m
      rw [show k - (j + 1) + 1 = k - j by omega, show k - (j + 1) = k - 1 - j by omega] at hnx
      obtain ⟨q, hq⟩ : ∃ q, q = V / 2 ^ (k - 1 - j) % 2 := ⟨_, rfl⟩
      rw [← hq] at hbit hnx hq2
      obtain ⟨B, hBq⟩ : ∃ B, B = (q == 1) := ⟨_, rfl⟩
      have hb1 : ((q : Int) == 1) = B := by rw [hBq, Bool.eq_iff_iff]; simp; omega
      rw [← hBq] at hnx
      obtain ⟨m', hm'⟩ : ∃ m', m' = 2 * m + q := ⟨_, rfl⟩
      rw [← hm'] at hnx
      have hor : bits .or .i64 ((m : Int) * 2) q = (m' : Int) := by rw [i64_join 1 (by omega) _ _ (by omega) (by omega) (by omega) (by omega) (by omega)]; omega
      have hm3 : m' < 2 ^ (j + 1 + 1) := by rw [Nat.pow_succ]; have := unhide hm; omega
      have hm4 : m' < 1024 := by
        have : 2 ^ (j + 1 + 1) ≤ 2 ^ 9 := Nat.pow_le_pow_right (by omega) (by omega)
        omega
      have u1 : n' + 1 ≤ maxLen := by simp only [maxLen]; omega
      have u2 : (n' + 1) * 16 ≤ 140737488355328 := by omega
      have hto := btc_one ⟨c + m, B⟩
      have hfl := bt_snoc lj ⟨c + m, B⟩
      have hsz := (unhide hB).size
      have hl2 : l ++ numB c V k 1 = (lj ++ [⟨c + m, B⟩]) ++ numB c V (k - (j + 1)) m' := by rw [unhide hl, hnx, show k - (j + 1) = k - 1 - j by omega]; simp
      replace hl2 := hide hl2; replace hm3 := hide hm3; replace hto := hide hto; replace hfl := hide hfl; replace u1 := hide u1; replace u2 := hide u2; replace hsz := hide hsz; replace hm' := hide hm'; replace hn' := hide hn'
      clear hl hnx hBq hq
      go_wp2_with (first
        | (at_builtin
           refine wpList_app _ rfl (.tmp 23) (.tmp 30) 72 rfl base 104 i0 _ 2 16 Tryd.underlying72 hi0 iz0 iz1 iz2 rfl (Nat.succ_pos _) _ n' (lj.flatMap btc) rfl ((unhide ho).alloc _) (some ⟨wr.heap.size, 0, none⟩) 1 1 (btc ⟨c + m, B⟩) rfl rfl (bt_src (x := ⟨c + m, B⟩) (Blk.new rfl)) (unhide hto) (unhide u1) (unhide u2) (by have := unhide hsz; have := unhide hb; simp; omega) ?_
           intro v2 w2 hown2 hg2
           obtain ⟨A2, c2, rfl⟩ := ownsRow_form hown2
           rw [unhide hfl] at hown2)
        | fail)
      go_roundw
      case rel => exact ⟨j + 1, m', n' + 1, c2, A2, lj ++ [⟨c + m, B⟩], by omega, rfl, rfl, by go_num, hm3, hm4, by have := unhide hn'; omega, hl2, hide hown2, hide ((bb_alloc (unhide hB) (unhide hb) _).grown hg2 (by have := unhide hsz; have := unhide hb; simp; omega) (own_base (unhide ho))), hide (((unhide hE).alloc _).grown ((unhide ho).alloc _) hg2)⟩
      case measure => simp [intOf]; omega
    · obtain rfl : j = k := by omega
      have e : l ++ numB c V j 1 = lj := by rw [unhide hl, Nat.sub_self]; simp [numB]
      subst hn'
      clear hl hlt
      replace e := hide e
      go_wp2_with fail
      go_ret
      rw [unhide e]
      exact ⟨_, _, rfl, unhide ho, unhide hB, unhide hE⟩

/-- A token, by value. -/
abbrev tkV (t : Tok) : Value := .agg #[.int .u8 (M.n8 t.lit), .int .i64 t.len, .int .i64 t.dist]

set_option maxHeartbeats 2000000 in
theorem putTok_any (base n c0 : Nat) (A : Option Addr) (l : List Bit) (t : Tok) (w : World) (h : w.ownsRow base 104 2 (.slice A n c0) n (l.flatMap btc)) (hb : base ≤ w.heap.size) (hok : okT t = true) (hn : n ≤ 900000000) :
    Calls Tryd.prog 51 #[.slice A n c0, tkV t] w fun e w' => ∃ A' c', e = .returned (.slice A' (n + (tokB t).length) c') ∧ w'.ownsRow base 104 2 (.slice A' (n + (tokB t).length) c') (n + (tokB t).length) ((l ++ tokB t).flatMap btc) ∧ Below base w w' ∧ Kept 104 w w' := by
  obtain ⟨i0, hi0, iz0, iz1, iz2⟩ := info_parts info51
  have u1 : n + 1 ≤ maxLen := by simp only [maxLen]; omega
  have u2 : (n + 1) * 16 ≤ 140737488355328 := by omega
  by_cases h0 : t.len = 0
  · have hT : tokB t = ⟨0, false⟩ :: numB 0 t.lit.toNat 8 1 := by unfold tokB; rw [if_pos h0, h0]; rfl
    have hlen : (tokB t).length = 1 + 8 := by rw [hT]; simp [numB_len]
    rw [hlen, hT]
    have hP := fun (A : Option Addr) (c1 : Nat) (W : World) (k : W.ownsRow base 104 2 (.slice A (n + 1) c1) (n + 1) ((l ++ [(⟨0, false⟩ : Bit)]).flatMap btc)) (hs : base ≤ W.heap.size) => putNum_any base (n + 1) c1 8 t.lit.toNat A 0 (l ++ [(⟨0, false⟩ : Bit)]) W k hs (by omega) (by omega) (by omega)
    have hx8 : t.lit.toNat < 256 := t.lit.toNat_lt
    obtain ⟨x, tl, td⟩ := t
    simp only [] at h0 hP hx8
    subst h0
    have hto := btc_one ⟨0, false⟩
    have hfl := bt_snoc l ⟨0, false⟩
    rw [List.append_cons]
    change Calls Tryd.prog 51 #[.slice A n c0, .agg #[.int .u8 ((x.toNat : Nat) : Int), .int .i64 0, .int .i64 td]] w _
    replace hP := hide hP; replace h := hide h; replace hb := hide hb; replace u1 := hide u1; replace u2 := hide u2; replace hto := hide hto; replace hfl := hide hfl
    clear hlen hT hok
    generalize x.toNat = V at *
    go_enter Tryd.func51, Tryd.ntmps51
    go_wp2_with (first
      | (at_builtin; (
         refine wpList_app _ rfl (.tmp 8) (.tmp 10) 72 rfl base 104 i0 _ 2 16 Tryd.underlying72 hi0 iz0 iz1 iz2 rfl (Nat.succ_pos _) _ n (l.flatMap btc) rfl (((unhide h).alloc _).alloc _) (some ⟨w.heap.size + 1, 0, none⟩) 1 1 (btc ⟨0, false⟩) rfl rfl (bt_src (x := ⟨0, false⟩) (by (repeat (first | with_reducible assumption | (focus (with_reducible refine Blk.new ?_; focus (simp <;> fail))) | with_reducible refine Blk.set3 (a := .int .u8 0) (b := .int .i64 0) (c := .int .i64 0) ?_ | with_reducible refine Blk.alloc ?_ _ | with_reducible refine Blk.drew ?_ | (focus (with_reducible refine Blk.far ?_ ?_ _; rotate_left; focus (first | omega | (simp <;> omega)))) | (focus (with_reducible refine Blk.below ?_ hb1 ?_; rotate_left; focus (first | omega | (simp <;> omega)))) | (focus (with_reducible refine Blk.below ?_ hb2 ?_; rotate_left; focus (first | omega | (simp <;> omega)))) | (focus (with_reducible refine Blk.below ?_ hb3 ?_; rotate_left; focus (first | omega | (simp <;> omega)))) | (focus (with_reducible refine Blk.below ?_ hb4 ?_; rotate_left; focus (first | omega | (simp <;> omega)))) | (focus (with_reducible refine Blk.below ?_ hb5 ?_; rotate_left; focus (first | omega | (simp <;> omega)))) | (focus (with_reducible refine Blk.below ?_ hb6 ?_; rotate_left; focus (first | omega | (simp <;> omega)))) | (focus (with_reducible refine Blk.below ?_ hb7 ?_; rotate_left; focus (first | omega | (simp <;> omega)))) | (focus (with_reducible refine Blk.below ?_ hb8 ?_; rotate_left; focus (first | omega | (simp <;> omega)))) | (focus (with_reducible refine Blk.below ?_ hb9 ?_; rotate_left; focus (first | omega | (simp <;> omega)))) | (focus (with_reducible refine Blk.below ?_ hb10 ?_; rotate_left; focus (first | omega | (simp <;> omega)))) | (focus (with_reducible refine Blk.below ?_ hb11 ?_; rotate_left; focus (first | omega | (simp <;> omega)))) | (focus (with_reducible refine Blk.below ?_ hb12 ?_; rotate_left; focus (first | omega | (simp <;> omega)))) | fail)))) (unhide hto) (unhide u1) (unhide u2) (by have := unhide hb; simp; omega) ?_
         intro v2 w2 hown2 hg2
         obtain ⟨A2, c2, rfl⟩ := ownsRow_form hown2
         rw [unhide hfl] at hown2
         have K2 : Kept 104 w w2 := (((Kept.refl 104 w).alloc _).alloc _).grown (((unhide h).alloc _).alloc _) hg2
         have B2 : Below base w w2 := (bb_alloc (bb_alloc (Below.refl _ _) (unhide hb) _) (unhide hb) _).grown hg2 (by have := unhide hb; simp; omega) (own_base (unhide h))
         have k3 : Blk w2 w.heap.size 91 #[.int .u8 (V : Int), .int .i64 0, .int .i64 td] := ((Kept.refl 104 _).alloc _).grown (((unhide h).alloc _).alloc _) hg2 _ 91 _ (by decide) (Blk.new rfl)
         have q0 := k3.cell 0
         have y0 := k3.lt
         simp at q0
         replace K2 := hide K2; replace B2 := hide B2; replace k3 := hide k3; replace hown2 := hide hown2))
      | (go_at_call 69; refine (unhide hP _ _ _ (unhide hown2) (by have := (unhide B2).size; have := unhide hb; omega)).mono ?_; rintro e w3 ⟨A3, c3, rfl, o3, B3, K3⟩)
      | fail)
    go_ret
    exact ⟨_, _, rfl, o3, (unhide B2).trans B3, (unhide K2).trans K3⟩
  · obtain ⟨l0, l1, l2, l3, l4⟩ := okT_len hok h0
    have hd : decide (0 < t.len) = true := decide_eq_true (by omega)
    have hT : tokB t = ⟨0, true⟩ :: (numB 256 (t.len - 3).toNat 4 1 ++ numB 272 (t.dist - 1).toNat 8 1) := by unfold tokB; rw [if_neg h0, hd]
    have hlen : (tokB t).length = 1 + 4 + 8 := by rw [hT]; simp [numB_len]
    rw [hlen, hT]
    have hP := fun (A : Option Addr) (c1 : Nat) (W : World) (k : W.ownsRow base 104 2 (.slice A (n + 1) c1) (n + 1) ((l ++ [(⟨0, true⟩ : Bit)]).flatMap btc)) (hs : base ≤ W.heap.size) => putNum_any base (n + 1) c1 4 (t.len - 3).toNat A 256 (l ++ [(⟨0, true⟩ : Bit)]) W k hs (by omega) (by omega) (by omega)
    have hP2 := fun (A : Option Addr) (c1 : Nat) (W : World) (k : W.ownsRow base 104 2 (.slice A (n + 1 + 4) c1) (n + 1 + 4) ((l ++ [(⟨0, true⟩ : Bit)] ++ numB 256 (t.len - 3).toNat 4 1).flatMap btc)) (hs : base ≤ W.heap.size) => putNum_any base (n + 1 + 4) c1 8 (t.dist - 1).toNat A 272 (l ++ [(⟨0, true⟩ : Bit)] ++ numB 256 (t.len - 3).toNat 4 1) W k hs (by omega) (by omega) (by omega)
    have hL : (((t.len - 3).toNat : Nat) : Int) = t.len - 3 := by omega
    have hD : (((t.dist - 1).toNat : Nat) : Int) = t.dist - 1 := by omega
    obtain ⟨x, tl, td⟩ := t
    simp only [] at h0 hP hP2 l1 l2 l3 l4 hL hD
    have hto := btc_one ⟨0, true⟩
    have hfl := bt_snoc l ⟨0, true⟩
    have hF : l ++ ⟨0, true⟩ :: (numB 256 (tl - 3).toNat 4 1 ++ numB 272 (td - 1).toNat 8 1) = l ++ [⟨0, true⟩] ++ numB 256 (tl - 3).toNat 4 1 ++ numB 272 (td - 1).toNat 8 1 := by simp
    rw [hF]
    change Calls Tryd.prog 51 #[.slice A n c0, .agg #[.int .u8 ((x.toNat : Nat) : Int), .int .i64 tl, .int .i64 td]] w _
    rw [hL] at hP
    rw [hD] at hP2
    generalize numB 272 (td - 1).toNat 8 1 = Q at *
    generalize numB 256 (tl - 3).toNat 4 1 = N4 at *
    have hne : (tl == 0) = false := by simpa using h0
    replace hP := hide hP; replace hP2 := hide hP2; replace h := hide h; replace hb := hide hb; replace u1 := hide u1; replace u2 := hide u2; replace hto := hide hto; replace hfl := hide hfl
    clear hlen hT hok hF hL hD hd h0 l0
    generalize x.toNat = V at *
    go_enter Tryd.func51, Tryd.ntmps51
    go_wp2_with (first
      | (at_builtin; (
         refine wpList_app _ rfl (.tmp 17) (.tmp 19) 72 rfl base 104 i0 _ 2 16 Tryd.underlying72 hi0 iz0 iz1 iz2 rfl (Nat.succ_pos _) _ n (l.flatMap btc) rfl (((unhide h).alloc _).alloc _) (some ⟨w.heap.size + 1, 0, none⟩) 1 1 (btc ⟨0, true⟩) rfl rfl (bt_src (x := ⟨0, true⟩) (by (repeat (first | with_reducible assumption | (focus (with_reducible refine Blk.new ?_; focus (simp <;> fail))) | with_reducible refine Blk.set3 (a := .int .u8 0) (b := .int .i64 0) (c := .int .i64 0) ?_ | with_reducible refine Blk.alloc ?_ _ | with_reducible refine Blk.drew ?_ | (focus (with_reducible refine Blk.far ?_ ?_ _; rotate_left; focus (first | omega | (simp <;> omega)))) | (focus (with_reducible refine Blk.below ?_ hb1 ?_; rotate_left; focus (first | omega | (simp <;> omega)))) | (focus (with_reducible refine Blk.below ?_ hb2 ?_; rotate_left; focus (first | omega | (simp <;> omega)))) | (focus (with_reducible refine Blk.below ?_ hb3 ?_; rotate_left; focus (first | omega | (simp <;> omega)))) | (focus (with_reducible refine Blk.below ?_ hb4 ?_; rotate_left; focus (first | omega | (simp <;> omega)))) | (focus (with_reducible refine Blk.below ?_ hb5 ?_; rotate_left; focus (first | omega | (simp <;> omega)))) | (focus (with_reducible refine Blk.below ?_ hb6 ?_; rotate_left; focus (first | omega | (simp <;> omega)))) | (focus (with_reducible refine Blk.below ?_ hb7 ?_; rotate_left; focus (first | omega | (simp <;> omega)))) | (focus (with_reducible refine Blk.below ?_ hb8 ?_; rotate_left; focus (first | omega | (simp <;> omega)))) | (focus (with_reducible refine Blk.below ?_ hb9 ?_; rotate_left; focus (first | omega | (simp <;> omega)))) | (focus (with_reducible refine Blk.below ?_ hb10 ?_; rotate_left; focus (first | omega | (simp <;> omega)))) | (focus (with_reducible refine Blk.below ?_ hb11 ?_; rotate_left; focus (first | omega | (simp <;> omega)))) | (focus (with_reducible refine Blk.below ?_ hb12 ?_; rotate_left; focus (first | omega | (simp <;> omega)))) | fail)))) (unhide hto) (unhide u1) (unhide u2) (by have := unhide hb; simp; omega) ?_
         intro v2 w2 hown2 hg2
         obtain ⟨A2, c2, rfl⟩ := ownsRow_form hown2
         rw [unhide hfl] at hown2
         have K2 : Kept 104 w w2 := (((Kept.refl 104 w).alloc _).alloc _).grown (((unhide h).alloc _).alloc _) hg2
         have B2 : Below base w w2 := (bb_alloc (bb_alloc (Below.refl _ _) (unhide hb) _) (unhide hb) _).grown hg2 (by have := unhide hb; simp; omega) (own_base (unhide h))
         have k3 : Blk w2 w.heap.size 91 #[.int .u8 (V : Int), .int .i64 tl, .int .i64 td] := ((Kept.refl 104 _).alloc _).grown (((unhide h).alloc _).alloc _) hg2 _ 91 _ (by decide) (Blk.new rfl)
         have q1 := k3.cell 1
         have q2 := k3.cell 2
         have y0 := k3.lt
         simp at q1 q2
         replace K2 := hide K2; replace B2 := hide B2; replace k3 := hide k3; replace hown2 := hide hown2
         have tok1 : True := trivial))
      | (have _t := tok1; go_at_call 69; refine (unhide hP _ _ _ (unhide hown2) (by have := (unhide B2).size; have := unhide hb; omega)).mono ?_; rintro e w3 ⟨A3, c3, rfl, o3, B3, K3⟩
         clear tok1 _t q1 y0
         have k4 := K3 _ 91 _ (by decide) (unhide k3)
         have q3 := k4.cell 2
         have y1 := k4.lt
         simp at q3
         have B4 := (unhide B2).trans B3
         have K4 := (unhide K2).trans K3
         replace o3 := hide o3; replace B4 := hide B4; replace K4 := hide K4
         clear k4 K3 B3
         have tok2 : True := trivial)
      | (have _t := tok2; go_at_call 69; refine (unhide hP2 _ _ _ (unhide o3) (by have := (unhide B4).size; have := unhide hb; omega)).mono ?_; rintro e w5 ⟨A5, c5, rfl, o5, B5, K5⟩)
      | fail)
    go_ret
    exact ⟨_, _, rfl, o5, (unhide B4).trans B5, (unhide K4).trans K5⟩
end Go.Proofs.YthkccpemgmpadaaDoor.P

namespace Go.Proofs.YthkccpemgmpadaaDoor.P
set_option maxRecDepth 100000
open Go.RowKit

theorem bitsF_snoc {l : List Tok} {k : Nat} (h : k < l.length) : bitsF (l.take (k + 1)) = bitsF (l.take k) ++ tokB l[k] := by
  rw [List.take_succ_eq_append_getElem h, bitsF_append]; simp [bitsF]
theorem bitsF_take_len {l : List Tok} (h : okL 0 l = true) (hl : l.length ≤ 65536) (k : Nat) : (bitsF (l.take k)).length ≤ 900000 := by
  have ho := okL_take k h
  rw [bitsF_cnt ho]
  have h1 : ∀ m : List Tok, (m.map fun t => 9 + (if 0 < t.len then 4 else 0)).sum ≤ 13 * m.length := by
    intro m
    induction m with
    | nil => simp
    | cons t r ih => simp; split <;> omega
  have h2 := h1 (l.take k)
  have h3 : (l.take k).length ≤ l.length := by rw [List.length_take]; exact Nat.min_le_right _ _
  omega
/-- What Bits answers. -/
def bitsT (l : List Tok) : List Bit := if M.okB l then bitsF l else []
theorem badE_eq (b : Bool) : M.badE b = if b then 0 else 1 := rfl

set_option maxHeartbeats 1000000 in
theorem Bits_bad (lo : Nat) (v : Value) (l : List Tok) (w : World) (h : M.Tks lo w.heap.size w v l) (ho : M.okB l = false) :
    Calls Tryd.prog 35 #[v] w fun e w' => e = .returned (.tuple #[.slice none 0 0, .int .i64 1]) ∧ Below w.heap.size w w' := by
  have hC := M.Check_any lo v l w h
  rw [ho] at hC
  replace hC : Calls Tryd.prog 50 #[v] w fun e w' => e = .returned (.int .i64 1) ∧ Below w.heap.size w w' := hC
  replace hC := hide hC
  go_enter Tryd.func35, Tryd.ntmps35
  go_wp2_with (first
    | (go_at_call 50; refine (unhide hC).mono ?_; rintro e w1 ⟨rfl, hb1⟩)
    | fail)
  go_ret2
  exact ⟨rfl, hb1⟩

set_option maxHeartbeats 2000000 in
theorem Bits_good (lo : Nat) (v : Value) (l : List Tok) (w : World) (h : M.Tks lo w.heap.size w v l) (ho : M.okB l = true) :
    Calls Tryd.prog 35 #[v] w fun e w' => ∃ A c, e = .returned (.tuple #[.slice A (bitsF l).length c, .int .i64 0]) ∧ w'.ownsRow w.heap.size 104 2 (.slice A (bitsF l).length c) (bitsF l).length ((bitsF l).flatMap btc) ∧ Below w.heap.size w w' := by
  have hC := M.Check_any lo v l w h
  rw [ho] at hC
  replace hC : Calls Tryd.prog 50 #[v] w fun e w' => e = .returned (.int .i64 0) ∧ Below w.heap.size w w' := hC
  obtain ⟨hl, hok⟩ := M.okB_iff.1 ho
  obtain ⟨A, c, rfl, h1, h2, h3⟩ := h.open
  clear h ho
  replace hC := hide hC; replace h3 := hide h3; replace hok := hide hok; replace hl := hide hl
  go_enter Tryd.func35, Tryd.ntmps35
  go_wp2_with (first
    | (go_at_call 50; refine (unhide hC).mono ?_; rintro e w1 ⟨rfl, hb1⟩; replace hb1 := hide hb1)
    | fail)
  go_loopw [5, 15] (fun s5 i wr => ∃ (k n c' : Nat) (A' : Option Addr), k ≤ l.length ∧ s5 = .slice A' n c' ∧ i = .int .i64 k ∧ Hid (n = (bitsF (l.take k)).length) ∧ Hid (wr.ownsRow w.heap.size 104 2 (.slice A' n c') n ((bitsF (l.take k)).flatMap btc)) ∧ Hid (Below w.heap.size w wr)) (fun _ i _ => l.length - (intOf i).toNat)
  case atStart => exact ⟨0, 0, 0, none, by omega, rfl, rfl, hide (by simp [bitsF]), hide (World.ownsRow_nil _ _ _ _), hb1⟩
  case round =>
    obtain ⟨k, n, c', A', hk, rfl, rfl, hn, hw, hB⟩ := hrel
    by_cases hlt : k < l.length
    · obtain ⟨b, off, rfl, g1, g2, q0, q1, q2⟩ := unhide h3 k hlt
      have c0 := ((unhide hB).cell (p := ⟨b, off + k * 3, none⟩) g2).trans q0
      have c1 := ((unhide hB).cell (p := ⟨b, off + k * 3 + 1, none⟩) g2).trans q1
      have c2 := ((unhide hB).cell (p := ⟨b, off + k * 3 + 2, none⟩) g2).trans q2
      have hs := bitsF_snoc hlt
      obtain ⟨hot, _⟩ := okL_get hlt (unhide hok)
      have hnn := bitsF_take_len (unhide hok) (unhide hl) k
      rw [← unhide hn] at hnn
      have hP := fun W (a : W.ownsRow w.heap.size 104 2 (.slice A' n c') n ((bitsF (l.take k)).flatMap btc)) (hs : w.heap.size ≤ W.heap.size) => putTok_any w.heap.size n c' A' (bitsF (l.take k)) l[k] W a hs hot (by omega)
      rw [← hs] at hP
      have hn2 : n + (tokB l[k]).length = (bitsF (l.take (k + 1))).length := by rw [hs, List.length_append, unhide hn]
      have hsz := (unhide hB).size
      generalize l[k] = t at *
      obtain ⟨T2, hT2⟩ : ∃ T2, T2 = bitsF (l.take (k + 1)) := ⟨_, rfl⟩
      rw [← hT2] at hP hn2
      replace hT2 := hide hT2
      rw [hn2] at hP
      obtain ⟨n2, hn3⟩ : ∃ n2, n2 = T2.length := ⟨_, rfl⟩
      rw [← hn3] at hP
      replace hn3 := hide hn3
      unfold tkV at hP
      obtain ⟨x, tl, td⟩ := t
      simp only [] at hP c0 c1 c2
      replace hP := hide hP; replace hsz := hide hsz; replace hk := hide hk
      clear hs hn2 hn q0 q1 q2 hot g1 g2
      go_wp2_with (first
        | (go_at_call 51; refine (unhide hP _ ((unhide hw).alloc _) (by have := unhide hsz; simp; omega)).mono ?_; rintro e w3 ⟨A3, c3, rfl, o3, B3, _⟩)
        | fail)
      go_roundw
      case rel => exact ⟨k + 1, n2, c3, A3, by omega, rfl, by go_num, by rw [← unhide hT2]; exact hn3, by rw [← unhide hT2]; exact hide o3, hide ((bb_alloc (unhide hB) (Nat.le_refl _) _).trans B3)⟩
      case measure => simp [intOf]; omega
    · obtain rfl : k = l.length := by omega
      rw [List.take_length] at hw hn
      go_wp2_with fail
      go_ret2
      rw [← unhide hn]
      exact ⟨_, _, rfl, unhide hw, unhide hB⟩

theorem Bits_any (lo : Nat) (v : Value) (l : List Tok) (w : World) (h : M.Tks lo w.heap.size w v l) :
    Calls Tryd.prog 35 #[v] w fun e w' => ∃ A c, e = .returned (.tuple #[.slice A (bitsT l).length c, .int .i64 (M.badE (M.okB l))]) ∧ w'.ownsRow w.heap.size 104 2 (.slice A (bitsT l).length c) (bitsT l).length ((bitsT l).flatMap btc) ∧ Below w.heap.size w w' := by
  cases ho : M.okB l with
  | true =>
    have e : bitsT l = bitsF l := by unfold bitsT; rw [ho]; rfl
    rw [e]
    exact Bits_good lo v l w h ho
  | false =>
    have e : bitsT l = [] := by unfold bitsT; rw [ho]; rfl
    rw [e]
    exact (Bits_bad lo v l w h ho).mono fun e w' ⟨he, hb⟩ => ⟨none, 0, he, World.ownsRow_nil _ _ _ _, hb⟩
end Go.Proofs.YthkccpemgmpadaaDoor.P

namespace Go.Proofs.YthkccpemgmpadaaDoor.P
set_option maxRecDepth 100000
open Go.RowKit

set_option maxHeartbeats 1000000 in
theorem grow_any (n : Nat) (w : World) (h0 : 0 < n) (hn : n ≤ 1000000) :
    Calls Tryd.prog 27 #[.slice none 0 0, .int .i64 n] w fun e w' => ∃ A c, e = .returned (.slice A 0 c) ∧ w'.ownsRow w.heap.size 5 1 (.slice A 0 c) 0 [] ∧ Below w.heap.size w w' := by
  obtain ⟨i0, hi0, hz0, hz1, hz2⟩ := info5'
  have hrun := fun W => Lib.run_append_nil_zeros (P := Tryd.prog) W 31 3 31 5 i0 _ .i64 .i64 Tryd.underlying31 Tryd.underlying3 hi0 hz0 n h0 (by rw [hz1]; omega) (by omega) (by rw [hz2]; omega)
  have hge := grownCap_ge w n 0 5
  have hle := grownCap_le_maxLen w n 0 5 (by simp [maxLen]; omega)
  have y0 : (0 : Int) < (n : Int) := by omega
  have y1 : (0 : Int) ≤ (n : Int) := by omega
  replace hrun := hide hrun
  go_enter Tryd.func27, Tryd.ntmps27
  go_wp2_with (first
    | (at_builtin
       refine Lib.wpList_append_run _ rfl (.tmp 20) (.tmp 21) 31 3 rfl _ _ rfl rfl _ _ (unhide hrun _) ?_)
    | fail)
  go_ret
  refine ⟨_, _, rfl, own_drew (own_fresh _ _ _ 5 1 _ _ rfl (Nat.le_refl _) hle ?_), by (repeat (first | with_reducible exact Below.refl _ _ | with_reducible assumption | with_reducible refine Below.drew ?_ | with_reducible refine bl_alloc ?_ _ | with_reducible refine bl_call ?_ (by assumption) | (focus (with_reducible refine Below.setCell ?_ ?_ _; rotate_left; focus (first | omega | (simp <;> omega)))) | fail))⟩
  simp [Builtin.zeroCells]
  omega

/-- The cells of a slice of texts. -/
def Lists (lo : Nat) (w : World) (g : Nat) (Ls : List (List Int)) : Prop :=
  ∀ k (hk : k < Ls.length), ∃ A c, w.cell? ⟨g, k, none⟩ = some (.slice A Ls[k].length c) ∧ Os lo w.heap.size w (.slice A Ls[k].length c) Ls[k]

theorem take_flat {Ls : List (List Int)} {k : Nat} (hk : k < Ls.length) : (Ls.take (k + 1)).flatten = (Ls.take k).flatten ++ Ls[k] := by
  have h : Ls.take (k + 1) = Ls.take k ++ [Ls[k]] := by
    rw [List.take_add_one, List.getElem?_eq_getElem hk]; rfl
  rw [h, List.flatten_append, List.flatten_singleton]
/-- How many there are in the first lists. -/
def upto (Ls : List (List Int)) (k : Nat) : Nat := (Ls.take k).flatten.length
theorem upto_succ {Ls : List (List Int)} {k : Nat} (hk : k < Ls.length) : upto Ls (k + 1) = upto Ls k + Ls[k].length := by
  unfold upto; rw [take_flat hk, List.length_append]
/-- All of the first lists. -/
def cat (Ls : List (List Int)) (k : Nat) : List Int := (Ls.take k).flatten
theorem cat_succ {Ls : List (List Int)} {k : Nat} (hk : k < Ls.length) : cat Ls (k + 1) = cat Ls k ++ Ls[k] := take_flat hk
theorem upto_cat (Ls : List (List Int)) (k : Nat) : (cat Ls k).length = upto Ls k := rfl
theorem flat_le (Ls : List (List Int)) (k : Nat) : upto Ls k ≤ upto Ls Ls.length := by
  unfold upto
  rw [List.take_length]
  have h : Ls.flatten = (Ls.take k).flatten ++ (Ls.drop k).flatten := by rw [← List.flatten_append, List.take_append_drop]
  rw [h]; simp

set_option maxHeartbeats 2000000 in
theorem concat_any (lo g : Nat) (Ls : List (List Int)) (w : World) (h : Lists lo w g Ls) (hg : g < w.heap.size) (hn : Ls.length ≤ 1000) (h0 : 0 < upto Ls Ls.length) (hL : upto Ls Ls.length ≤ 1000000) :
    Calls Tryd.prog 17 #[.slice (some ⟨g, 0, none⟩) Ls.length Ls.length] w fun e w' => ∃ A c, e = .returned (.slice A (upto Ls Ls.length) c) ∧ w'.ownsRow w.heap.size 5 1 (.slice A (upto Ls Ls.length) c) (upto Ls Ls.length) ((cat Ls Ls.length).flatMap byc) ∧ Below w.heap.size w w' := by
  obtain ⟨i0, hi0, hz0, hz1, hz2⟩ := info5'
  obtain ⟨n, hn'⟩ : ∃ n, n = Ls.length := ⟨_, rfl⟩
  have hfl := flat_le Ls
  have hgrow := fun W => grow_any (upto Ls Ls.length) W h0 hL
  rw [← hn'] at hfl hgrow hL h0 ⊢
  replace h := hide h; replace hn' := hide hn'; replace hfl := hide hfl; replace hgrow := hide hgrow
  have hn2 : n ≤ 1000 := by rw [unhide hn']; exact hn
  clear hn
  go_enter Tryd.func17, Tryd.ntmps17
  go_wp2_with fail
  go_loopw [3, 11] (fun s3 s11 wr => ∃ k : Nat, k ≤ n ∧ s11 = .int .i64 k ∧ s3 = .int .i64 (upto Ls k : Nat) ∧ w = wr) (fun _ i _ => n - (intOf i).toNat)
  case atStart => exact ⟨0, by omega, rfl, rfl, rfl⟩
  case round =>
    obtain ⟨k, hk, rfl, rfl, rfl⟩ := hrel
    by_cases hlt : k < n
    · have hlt' : k < Ls.length := by rw [← unhide hn']; exact hlt
      obtain ⟨A, c, hc, _⟩ := unhide h k hlt'
      have ha : upto Ls (k + 1) = upto Ls k + Ls[k].length := upto_succ hlt'
      have hb := unhide hfl (k + 1)
      rw [ha] at hb
      generalize ha1 : upto Ls k = a at *
      generalize Ls[k].length = b at *
      replace ha := hide ha
      have w1 : (0 : Int) ≤ (a : Int) + (b : Int) := by omega
      have w2 : (a : Int) + (b : Int) ≤ 1000000 := by omega
      go_wp2_with fail
      go_roundw
      case rel => exact ⟨k + 1, by omega, by go_num, by rw [unhide ha]; go_num, by simp⟩
      case measure => simp [intOf]; omega
    · obtain rfl : k = n := by omega
      have hgz : Hid (g < w.heap.size) := hg
      go_wp2_with (go_at_call 27; refine (unhide hgrow _).mono ?_; rintro e w1 ⟨A1, c1, rfl, hown, hb1⟩)
      replace hown := hide hown; replace hb1 := hide hb1
      go_loopw [6, 27] (fun s6 s27 wx => ∃ (j : Nat) (A2 : Option Addr) (c2 : Nat), j ≤ k ∧ s27 = .int .i64 j ∧ s6 = .slice A2 (upto Ls j) c2 ∧ Hid (wx.ownsRow w.heap.size 5 1 (.slice A2 (upto Ls j) c2) (upto Ls j) ((cat Ls j).flatMap byc)) ∧ Hid (Below w.heap.size w wx)) (fun _ i _ => k - (intOf i).toNat)
      case atStart => exact ⟨0, A1, c1, by omega, rfl, rfl, hide (unhide hown), hb1⟩
      case round =>
        obtain ⟨j, A2, c2, hj, rfl, rfl, o2, b2⟩ := hrel
        by_cases hlt2 : j < k
        · have hlt' : j < Ls.length := by rw [← unhide hn']; exact hlt2
          obtain ⟨A, c, hc, hx⟩ := unhide h j hlt'
          have ha : cat Ls (j + 1) = cat Ls j ++ Ls[j] := cat_succ hlt'
          have ha' : upto Ls (j + 1) = upto Ls j + Ls[j].length := upto_succ hlt'
          have hb := unhide hfl (j + 1)
          rw [ha'] at hb
          have hsrc := SrcOk.below (Rd.src byc_len hx).2 (unhide b2)
          have hc' := ((unhide b2).cell (p := ⟨g, j, none⟩) hg).trans hc
          have hgx : g < wr.heap.size := Nat.lt_of_lt_of_le hg (unhide b2).size
          have hnl : (Ls[j].flatMap byc).length = Ls[j].length * 1 := flat_len byc_len _
          have hno := flat_one byc_one Ls[j]
          have hsz := (unhide b2).size
          generalize Ls[j] = N at *
          generalize upto Ls j = m at *
          have u1 : m + N.length ≤ maxLen := by simp only [maxLen]; omega
          have u2 : (m + N.length) * 1 ≤ 140737488355328 := by omega
          replace ha := hide ha; replace hsrc := hide hsrc; replace hnl := hide hnl; replace hno := hide hno; replace u1 := hide u1; replace u2 := hide u2; replace hb := hide hb
          replace ha' := hide ha'
          clear hc hx
          go_wp2_with (first
            | (at_builtin
               refine wpList_app _ rfl (.tmp 31) (.tmp 32) 31 rfl w.heap.size 5 i0 _ 1 1 Tryd.underlying31 hi0 hz0 hz1 hz2 rfl (Nat.succ_pos _) _ m ((cat Ls j).flatMap byc) rfl (unhide o2) A N.length c (N.flatMap byc) rfl (unhide hnl) (unhide hsrc) (unhide hno) (unhide u1) (unhide u2) hsz ?_
               intro v' w2 hown2 hg2
               obtain ⟨A3, c3, rfl⟩ := ownsRow_form hown2))
          have hal : (cat Ls j).flatMap byc ++ N.flatMap byc = (cat Ls (j + 1)).flatMap byc := by rw [unhide ha, List.flatMap_append]
          rw [hal, ← unhide ha'] at hown2
          go_roundw
          case rel => exact ⟨j + 1, A3, c3, by omega, by go_num, by rw [unhide ha'], hide hown2, hide (bl_grown (unhide b2) hg2 (own_base (unhide o2)))⟩
          case measure => simp [intOf]; omega
        · obtain rfl : j = k := by omega
          go_wp2_with fail
          go_ret
          exact ⟨A2, c2, rfl, unhide o2, unhide b2⟩
end Go.Proofs.YthkccpemgmpadaaDoor.P

namespace Go.Proofs.YthkccpemgmpadaaDoor.P.M
set_option maxRecDepth 100000
open Go.RowKit

theorem okT_len0 {t : Tok} (h : okT t = true) : 0 ≤ t.len := by
  by_cases h0 : t.len = 0
  · omega
  · have := okT_len h h0; omega

end Go.Proofs.YthkccpemgmpadaaDoor.P.M

namespace Go.Proofs.YthkccpemgmpadaaDoor.P.M
set_option maxRecDepth 100000
open Go.RowKit

end Go.Proofs.YthkccpemgmpadaaDoor.P.M

namespace Go.Proofs.YthkccpemgmpadaaDoor.P.M
set_option maxRecDepth 100000
open Go.RowKit

/-- Tokens as the source of an append. -/
theorem Tks.src {lo hi : Nat} {w : World} {A : Option Addr} {n c : Nat} {l : List Tok} (h : Tks lo hi w (.slice A n c) l) : n = l.length ∧ SrcOk w A n (l.flatMap tkv) := by
  obtain ⟨A', c', e, _, _, h3⟩ := h.open
  injection e with e1 e2 e3
  subst e1 e2 e3
  refine ⟨rfl, fun h0 => ?_⟩
  obtain ⟨b, off, rfl, _, _, _⟩ := h3 0 h0
  refine ⟨_, rfl, fun j u hu => ?_⟩
  have hj : j < l.length * 3 := by
    have := (List.getElem?_eq_some_iff.1 hu).1
    rwa [flat_len] at this
  obtain ⟨b', off', e, _, _, c0, c1, c2⟩ := h3 (j / 3) (by omega)
  injection e with e
  injection e with e1 e2
  subst e1 e2
  obtain ⟨d0, d1, d2⟩ := flat_get l (j / 3) (by omega)
  have key : w.cell? ⟨b, off + j, none⟩ = some u := by
    have h3 : j % 3 = 0 ∨ j % 3 = 1 ∨ j % 3 = 2 := by omega
    rcases h3 with h2 | h2 | h2
    · have e : j = j / 3 * 3 := by omega
      rw [← e] at c0 d0
      rw [d0] at hu
      rw [c0, ← hu]
    · have e : j = j / 3 * 3 + 1 := by omega
      rw [Nat.add_assoc, ← e] at c1
      rw [← e] at d1
      rw [d1] at hu
      rw [c1, ← hu]
    · have e : j = j / 3 * 3 + 2 := by omega
      rw [Nat.add_assoc, ← e] at c2
      rw [← e] at d2
      rw [d2] at hu
      rw [c2, ← hu]
  unfold Addr.add
  split
  · rename_i h0; subst h0; exact key
  · exact key

end Go.Proofs.YthkccpemgmpadaaDoor.P.M

namespace Go.Proofs.YthkccpemgmpadaaDoor.P.M
set_option maxRecDepth 100000
open Go.RowKit

theorem elem29 : Tryd.prog.underlying 69 = some (.slice (Tryd.prog.elem 69)) := by kernel_rfl
theorem size25 : ∀ W, (sizeOf (Tryd.prog.elem 69)).run Tryd.prog W = .ok 3 W := fun W => by kernel_rfl
theorem elem22 : Tryd.prog.underlying 31 = some (.slice (Tryd.prog.elem 31)) := by kernel_rfl
theorem size5 : ∀ W, (sizeOf (Tryd.prog.elem 31)).run Tryd.prog W = .ok 1 W := fun W => by kernel_rfl
theorem sliced0 (A : Option Addr) (j c s : Nat) : sliced A 0 j c s = .slice A j c := by
  unfold sliced
  rw [Nat.sub_zero, Nat.sub_zero, Nat.zero_mul]
  have : A.map (·.add 0) = A := by cases A <;> rfl
  rw [this, ite_self]
theorem slice_t (A : Option Addr) (n c : Nat) (J : Int) (j : Nat) (hJ : J = (j : Int)) (hj : j ≤ c) (W : World) :
    (Instr.slice 69 (.slice A n c) none (some (.int .i64 J)) none).run Tryd.prog W = .ok (.slice A j c) W := by
  subst hJ
  rw [run_slice_h (P := Tryd.prog) W 69 A n c elem29 .i64 j (by omega) (by omega), size25, Int.toNat_natCast]
  simp only [Result.andThen]
  rw [sliced0]
theorem slice_b (A : Option Addr) (n c : Nat) (J : Int) (j : Nat) (hJ : J = (j : Int)) (hj : j ≤ c) (W : World) :
    (Instr.slice 31 (.slice A n c) none (some (.int .i64 J)) none).run Tryd.prog W = .ok (.slice A j c) W := by
  subst hJ
  rw [run_slice_h (P := Tryd.prog) W 31 A n c elem22 .i64 j (by omega) (by omega), size5, Int.toNat_natCast]
  simp only [Result.andThen]
  rw [sliced0]
theorem Tks.pre {lo hi : Nat} {w : World} {A : Option Addr} {n c : Nat} {l : List Tok} (h : Tks lo hi w (.slice A n c) l) (j : Nat) (hj : j ≤ l.length) : Tks lo hi w (.slice A j c) (l.take j) := by
  obtain ⟨A', c', e, h1, h2, h3⟩ := h.open
  injection e with e1 e2 e3
  subst e1 e2 e3
  have hlen : (l.take j).length = j := by rw [List.length_take]; omega
  rcases Nat.eq_zero_or_pos j with h0 | h0
  · subst h0
    exact ⟨A, c, rfl, by simp, h2, fun h => absurd h (by simp), fun _ _ _ k hk => absurd hk (by simp)⟩
  · obtain ⟨b, off, rfl, q1, q2, _⟩ := h3 0 (by omega)
    have := Tks.make (lo := lo) (hi := hi) (w := w) (l := l.take j) (b := b) (off := off) (c := c) (by omega) h2 q1 q2 fun k hk => by
      rw [hlen] at hk
      obtain ⟨b', off', e, _, _, c0, c1, c2⟩ := h3 k (by omega)
      injection e with e
      injection e with e1 e2
      subst e1 e2
      rw [List.getElem_take]
      exact ⟨c0, c1, c2⟩
    rwa [hlen] at this
theorem Bs.pre {lo hi : Nat} {w : World} {A : Option Addr} {n c : Nat} {l : List UInt8} (h : Bs lo hi w (.slice A n c) l) (j : Nat) (hj : j ≤ l.length) : Bs lo hi w (.slice A j c) (l.take j) := by
  obtain ⟨A', c', e, h1, h2, h3⟩ := h
  injection e with e1 e2 e3
  subst e1 e2 e3
  have hlen : (l.take j).length = j := by rw [List.length_take]; omega
  refine ⟨A, c, by rw [hlen], by omega, h2, fun h0 => ?_⟩
  obtain ⟨b, off, rfl, q1, q2, hc⟩ := h3 (by omega)
  refine ⟨b, off, rfl, q1, q2, fun i hi => ?_⟩
  rw [List.getElem_take]
  exact hc i (by omega)

/-- What a list's beginnings tell. -/
theorem parts_pre {l : List Tok} {k : Nat} (hk : k < l.length) : ∃ p q, tellT (textF [] (l.take k)) l[k] = textF [] (l.take k) ++ p ∧ textF [] l = tellT (textF [] (l.take k)) l[k] ++ q := by
  obtain ⟨p, hp⟩ := tellT_pre (textF [] (l.take k)) l[k]
  obtain ⟨q, hq⟩ := textF_pre (tellT (textF [] (l.take k)) l[k]) (l.drop (k + 1))
  refine ⟨p, q, hp, ?_⟩
  rw [← hq]
  conv => lhs; rw [← List.take_append_drop (k + 1) l]
  rw [textF_append, textF_snoc hk]
/-- The place, out of any number. -/
theorem rem_pos (cut : Int) (n : Nat) (hn : 0 < n) : -(n : Int) < cut.tmod n ∧ cut.tmod n < n := by
  have h1 := Int.tmod_lt_of_pos cut (b := (n : Int)) (by omega)
  have h2 := Int.lt_tmod_of_pos cut (b := (n : Int)) (by omega)
  omega
end Go.Proofs.YthkccpemgmpadaaDoor.P.M

namespace Go.Proofs.YthkccpemgmpadaaDoor.P.M
set_option maxRecDepth 100000
open Go.RowKit

theorem take_get {l : List UInt8} {n i : Nat} (h : i < n) : (l.take n).getD i 0 = l.getD i 0 := by
  rw [List.getD_eq_getElem?_getD, List.getD_eq_getElem?_getD, List.getElem?_take, if_pos h]
/-- What is told again is there just if so many are alike. -/
theorem told_iff {l : List UInt8} {a d n : Nat} (hd : 1 ≤ d) (hda : d ≤ a) (hn : a + n ≤ l.length) (h18 : n ≤ 18) : tellN (l.take a) d n = l.take (a + n) ↔ n ≤ alkF l (a - d) a 18 := by
  have hla : (l.take a).length = a := by rw [List.length_take]; omega
  constructor
  · intro h
    refine alkF_ge l (a - d) a 18 n h18 hn fun i hi => ?_
    have := tellN_get (b := l.take a) (d := d) (k := n) (i := a + i) (by omega) (by omega) hd (by omega)
    rw [h, take_get (by omega), take_get (by omega)] at this
    rw [this, show a + i - d = a - d + i by omega]
  · intro h
    exact tellN_again hd hda n hn fun i hi => alkF_same l (a - d) a 18 i (by omega)
/-- An append as one step of a region that draws its order. -/
theorem step_app {P : Program} {ops : Array Oper} {o : Oper} {a : Act} {w : World} {K : Act → World → Prop} {Q : Exit → Act → World → Prop} {E : Prop} (hgd : o.guard = none) (s x : Operand) (t : TypeId)
    (ho : o.op = .call { callee := .builtin .append, args := #[s, x], argTypes := #[t, t] })
    (base : Nat) (e : TypeId) (i : TypeInfo) (z : Value) (size bytes : Nat) (ht : P.underlying t = some (.slice e)) (hi : P.info? e = some i) (hz : i.zero = some z)
    (hsize : i.size = size) (hby : i.bytes = bytes) (hzs : z.cells.size = size) (hsz : 0 < size)
    (v : Value) (n : Nat) (xs : List Value) (hs : a.eval s = v) (hown : w.ownsRow base e size v n xs)
    (A : Option Addr) (m c : Nat) (news : List Value) (hx : a.eval x = .slice A m c) (hl : news.length = m * size) (hr : SrcOk w A m news) (h1 : ∀ u ∈ news, u.oneCell' = true)
    (h63 : n + m ≤ maxLen) (hbytes : (n + m) * bytes ≤ 140737488355328) (hbase : base ≤ w.heap.size)
    (h : ∀ v' w', w'.ownsRow base e size v' (n + m) (xs ++ news) → w.grownBy w' v.ownBlock → K (a.put o.dst v') w') :
    if Region.wanted o (yielded ops a.tmps) = true then Oper.wp P o a w K Q else E := by
  have hw : Region.wanted o (yielded ops a.tmps) = true := by simp [Region.wanted, hgd]
  rw [if_pos hw]
  exact wp_app w s x t ho base e i z size bytes ht hi hz hsize hby hzs hsz v n xs hs hown A m c news hx hl hr h1 h63 hbytes hbase h

/-- The way of the two loops. -/
structure Best (l : List UInt8) (a : Nat) (M T : Int) : Prop where
  m0 : 2 ≤ M
  m1 : M ≤ 18
  t0 : 0 ≤ T
  none : T = 0 → M = 2
  some : T ≠ 0 → 3 ≤ M ∧ T ≤ a ∧ T ≤ 256 ∧ a + M ≤ l.length
  most : ∀ d : Nat, 1 ≤ d → d ≤ a → d ≤ 256 → (alkF l (a - d) a 18 : Int) ≤ M ∧ (T ≠ 0 → (d : Int) < T → (alkF l (a - d) a 18 : Int) < M)
  at_ : T ≠ 0 → (alkF l (a - T.toNat) a 18 : Int) = M
theorem best_is (l : List UInt8) (a : Nat) (ha : a ≤ l.length) : Best l a (bestF l a (min a 256)).1 (bestF l a (min a 256)).2 := by
  obtain ⟨h2, h18, hle, hz, h5⟩ := bestF_two l a (min a 256)
  refine ⟨by omega, by omega, by omega, fun h => by have := hz (by omega); omega, fun h => ?_, fun d h1 h2 h3 => ?_, fun h => ?_⟩
  · obtain ⟨g1, g2⟩ := h5 (by omega)
    have := alkF_end l (a - (bestF l a (min a 256)).2) a 18 ha
    omega
  · obtain ⟨g1, g2⟩ := bestF_most l a (min a 256) d h1 (by omega)
    refine ⟨by omega, fun ht hlt => ?_⟩
    obtain ⟨g3, _⟩ := h5 (by omega)
    have : ¬ alkF l (a - d) a 18 = (bestF l a (min a 256)).1 := fun e => by
      have := g2 (by omega) e; omega
    omega
  · rw [Int.toNat_natCast, (h5 (by omega)).2]
end Go.Proofs.YthkccpemgmpadaaDoor.P.M

namespace Go.Proofs.YthkccpemgmpadaaDoor.P.M
set_option maxRecDepth 100000
open Go.RowKit

theorem strU_eq (a b : List UInt8) : ((strU a).toList == (strU b).toList) = decide (a = b) := by
  have e1 : (strU a).toList = a := strU_toList a
  have e2 : (strU b).toList = b := strU_toList b
  rw [e1, e2, Bool.eq_iff_iff]; simp
theorem Bs.drewN' {lo hi : Nat} {w : World} {v : Value} {l : List UInt8} (h : Bs lo hi w v l) (n : Nat) : Bs lo hi (w.drewN n) v l := h

end Go.Proofs.YthkccpemgmpadaaDoor.P.M

namespace Go.Proofs.YthkccpemgmpadaaDoor.P.M
set_option maxRecDepth 100000
open Go.RowKit

theorem Tokens_long (v : Value) (l : List UInt8) (lo : Nat) (w : World) (h : Bs lo w.heap.size w v l) (hl : 65536 < l.length) :
    Calls Tryd.prog 34 #[v] w fun e w' => e = .returned (.tuple #[.slice none 0 0, .int .i64 3]) ∧ w = w' := by
  obtain ⟨A, c, rfl, h1, h2, _⟩ := h.open
  clear h
  go_enter Tryd.func34, Tryd.ntmps34
  go_wp2
  refine wp_scope_straight ?_
  go_wp2
  rw [Exit.noGoto_ret]
  go_ret2
  exact ⟨rfl, rfl⟩
end Go.Proofs.YthkccpemgmpadaaDoor.P.M

namespace Go.Proofs.YthkccpemgmpadaaDoor.P
set_option maxRecDepth 100000

/-! ### a text without its end -/
theorem nextR_pre {t : List Int} {k : Nat} {r : Rdr} {i : Int} (hk : k ≤ t.length) (hu : r.used ≤ k) (h : (nextR (t.take k) r i).2.2 = 0) : nextR t r i = nextR (t.take k) r i ∧ (nextR (t.take k) r i).2.1.used ≤ k := by
  have hl : (t.take k).length = k := by rw [List.length_take]; omega
  unfold nextR at *
  by_cases h1 : ¬ (0 ≤ i ∧ i < r.c.length)
  · rw [if_pos h1] at h; simp at h
  · rw [if_neg h1] at h ⊢
    rw [if_neg h1]
    by_cases h2 : spanR r i < 16777216
    · rw [if_pos h2] at h ⊢
      rw [if_pos h2, hl]
      rw [hl] at h
      by_cases h3 : r.used < k
      · rw [if_pos h3, if_pos (by omega)]
        have : (t.take k).getD r.used 0 = t.getD r.used 0 := by
          rw [List.getD_eq_getElem?_getD, List.getD_eq_getElem?_getD, List.getElem?_take, if_pos h3]
        rw [this]
        exact ⟨rfl, by simp only []; omega⟩
      · rw [if_neg h3] at h; simp at h
    · rw [if_neg h2] at h ⊢
      rw [if_neg h2]
      exact ⟨rfl, hu⟩
theorem treeR_pre {t : List Int} {k : Nat} {c : Int} (hk : k ≤ t.length) (n m : Nat) {r : Rdr} {x : Nat × Rdr} (hu : r.used ≤ k) (h : treeR (t.take k) c n m r = some x) : treeR t c n m r = some x ∧ x.2.used ≤ k := by
  induction n generalizing m r with
  | zero => rw [treeR] at h ⊢; injection h with h; subst h; exact ⟨rfl, hu⟩
  | succ n ih =>
    rw [treeR] at h ⊢
    split at h
    · rename_i h1
      obtain ⟨e1, e2⟩ := nextR_pre hk hu h1
      rw [e1, if_pos h1]
      exact ih _ e2 h
    · cases h
theorem tokR_pre {t : List Int} {k : Nat} (hk : k ≤ t.length) {r : Rdr} {x : Tok × Rdr} (hu : r.used ≤ k) (h : tokR (t.take k) r = some x) : tokR t r = some x ∧ x.2.used ≤ k := by
  unfold tokR at h ⊢
  split at h
  · rename_i h1
    obtain ⟨e1, e2⟩ := nextR_pre hk hu h1
    rw [e1, if_pos h1]
    split at h
    · rename_i h2
      rw [if_pos h2]
      split at h
      · cases h
      · rename_i m r1 h3
        obtain ⟨f1, f2⟩ := treeR_pre hk _ _ e2 h3
        rw [f1]
        simp only []
        split at h
        · cases h
        · rename_i q r2 h4
          obtain ⟨g1, g2⟩ := treeR_pre hk _ _ f2 h4
          rw [g1]
          simp only []
          injection h with h
          subst h
          exact ⟨rfl, g2⟩
    · rename_i h2
      rw [if_neg h2]
      split at h
      · cases h
      · rename_i m r1 h3
        obtain ⟨f1, f2⟩ := treeR_pre hk _ _ e2 h3
        rw [f1]
        simp only []
        injection h with h
        subst h
        exact ⟨rfl, f2⟩
  · cases h
theorem toksR_pre {t : List Int} {k : Nat} (hk : k ≤ t.length) {n : Int} (f : Nat) {told : Int} {r : Rdr} {acc : List Tok} {x : List Tok × Rdr} (hu : r.used ≤ k) (h : toksR (t.take k) n f told r acc = some x) : toksR t n f told r acc = some x ∧ x.2.used ≤ k := by
  induction f generalizing told r acc with
  | zero => rw [toksR] at h ⊢; injection h with h; subst h; exact ⟨rfl, hu⟩
  | succ f ih =>
    rw [toksR] at h ⊢
    split at h
    · rename_i h1
      rw [if_pos h1]
      split at h
      · cases h
      · rename_i y r' h2
        obtain ⟨e1, e2⟩ := tokR_pre hk hu h2
        rw [e1]
        simp only []
        exact ih e2 h
    · rename_i h1
      rw [if_neg h1]
      injection h with h
      subst h
      exact ⟨rfl, hu⟩

/-- P7.5: one octet less is not enough. -/
theorem unpack_short {b : List UInt8} (hb : b.length ≤ 65536) {most : Int} (hm : (b.length : Int) ≤ most) : unpackR ((packT b).take ((packT b).length - 1)) most = ([], 2) := by
  have he := toksB_bits hb
  obtain ⟨hl, hl9⟩ := packT_len hb
  obtain ⟨a1, a2⟩ := ties_start he [] (fun x hx => by simp at hx)
  rw [List.append_nil] at a1 a2
  obtain ⟨e1, e2, e3⟩ := encE_ok he
  obtain ⟨t1, t2⟩ := toksB_text b
  have ts := toksB_sum b
  have hel := encT_len he
  have hlen : ((packT b).take ((packT b).length - 1)).length = (packT b).length - 1 := by rw [List.length_take]; omega
  have hdrop : ((packT b).take ((packT b).length - 1)).drop 4 = (encT 528 (bitsF (toksB b))).take ((encT 528 (bitsF (toksB b))).length - 1) := by
    have h1 := packT_drop b []
    rw [List.append_nil, List.append_nil] at h1
    rw [List.drop_take, h1, show (packT b).length - 1 - 4 = (encT 528 (bitsF (toksB b))).length - 1 by omega]
  unfold unpackR
  rw [if_neg (by omega)]
  by_cases h9 : (packT b).length - 1 < 9
  · rw [if_pos (by unfold longR; rw [if_pos (Or.inl (by omega))]; simp)]
  have hlong : longN ((packT b).take ((packT b).length - 1)) = b.length := by
    have := packT_long hb []
    rw [List.append_nil] at this
    rw [← this]
    unfold longN
    simp only [List.getD_eq_getElem?_getD, List.getElem?_take]
    rw [if_pos (by omega), if_pos (by omega), if_pos (by omega), if_pos (by omega)]
  have hlr : longR ((packT b).take ((packT b).length - 1)) = ((b.length : Int), 0) := by
    unfold longR
    rw [hlong, if_neg (by omega)]
  rw [hlr, if_neg (by simp), hlong, if_neg (by omega), hdrop]
  by_cases hst : startE 528 ((encT 528 (bitsF (toksB b))).take ((encT 528 (bitsF (toksB b))).length - 1)) = 0
  · rw [if_neg (by simp [hst])]
    have h5 := startE_iff.1 hst
    rw [List.length_take] at h5
    have hsr : startR 528 ((encT 528 (bitsF (toksB b))).take ((encT 528 (bitsF (toksB b))).length - 1)) = startR 528 (encT 528 (bitsF (toksB b))) := by
      unfold startR
      rw [show (((encT 528 (bitsF (toksB b))).take ((encT 528 (bitsF (toksB b))).length - 1)).drop 1).take 4 = ((encT 528 (bitsF (toksB b))).drop 1).take 4 by rw [List.drop_take, List.take_take, Nat.min_eq_left (by omega)]]
    rw [hsr]
    obtain ⟨r', f1, f2⟩ := toks_ties (encT_okB he) (n := (b.length : Int)) (told := 0) (toksB b) [] ((b.length : Int)).toNat t2 (by omega) (by have := toksB_len b; omega) (start_ok (by omega)) (by rw [start_c]; rfl) a2
      (by omega) (by rw [← hel, List.take_length, encT_ok he]; exact endT_num _)
    split
    · rfl
    · rename_i l r hh
      exfalso
      obtain ⟨g1, g2⟩ := toksR_pre (by omega) _ (by show 5 ≤ _; omega) hh
      rw [f1] at g1
      injection g1 with g1
      rw [← g1] at g2
      have hu := f2.used
      simp only [] at g2
      omega
  · rw [if_pos hst]

/-! ### how many octets come -/
theorem treeR_ge {t : List Int} {c : Int} (n m : Nat) {r : Rdr} {x : Nat × Rdr} (h : treeR t c n m r = some x) : m * 2 ^ n ≤ x.1 ∧ x.1 < (m + 1) * 2 ^ n := by
  induction n generalizing m r with
  | zero => rw [treeR] at h; injection h with h; subst h; simp
  | succ n ih =>
    rw [treeR] at h
    split at h
    · obtain ⟨a, b⟩ := ih _ h
      rw [Nat.pow_succ]
      generalize 2 ^ n = P at *
      have e1 : m * (P * 2) = 2 * m * P := by rw [Nat.mul_comm P 2, ← Nat.mul_assoc, Nat.mul_comm m 2]
      have e2 : (m + 1) * (P * 2) = 2 * m * P + 2 * P := by rw [Nat.add_mul, Nat.one_mul, e1]; omega
      rw [e1, e2]
      split at a <;> split at b <;> simp only [Nat.add_mul, Nat.one_mul, Nat.add_zero] at a b <;> omega
    · cases h
/-- What is read may be a token by itself. -/
theorem tokR_ok {t : List Int} {r : Rdr} {x : Tok × Rdr} (h : tokR t r = some x) : okT x.1 = true := by
  unfold tokR at h
  split at h
  · split at h
    · split at h
      · cases h
      · rename_i m r1 h3
        split at h
        · cases h
        · rename_i q r2 h4
          injection h with h
          subst h
          have a := treeR_ge _ _ h3
          have b := treeR_ge _ _ h4
          simp only [] at a b
          unfold okT
          simp only []
          rw [if_neg (by omega)]
          simp
          omega
    · split at h
      · cases h
      · rename_i m r1 h3
        injection h with h
        subst h
        simp [okT]
  · cases h
theorem toksR_told {t : List Int} {n : Int} (f : Nat) {told : Int} {r : Rdr} {acc : List Tok} {x : List Tok × Rdr} (h : toksR t n f told r acc = some x) (hf : n ≤ told + f) : ∃ l, x.1 = acc ++ l ∧ n ≤ told + sumT l := by
  induction f generalizing told r acc with
  | zero => rw [toksR] at h; injection h with h; subst h; exact ⟨[], by simp, by simp [sumT]; omega⟩
  | succ f ih =>
    rw [toksR] at h
    split at h
    · split at h
      · cases h
      · rename_i y r' h2
        have hs := okT_size (tokR_ok h2)
        simp only [] at hs
        obtain ⟨l, e, hl⟩ := ih h (by omega)
        refine ⟨y :: l, by rw [e, List.append_assoc]; rfl, ?_⟩
        have : sumT (y :: l) = sizeT y + sumT l := rfl
        omega
    · injection h with h
      subst h
      exact ⟨[], by simp, by simp [sumT]; omega⟩
/-- P7.5: no more octets come than are told. -/
theorem unpack_most {t : List Int} {most : Int} (ht : okB t) : ((unpackR t most).2 = 0 ∧ (longR t).2 = 0 ∧ ((unpackR t most).1.length : Int) = (longR t).1 ∧ (longR t).1 ≤ most) ∨
    ((unpackR t most).1 = [] ∧ ((unpackR t most).2 = 2 ∨ ((unpackR t most).2 = 3 ∧ (longR t).2 = 0 ∧ most < (longR t).1) ∨ ((unpackR t most).2 = 1 ∧ most < 0))) := by
  unfold unpackR
  by_cases h1 : most < 0
  · rw [if_pos h1]; exact .inr ⟨rfl, .inr (.inr ⟨rfl, h1⟩)⟩
  rw [if_neg h1]
  by_cases h2 : (longR t).2 ≠ 0
  · rw [if_pos h2]; exact .inr ⟨rfl, .inl rfl⟩
  rw [if_neg h2]
  have h2' : (longR t).2 = 0 := by simpa using h2
  have hl : (longR t).1 = longN t := by
    unfold longR at h2' ⊢
    split
    · rename_i h; rw [if_pos h] at h2'; cases h2'
    · rfl
  have hn0 : 0 ≤ longN t := by
    have hg : ∀ i, 0 ≤ t.getD i 0 := fun i => by
      rw [List.getD_eq_getElem?_getD]
      cases hh : t[i]? with
      | none => simp
      | some y => exact (ht y (List.mem_of_getElem? hh)).1
    have := hg 0; have := hg 1; have := hg 2; have := hg 3
    unfold longN; omega
  by_cases h3 : most < longN t
  · rw [if_pos h3]; exact .inr ⟨rfl, .inr (.inl ⟨rfl, h2', by omega⟩)⟩
  rw [if_neg h3]
  by_cases h4 : startE 528 (t.drop 4) ≠ 0
  · rw [if_pos h4]; exact .inr ⟨rfl, .inl rfl⟩
  rw [if_neg h4]
  split
  · exact .inr ⟨rfl, .inl rfl⟩
  · rename_i l r hh
    by_cases h5 : (okL 0 l && decide (sumT l ≤ longN t) && decide (r.used = (t.drop 4).length)) = true
    · rw [if_pos h5]
      simp only [Bool.and_eq_true, decide_eq_true_eq] at h5
      obtain ⟨⟨k1, k2⟩, k3⟩ := h5
      obtain ⟨l', e, hs⟩ := toksR_told _ hh (by omega)
      simp only [List.nil_append] at e
      subst e
      have := textF_len (b := []) k1
      simp only [List.length_nil] at this
      exact .inl ⟨rfl, h2', by simp only []; rw [hl]; omega, by omega⟩
    · rw [if_neg h5]; exact .inr ⟨rfl, .inl rfl⟩
end Go.Proofs.YthkccpemgmpadaaDoor.P

namespace Go.Proofs.YthkccpemgmpadaaDoor.P.E
set_option maxRecDepth 100000

/-! ### octets that are all the same -/
theorem rep_get (n : Nat) (c : UInt8) (i : Nat) (h : i < n) : (List.replicate n c).getD i 0 = c := by
  rw [List.getD_eq_getElem?_getD, List.getElem?_replicate, if_pos h]; rfl
theorem alkF_rep (n : Nat) (c : UInt8) (f a k : Nat) (h : f ≤ a) (ha : a ≤ n) : alkF (List.replicate n c) f a k = min k (n - a) := by
  induction k generalizing f a with
  | zero => simp [alkF]
  | succ k ih =>
    rw [alkF, List.length_replicate]
    split
    · rename_i h1
      rw [ih (f + 1) (a + 1) (by omega) (by omega)]; omega
    · rename_i h1
      have : ¬ a < n := fun h2 => h1 ⟨h2, by rw [rep_get n c f (by omega), rep_get n c a h2]⟩
      omega
theorem bestF_rep (n : Nat) (c : UInt8) (a D : Nat) (ha : a ≤ n) : bestF (List.replicate n c) a D = if D = 0 ∨ min 18 (n - a) < 3 then (2, 0) else (min 18 (n - a), 1) := by
  induction D with
  | zero => simp [bestF]
  | succ D ih =>
    rw [bestF, ih, alkF_rep n c _ a 18 (by omega) ha]
    generalize min 18 (n - a) = m
    by_cases h : m < 3
    · simp [h]; omega
    · by_cases hD : D = 0
      · subst hD
        simp [h]; omega
      · simp [h, hD]
/-- What is left, by tokens. -/
def wantF (c : UInt8) : Nat → Nat → List Tok
  | 0, _ => []
  | k + 1, left => if left = 0 then [] else if min left 18 < 3 then ⟨c, 0, 0⟩ :: wantF c k (left - 1) else ⟨0, (min left 18 : Nat), 1⟩ :: wantF c k (left - min left 18)
theorem nextT_rep (n : Nat) (c : UInt8) (a : Nat) (h0 : 1 ≤ a) (ha : a < n) : nextT (List.replicate n c) a = if min (n - a) 18 < 3 then ⟨c, 0, 0⟩ else ⟨0, (min (n - a) 18 : Nat), 1⟩ := by
  unfold nextT
  rw [bestF_rep n c a _ (by omega)]
  by_cases h : min 18 (n - a) < 3
  · rw [if_pos (Or.inr h), if_pos rfl, if_pos (by omega), rep_get n c a ha]
  · rw [show (if min a 256 = 0 ∨ min 18 (n - a) < 3 then ((2 : Nat), (0 : Nat)) else (min 18 (n - a), 1)) = (min 18 (n - a), 1) from if_neg (by omega), if_neg (by simp), if_neg (by omega), Nat.min_comm]; rfl
theorem toksF_rep (n : Nat) (c : UInt8) (k a : Nat) (h0 : 1 ≤ a) (ha : a ≤ n) : toksF (List.replicate n c) k a = wantF c k (n - a) := by
  induction k generalizing a with
  | zero => rfl
  | succ k ih =>
    rw [toksF, wantF, List.length_replicate]
    by_cases h : a < n
    · rw [if_pos h, if_neg (by omega), nextT_rep n c a h0 h]
      by_cases h3 : min (n - a) 18 < 3
      · rw [if_pos h3, if_pos h3, show a + (sizeT ⟨c, 0, 0⟩).toNat = a + 1 from rfl, ih (a + 1) (by omega) (by omega), show n - (a + 1) = n - a - 1 by omega]
      · rw [if_neg h3, if_neg h3]
        have hs : (sizeT ⟨0, (min (n - a) 18 : Nat), 1⟩).toNat = min (n - a) 18 := by
          unfold sizeT
          simp only []
          rw [if_neg (by omega)]
          exact Int.toNat_natCast _
        rw [hs, ih _ (by omega) (by omega), show n - (a + min (n - a) 18) = n - a - min (n - a) 18 by omega]
    · rw [if_neg h, if_pos (by omega)]
theorem toksB_rep (n : Nat) (c : UInt8) (h : 1 ≤ n) : toksB (List.replicate n c) = [⟨c, 0, 0⟩] ++ wantF c (n - 1) (n - 1) := by
  unfold toksB
  rw [List.length_replicate]
  obtain ⟨m, rfl⟩ : ∃ m, n = m + 1 := ⟨n - 1, by omega⟩
  rw [toksF, if_pos (by simp)]
  have hn : nextT (List.replicate (m + 1) c) 0 = ⟨c, 0, 0⟩ := by
    unfold nextT
    rw [show min 0 256 = 0 from rfl, bestF]
    rw [if_pos rfl, rep_get (m + 1) c 0 (by omega)]
  rw [hn, show 0 + (sizeT ⟨c, 0, 0⟩).toNat = 1 from rfl, toksF_rep (m + 1) c m 1 (by omega) (by omega)]
  rfl
theorem wantF_lit {c : UInt8} {k left : Nat} (h : left ≤ k) (h1 : 1 ≤ left) (h3 : left < 3) : ∃ k', left - 1 ≤ k' ∧ wantF c k left = [⟨c, 0, 0⟩] ++ wantF c k' (left - 1) := by
  obtain ⟨k', rfl⟩ : ∃ k', k = k' + 1 := ⟨k - 1, by omega⟩
  exact ⟨k', by omega, by rw [wantF, if_neg (by omega), if_pos (by omega)]; rfl⟩
theorem wantF_rep {c : UInt8} {k left m : Nat} (h : left ≤ k) (h1 : 3 ≤ left) (hm : m = min left 18) : ∃ k', left - m ≤ k' ∧ wantF c k left = [⟨0, (m : Nat), 1⟩] ++ wantF c k' (left - m) := by
  subst hm
  obtain ⟨k', rfl⟩ : ∃ k', k = k' + 1 := ⟨k - 1, by omega⟩
  exact ⟨k', by omega, by rw [wantF, if_neg (by omega), if_neg (by omega)]; rfl⟩
theorem wantF_zero (c : UInt8) (k : Nat) : wantF c k 0 = [] := by cases k <;> rfl


/-- What 18 again, from one behind, is. -/
def t18 : Tok := ⟨0, 18, 1⟩
theorem wantF_form (c : UInt8) (f left : Nat) (h : left ≤ f) : ∃ k rest, wantF c f left = List.replicate k t18 ++ rest ∧ 18 * k ≤ left ∧ (bitsF rest).length ≤ 18 := by
  induction f using Nat.strongRecOn generalizing left with
  | ind f ih =>
    by_cases h18 : 18 ≤ left
    · obtain ⟨f', rfl⟩ : ∃ f', f = f' + 1 := ⟨f - 1, by omega⟩
      obtain ⟨k, rest, e1, e2, e3⟩ := ih f' (by omega) (left - 18) (by omega)
      refine ⟨k + 1, rest, ?_, by omega, e3⟩
      have hm : min left 18 = 18 := by omega
      rw [wantF, if_neg (by omega), hm, if_neg (by omega), e1]
      rfl
    · refine ⟨0, wantF c f left, by simp, by omega, ?_⟩
      rcases Nat.eq_zero_or_pos left with h0 | h0
      · subst h0; rw [wantF_zero]; simp [bitsF]
      · by_cases h3 : left < 3
        · obtain ⟨k', g1, g2⟩ := wantF_lit (c := c) h h0 h3
          rw [g2]
          have hb : ∀ l, (bitsF ([⟨c, 0, 0⟩] ++ l)).length = 9 + (bitsF l).length := fun l => by
            rw [bitsF_append, List.length_append]
            have : (bitsF [⟨c, 0, 0⟩]).length = 9 := by simp [bitsF, tokB, numB]
            omega
          rw [hb]
          rcases (show left = 1 ∨ left = 2 by omega) with rfl | rfl
          · rw [wantF_zero]; simp [bitsF]
          · obtain ⟨k'', _, g4⟩ := wantF_lit (c := c) (k := k') (left := 1) g1 (by omega) (by omega)
            rw [g4, hb, wantF_zero]; simp [bitsF]
        · obtain ⟨k', g1, g2⟩ := wantF_rep (c := c) (m := left) h (by omega) (by omega)
          rw [g2, Nat.sub_self, wantF_zero, bitsF_append, List.length_append]
          have hok : okT ⟨0, (left : Nat), 1⟩ = true := by
            unfold okT
            rw [if_neg (by show ¬ ((left : Nat) : Int) = 0; omega)]
            simp; omega
          have : (bitsF [⟨0, (left : Nat), 1⟩]).length = 13 := by
            have := tokB_len hok
            rw [if_pos (by show (0 : Int) < (left : Nat); omega)] at this
            simp [bitsF, this]
          rw [this]; simp [bitsF]

/-! ### what bits cost -/
/-- Is a bit likely? -/
def good (c : List Int) (x : Bit) : Prop := if x.b then c.getD x.at_.toNat 0 ≤ 1024 else 1024 ≤ c.getD x.at_.toNat 0
theorem put_good {s : Enc} {x : Bit} (h : InvE s) (hx : inB s.c.length x = true) (hg : good s.c x) : ∃ d, (put s x).text.length = s.text.length + d ∧ s.span * 256 ^ d ≤ 4 * (put s x).span := by
  obtain ⟨h0, h1⟩ := inB_iff.1 hx
  have hp := part_ok h.c h0 h1 h.span
  have hs := h.span
  have e : s.span ≤ 4 * (put1 s x).span := by
    have e0 : (put1 s x).span = if x.b then s.span - partP s.span s.c x.at_ else partP s.span s.c x.at_ := rfl
    rw [e0]
    unfold good at hg
    unfold partP at *
    generalize s.c.getD x.at_.toNat 0 = p at *
    have hq : s.span / 2048 * 2048 ≤ s.span ∧ s.span < s.span / 2048 * 2048 + 2048 := by omega
    generalize s.span / 2048 = q at *
    split at hg
    · rename_i hb
      rw [if_pos hb]
      have : q * p ≤ q * 1024 := Int.mul_le_mul_of_nonneg_left hg (by omega)
      omega
    · rename_i hb
      rw [if_neg hb]
      have : q * 1024 ≤ q * p := Int.mul_le_mul_of_nonneg_left hg (by omega)
      omega
  have hl := put1_len s x
  unfold put
  split
  · exact ⟨1, by simp [shf, hl], by simp only [shf]; omega⟩
  · exact ⟨0, by omega, by omega⟩
/-- Places whose bits are set, and whose are not, in 18 again, from one behind. -/
def setP : List Int := [257, 259, 263, 271]
def offP : List Int := [273, 274, 276, 280, 288, 304, 336, 400]
/-- Such bits are likely. -/
def Gd (c : List Int) : Prop := okC c = true ∧ c.length = 528 ∧ (∀ i ∈ setP, c.getD i.toNat 0 ≤ 1024) ∧ (∀ i ∈ offP, 1024 ≤ c.getD i.toNat 0)
/-- A bit that keeps them so. -/
def friend (x : Bit) : Prop := inB 528 x = true ∧ (x.at_ ∈ setP → x.b = true) ∧ (x.at_ ∈ offP → x.b = false)
def likely (x : Bit) : Bool := decide (x.at_ ∈ setP) || decide (x.at_ ∈ offP)
theorem stepA_get {c : List Int} {x : Bit} {i : Int} (h0 : 0 ≤ i) (hx : inB c.length x = true) : (stepA c x).getD i.toNat 0 = if i = x.at_ then lrn (c.getD i.toNat 0) x.b else c.getD i.toNat 0 := by
  obtain ⟨a0, a1⟩ := inB_iff.1 hx
  unfold stepA
  rw [List.getD_eq_getElem?_getD, List.getElem?_set]
  by_cases h : i = x.at_
  · subst h
    rw [if_pos rfl, if_pos rfl, if_pos (by omega)]
    rfl
  · rw [if_neg (by omega), if_neg h, ← List.getD_eq_getElem?_getD]
theorem Gd.step {c : List Int} {x : Bit} (h : Gd c) (hx : friend x) : Gd (stepA c x) := by
  obtain ⟨h1, h2, h3, h4⟩ := h
  obtain ⟨f1, f2, f3⟩ := hx
  have hin : inB c.length x = true := by rw [h2]; exact f1
  have hC : ∀ i : Int, 0 ≤ i → i < 528 → isC (c.getD i.toNat 0) = true := fun i a b => getD_ok h1 a (by omega)
  refine ⟨stepA_ok h1, by rw [stepA_len]; exact h2, fun i hi => ?_, fun i hi => ?_⟩
  · have hb : 0 ≤ i ∧ i < 528 := by simp [setP] at hi; omega
    rw [stepA_get hb.1 hin]
    split
    · rename_i e
      subst e
      rw [f2 hi]
      exact Int.le_trans (lrn_down (hC _ hb.1 hb.2)) (h3 _ hi)
    · exact h3 i hi
  · have hb : 0 ≤ i ∧ i < 528 := by simp [offP] at hi; omega
    rw [stepA_get hb.1 hin]
    split
    · rename_i e
      subst e
      rw [f3 hi]
      exact Int.le_trans (h4 _ hi) (lrn_up (hC _ hb.1 hb.2))
    · exact h4 i hi
theorem Gd.good {c : List Int} {x : Bit} (h : Gd c) (hx : friend x) (hl : likely x = true) : good c x := by
  obtain ⟨h1, h2, h3, h4⟩ := h
  obtain ⟨f1, f2, f3⟩ := hx
  simp only [likely, Bool.or_eq_true, decide_eq_true_eq] at hl
  unfold E.good
  rcases hl with hl | hl
  · rw [f2 hl, if_pos rfl]; exact h3 _ hl
  · rw [f3 hl, if_neg (by simp)]; exact h4 _ hl
def cost (xs : List Bit) : Int := (xs.map fun x => if likely x then (4 : Int) else 100).prod
theorem putAll_cost {s : Enc} {xs : List Bit} (h : InvE s) (hg : Gd s.c) (hx : ∀ x ∈ xs, friend x) :
    ∃ d, (putAll s xs).text.length = s.text.length + d ∧ s.span * 256 ^ d ≤ cost xs * (putAll s xs).span ∧ InvE (putAll s xs) ∧ Gd (putAll s xs).c := by
  induction xs generalizing s with
  | nil => exact ⟨0, rfl, by simp [putAll, cost], h, hg⟩
  | cons x r ih =>
    have hf := hx x (by simp)
    have hin : inB s.c.length x = true := by rw [hg.2.1]; exact hf.1
    obtain ⟨g, _⟩ := put_ok h hin
    have hc : (put s x).c = stepA s.c x := by unfold put; split <;> rfl
    obtain ⟨d, d1, d2⟩ : ∃ d, (put s x).text.length = s.text.length + d ∧ s.span * 256 ^ d ≤ (if likely x then (4 : Int) else 100) * (put s x).span := by
      split
      · rename_i hl; exact put_good h hin (hg.good hf hl)
      · exact put_more h hin
    obtain ⟨e, e1, e2, e3, e4⟩ := ih g (by rw [hc]; exact hg.step hf) fun y hy => hx y (by simp [hy])
    have hd : (0 : Int) ≤ 256 ^ e := Int.pow_nonneg (by omega)
    have hk : (0 : Int) ≤ (if likely x then (4 : Int) else 100) := by split <;> omega
    refine ⟨d + e, ?_, ?_, e3, e4⟩
    · show (putAll (put s x) r).text.length = _
      omega
    · show _ ≤ _ * (putAll (put s x) r).span
      have hcost : cost (x :: r) = (if likely x then (4 : Int) else 100) * cost r := by simp [cost]
      rw [hcost]
      generalize (if likely x then (4 : Int) else 100) = K at *
      rw [Int.pow_add, ← Int.mul_assoc]
      have h3 := Int.mul_le_mul_of_nonneg_right d2 hd
      rw [Int.mul_assoc K] at h3
      rw [Int.mul_assoc K]
      exact Int.le_trans h3 (Int.mul_le_mul_of_nonneg_left e2 hk)
theorem cost_append (p q : List Bit) : cost (p ++ q) = cost p * cost q := by simp [cost]

theorem t18_bits : tokB t18 = [⟨0, true⟩, ⟨257, true⟩, ⟨259, true⟩, ⟨263, true⟩, ⟨271, true⟩, ⟨273, false⟩, ⟨274, false⟩, ⟨276, false⟩, ⟨280, false⟩, ⟨288, false⟩, ⟨304, false⟩, ⟨336, false⟩, ⟨400, false⟩] := rfl
theorem t18_friend : ∀ x ∈ tokB t18, friend x := by
  intro x hx
  refine ⟨tokB_in _ x hx, ?_⟩
  rw [t18_bits] at hx
  simp only [List.mem_cons, List.not_mem_nil, or_false] at hx
  rcases hx with rfl | rfl | rfl | rfl | rfl | rfl | rfl | rfl | rfl | rfl | rfl | rfl | rfl <;> decide
theorem t18_cost : cost (tokB t18) = 100 * 4 ^ 12 := by rw [t18_bits]; decide
theorem rep_cost (k : Nat) : cost (bitsF (List.replicate k t18)) = (100 * 4 ^ 12) ^ k := by
  induction k with
  | zero => rfl
  | succ k ih =>
    have : bitsF (List.replicate (k + 1) t18) = tokB t18 ++ bitsF (List.replicate k t18) := by simp [bitsF, List.replicate_succ]
    rw [this, cost_append, ih, t18_cost]
    generalize (100 * 4 ^ 12 : Int) = K
    rw [Int.pow_succ, Int.mul_comm]
theorem lit_friend (c : UInt8) : ∀ x ∈ tokB ⟨c, 0, 0⟩, friend x := by
  intro x hx
  refine ⟨tokB_in _ x hx, ?_⟩
  have hb : x.at_ < 256 := by
    unfold tokB at hx
    rw [List.mem_cons] at hx
    rcases hx with rfl | hx
    · simp
    · rw [if_pos rfl] at hx
      have := numB_in (W := 8) (by omega) (by decide) x hx
      simp at this; omega
  constructor
  · intro h; simp [setP] at h; omega
  · intro h; simp [offP] at h; omega
theorem cost_le (xs : List Bit) : 0 ≤ cost xs ∧ cost xs ≤ 100 ^ xs.length := by
  induction xs with
  | nil => simp [cost]
  | cons x r ih =>
    have hcost : cost (x :: r) = (if likely x then (4 : Int) else 100) * cost r := by simp [cost]
    rw [hcost, List.length_cons, Int.pow_succ, Int.mul_comm _ 100]
    have hk : (0 : Int) ≤ (if likely x then (4 : Int) else 100) ∧ (if likely x then (4 : Int) else 100) ≤ 100 := by split <;> omega
    generalize (if likely x then (4 : Int) else 100) = K at *
    exact ⟨Int.mul_nonneg hk.1 ih.1, Int.le_trans (Int.mul_le_mul_of_nonneg_right hk.2 ih.1) (Int.mul_le_mul_of_nonneg_left ih.2 (by omega))⟩
theorem Gd.start : Gd (List.replicate 528 1024) := by
  refine ⟨okC_iff.2 ⟨by rw [List.length_replicate]; decide, fun p hp => by rw [(List.mem_replicate.1 hp).2]; decide⟩, List.length_replicate, fun i hi => ?_, fun i hi => ?_⟩
  · have : 0 ≤ i ∧ i < 528 := by simp [setP] at hi; omega
    rw [List.getD_eq_getElem?_getD, List.getElem?_replicate, if_pos (by omega)]; simp
  · have : 0 ≤ i ∧ i < 528 := by simp [offP] at hi; omega
    rw [List.getD_eq_getElem?_getD, List.getElem?_replicate, if_pos (by omega)]; simp
/-- P7.5: octets that are all the same are packed into few. -/
theorem same_len (n : Nat) (c : UInt8) (hn : n ≤ 300) : (packT (List.replicate n c)).length ≤ 60 + n / 6 := by
  have hb : (List.replicate n c).length ≤ 65536 := by simp; omega
  have he := toksB_bits hb
  have hl := (packT_len hb).1
  rcases Nat.eq_zero_or_pos n with h0 | h0
  · subst h0
    have : bitsF (toksB (List.replicate 0 c)) = [] := rfl
    have hs := (short_len he).2
    rw [this] at hs hl
    simp at hs
    omega
  obtain ⟨k, rest, e1, e2, e3⟩ := wantF_form c (n - 1) (n - 1) (Nat.le_refl _)
  have ht : bitsF (toksB (List.replicate n c)) = (tokB ⟨c, 0, 0⟩ ++ bitsF (List.replicate k t18)) ++ bitsF rest := by
    rw [toksB_rep n c h0, e1, bitsF_append, bitsF_append]
    simp [bitsF]
  have hin := (encE_ok he).2.2
  have hel := encT_len he
  rw [ht] at hin hel hl
  have hfr : ∀ x ∈ tokB ⟨c, 0, 0⟩ ++ bitsF (List.replicate k t18), friend x := by
    intro x hx
    rcases List.mem_append.1 hx with hx | hx
    · exact lit_friend c x hx
    · obtain ⟨t, h1, h2⟩ := List.mem_flatMap.1 hx
      rw [(List.mem_replicate.1 h1).2] at h2
      exact t18_friend x h2
  obtain ⟨d, d1, d2, d3, d4⟩ := putAll_cost (start_ok (n := 528) (by omega)) (show Gd (start0 528).c from Gd.start) hfr
  have happ : putAll (start0 528) ((tokB ⟨c, 0, 0⟩ ++ bitsF (List.replicate k t18)) ++ bitsF rest) = putAll (putAll (start0 528) (tokB ⟨c, 0, 0⟩ ++ bitsF (List.replicate k t18))) (bitsF rest) := by simp [putAll]
  rw [happ] at hel
  obtain ⟨e, f1, f2⟩ := putAll_more (xs := bitsF rest) d3 (fun x hx => by rw [d4.2.1]; exact hin x (List.mem_append_right _ hx))
  have hinv : InvE (putAll (putAll (start0 528) (tokB ⟨c, 0, 0⟩ ++ bitsF (List.replicate k t18))) (bitsF rest)) := by rw [← happ, ← ht]; exact (enc_inv he).1
  have hsp := hinv.span
  have h0' : (start0 528).span = 4294967295 := rfl
  have ht0 : (start0 528).text.length = 1 := rfl
  rw [h0'] at d2
  rw [ht0] at d1
  generalize putAll (putAll (start0 528) (tokB ⟨c, 0, 0⟩ ++ bitsF (List.replicate k t18))) (bitsF rest) = S2 at *
  generalize putAll (start0 528) (tokB ⟨c, 0, 0⟩ ++ bitsF (List.replicate k t18)) = S1 at *
  have hcost : cost (tokB ⟨c, 0, 0⟩ ++ bitsF (List.replicate k t18)) ≤ 100 ^ 9 * (100 * 4 ^ 12) ^ k := by
    rw [cost_append, rep_cost]
    have := cost_le (tokB ⟨c, 0, 0⟩)
    rw [tokB_len (by simp [okT])] at this
    exact Int.mul_le_mul_of_nonneg_right this.2 (Int.pow_nonneg (by omega))
  have hrest : (100 : Int) ^ (bitsF rest).length ≤ 100 ^ 18 := by
    have h := Nat.pow_le_pow_right (show 0 < 100 by omega) e3
    exact_mod_cast h
  -- 256 ^ (d + e) ≤ 100 ^ 27 * (100 * 4 ^ 12) ^ k
  have hall : (4294967295 : Int) * 256 ^ (d + e) ≤ (100 ^ 9 * (100 * 4 ^ 12) ^ k * 100 ^ 18) * 4294967295 := by
    have hd : (0 : Int) ≤ 256 ^ e := Int.pow_nonneg (by omega)
    have hc0 : (0 : Int) ≤ 100 ^ 9 * (100 * 4 ^ 12) ^ k := Int.mul_nonneg (by omega) (Int.pow_nonneg (by omega))
    have hs1 : 0 ≤ S1.span := by have := d3.span; omega
    rw [Int.pow_add, ← Int.mul_assoc]
    refine Int.le_trans (Int.mul_le_mul_of_nonneg_right (Int.le_trans d2 (Int.mul_le_mul_of_nonneg_right hcost hs1)) hd) ?_
    rw [Int.mul_assoc, Int.mul_assoc (100 ^ 9 * (100 * 4 ^ 12) ^ k)]
    refine Int.mul_le_mul_of_nonneg_left (Int.le_trans f2 ?_) hc0
    refine Int.le_trans (Int.mul_le_mul_of_nonneg_right hrest (by omega)) ?_
    exact Int.mul_le_mul_of_nonneg_left (by omega) (by omega)
  have hnat : (256 : Nat) ^ (d + e) ≤ 100 ^ 9 * (100 * 4 ^ 12) ^ k * 100 ^ 18 := by
    have : ((256 ^ (d + e) : Nat) : Int) ≤ ((100 ^ 9 * (100 * 4 ^ 12) ^ k * 100 ^ 18 : Nat) : Int) := by
      simp only [Int.natCast_mul, Int.natCast_pow] at *
      have := hall
      simp only [Int.cast_ofNat_Int]
      generalize (256 : Int) ^ (d + e) = A at *
      generalize (100 : Int) ^ 9 * (100 * 4 ^ 12) ^ k * 100 ^ 18 = B at *
      omega
    omega
  have h2 : (256 : Nat) ^ (d + e) ≤ 2 ^ (189 + 31 * k) := by
    refine Nat.le_trans hnat ?_
    have g1 : (100 * 4 ^ 12 : Nat) ^ k ≤ (2 ^ 31) ^ k := Nat.pow_le_pow_left (by decide) k
    rw [Nat.pow_add, Nat.pow_mul]
    have g2 : (100 : Nat) ^ 9 * 100 ^ 18 ≤ 2 ^ 189 := by decide
    calc 100 ^ 9 * (100 * 4 ^ 12) ^ k * 100 ^ 18 = (100 ^ 9 * 100 ^ 18) * (100 * 4 ^ 12) ^ k := by rw [Nat.mul_right_comm]
      _ ≤ 2 ^ 189 * (2 ^ 31) ^ k := Nat.mul_le_mul g2 g1
  have h3 : 8 * (d + e) ≤ 189 + 31 * k := by
    have : (256 : Nat) = 2 ^ 8 := by decide
    rw [this, ← Nat.pow_mul] at h2
    exact (Nat.pow_le_pow_iff_right (by omega)).1 h2
  omega
/-- P7.5: no text into more than 16, and nine for each octet. -/
theorem pack_len {b : List UInt8} (hb : b.length ≤ 65536) : (packT b).length ≤ 16 + 9 * b.length := by
  have h1 := bitsF_len (toksB_text b).2
  rw [toksB_sum] at h1
  have h2 := (short_len (toksB_bits hb)).2
  have h3 := (packT_len hb).1
  omega
end Go.Proofs.YthkccpemgmpadaaDoor.P.E

namespace Go.Proofs.YthkccpemgmpadaaDoor.P
set_option maxRecDepth 100000
open Go.RowKit

theorem toksB_okB {b : List UInt8} (hb : b.length ≤ 65536) : M.okB (toksB b) = true := M.okB_iff.2 ⟨Nat.le_trans (toksB_len b) hb, (toksB_text b).2⟩
theorem toksB_bitsLen (b : List UInt8) : (bitsF (toksB b)).length ≤ 9 * b.length := by
  have h1 := bitsF_len (toksB_text b).2
  rw [toksB_sum] at h1
  omega
theorem lists2 {w : World} {g : Nat} {v1 v2 : Value} {l1 l2 : List Int} (hg : Blk w g 31 #[v1, v2]) (h1 : Os 0 w.heap.size w v1 l1) (h2 : Os 0 w.heap.size w v2 l2) : Lists 0 w g [l1, l2] := by
  intro k hk
  have e0 : k = 0 ∨ k = 1 := by simp at hk; omega
  rcases e0 with rfl | rfl
  · obtain ⟨A, c, rfl, r⟩ := id h1
    exact ⟨A, c, hg.cell 0, h1⟩
  · obtain ⟨A, c, rfl, r⟩ := id h2
    exact ⟨A, c, hg.cell 1, h2⟩

set_option maxHeartbeats 2000000 in
theorem Pack_good (lo : Nat) (v : Value) (b : List UInt8) (w : World) (h : M.Bs lo w.heap.size w v b) (hl : b.length ≤ 1000) :
    Calls Tryd.prog 24 #[v] w fun e w' => ∃ A c, e = .returned (.tuple #[.slice A (packT b).length c, .int .i64 0]) ∧ w'.ownsRow w.heap.size 5 1 (.slice A (packT b).length c) (packT b).length ((packT b).flatMap byc) ∧ Below w.heap.size w w' := by
  have hT := M.Tokens_any lo v b w h (by omega)
  have hbl := toksB_bitsLen b
  have hB := fun (v : Value) (W : World) (lo : Nat) (k : M.Tks lo W.heap.size W v (toksB b)) => Bits_good lo v (toksB b) W k (toksB_okB (by omega))
  have hE := fun (v : Value) (W : World) (lo : Nat) (k : Bts lo W.heap.size W v (bitsF (toksB b))) => Encode_any 528 lo v (bitsF (toksB b)) W k (by omega)
  rw [toksB_bits (by omega)] at hE
  have hO := fun (W : World) => octets_any (b.length : Int) (by omega) (by omega) W
  have hpl := packT_len (b := b) (by omega)
  have hen := (short_len (toksB_bits (b := b) (by omega))).2
  have hP : packT b = le4 b.length ++ encT 528 (bitsF (toksB b)) := rfl
  obtain ⟨A, c, rfl, h1, h2, _⟩ := h.open
  clear h
  generalize packT b = T at *
  generalize encT 528 (bitsF (toksB b)) = E at *
  generalize bitsF (toksB b) = bits at *
  generalize toksB b = ts at *
  have hC := fun (g : Nat) (W : World) (k : Lists 0 W g [le4 b.length, E]) (hg : g < W.heap.size) => concat_any 0 g [le4 b.length, E] W k hg (by simp) (by simp [upto, le4]) (by
    have : (le4 (b.length : Int)).length = 4 := rfl
    simp [upto]; omega)
  have hu : upto [le4 (b.length : Int), E] [le4 (b.length : Int), E].length = T.length := by rw [hP]; simp [upto]
  have hc : cat [le4 (b.length : Int), E] [le4 (b.length : Int), E].length = T := by rw [hP]; simp [cat]
  rw [hu, hc] at hC
  replace hC : ∀ (g : Nat) (W : World) (k : Lists 0 W g [le4 (b.length : Int), E]) (hg : g < W.heap.size), Calls Tryd.prog 17 #[.slice (some ⟨g, 0, none⟩) 2 2] W fun e w' => ∃ A c, e = .returned (.slice A T.length c) ∧ w'.ownsRow W.heap.size 5 1 (.slice A T.length c) T.length (T.flatMap byc) ∧ Below W.heap.size W w' := hC
  replace hT := hide hT; replace hB := hide hB; replace hE := hide hE; replace hO := hide hO; replace hC := hide hC
  clear hu hc hP hpl hen hbl hl
  generalize le4 (b.length : Int) = L4 at *
  go_enter Tryd.func24, Tryd.ntmps24
  go_wp2_with (first
    | (go_at_call 34; refine (unhide hT).mono ?_; rintro e w1 ⟨A1, c1, rfl, o1, hb1⟩; replace hb1 := hide hb1; have t1 := hide (M.Tks.own o1); clear o1)
    | (go_at_call 35; refine (unhide hB _ _ _ (unhide t1)).mono ?_; rintro e w2 ⟨A2, c2, rfl, o2, hb2⟩; replace hb2 := hide (bl_call (unhide hb1) hb2); have t2 := hide (Rd.of_own btc_len (by omega) o2); clear o2)
    | (go_at_call 36; refine (unhide hE _ _ _ (unhide t2)).mono ?_; rintro e w3 ⟨A3, c3, rfl, o3, hb3⟩; replace hb3 := hide (bl_call (unhide hb2) hb3); replace o3 := hide o3)
    | (go_at_call 37; refine (unhide hO _).mono ?_; rintro e w4 ⟨g4, rfl, o4, hb4⟩
       have t3 := (Rd.of_own byc_len (by omega) (own_below (unhide o3) hb4 (Nat.le_refl _)))
       have t4 := (Rd.of_own byc_len (by omega) o4)
       replace hb4 := hide (bl_call (unhide hb3) hb4)
       replace t3 := hide t3; replace t4 := hide t4; clear o3 o4)
    | (go_at_call 17; refine (unhide hC _ _ (lists2 (Blk.new rfl) ((((unhide t4).grow ((Below.refl _ _).alloc (Nat.le_refl _) _))).mono (Nat.zero_le _) (Nat.le_refl _)) ((((unhide t3).grow ((Below.refl _ _).alloc (Nat.le_refl _) _))).mono (Nat.zero_le _) (Nat.le_refl _))) (by simp)).mono ?_; rintro e w5 ⟨A5, c5, rfl, o5, hb5⟩)
    | fail)
  go_ret2
  have hz := (unhide hb4).size
  exact ⟨_, _, rfl, ownsRow_mono o5 (by simp; omega), bl_call (bl_alloc (unhide hb4) _) hb5⟩

set_option maxHeartbeats 1000000 in
theorem Pack_long (lo : Nat) (v : Value) (b : List UInt8) (w : World) (h : M.Bs lo w.heap.size w v b) (hl : 65536 < b.length) :
    Calls Tryd.prog 24 #[v] w fun e w' => e = .returned (.tuple #[.slice none 0 0, .int .i64 3]) ∧ Below w.heap.size w w' := by
  have hT := M.Tokens_long v b lo w h hl
  replace hT := hide hT
  clear h
  go_enter Tryd.func24, Tryd.ntmps24
  go_wp2_with (first
    | (go_at_call 34; refine (unhide hT).mono ?_; rintro e w1 ⟨rfl, rfl⟩)
    | fail)
  go_ret2
  exact ⟨rfl, Below.refl _ _⟩

end Go.Proofs.YthkccpemgmpadaaDoor.P

namespace Go.Proofs.YthkccpemgmpadaaDoor.P
set_option maxRecDepth 100000
open Go.RowKit

/-- The reader 'g' holds 'r', which may be. -/
structure Rd1 (base g gc cc gt ct : Nat) (w : World) (r : Rdr) (t : List Int) : Prop where
  rd : Rdg base g gc cc gt ct w r t
  ok : OkR r
  used : r.used ≤ t.length
theorem nextR_next (t : List Int) (r : Rdr) (i : Int) (h : (nextR t r i).2.2 = 0) (c : Int) (k m : Nat) (hi : i = c + m) : treeR t c (k + 1) m r = treeR t c k (2 * m + (if (nextR t r i).1 then 1 else 0)) (nextR t r i).2.1 := by
  subst hi
  rw [treeR, if_pos h]
theorem nextR_stop (t : List Int) (r : Rdr) (i : Int) (h : (nextR t r i).2.2 ≠ 0) (c : Int) (k m : Nat) (hi : i = c + m) : treeR t c (k + 1) m r = none := by
  subst hi
  rw [treeR, if_neg h]

set_option maxHeartbeats 2000000 in
theorem readNum_any (base g gc cc gt ct k : Nat) (c : Int) (r : Rdr) (t : List Int) (w : World) (hW : Rd1 base g gc cc gt ct w r t) (ht : okB t) (hl : t.length ≤ 1000000) (hk : k ≤ 8) (hc : 0 ≤ c ∧ c ≤ 528) :
    Calls Tryd.prog 81 #[.pointer (some ⟨g, 0, none⟩), .int .i64 k, .int .i64 c] w fun e w' =>
      ((∃ m r', treeR t c k 1 r = some (m, r') ∧ e = .returned (.tuple #[.int .i64 ((m : Int) - 2 ^ k), .int .i64 0]) ∧ Rd1 base g gc cc gt ct w' r' t) ∨
       (treeR t c k 1 r = none ∧ ∃ er : Int, er ≠ 0 ∧ e = .returned (.tuple #[.int .i64 0, .int .i64 er]))) ∧ But [g, gc] w w' := by
  have hN := fun (i : Int) (r : Rdr) (W : World) (h : Rd1 base g gc cc gt ct W r t) => Next_any base g gc cc gt ct i r t W h.rd h.ok ht hl h.used
  replace hN := hide hN
  replace hW := hide hW
  have hk2 : (1 : Int) * 2 ^ k ≤ 256 := by
    have : 2 ^ k ≤ 2 ^ 8 := Nat.pow_le_pow_right (by omega) hk
    have h2 : ((2 ^ k : Nat) : Int) ≤ 256 := by omega
    simpa using h2
  go_enter Tryd.func81, Tryd.ntmps81
  go_wp2_with fail
  go_loopw [8, 12] (fun s8 i wr => ∃ (j m : Nat) (r1 : Rdr), j ≤ k ∧ s8 = .int .i64 m ∧ i = .int .i64 j ∧ Hid (m < 2 ^ (j + 1)) ∧ 1 ≤ m ∧ m < 1024 ∧ Hid (treeR t c k 1 r = treeR t c (k - j) m r1) ∧ Hid (Rd1 base g gc cc gt ct wr r1 t) ∧ Hid (But [g, gc] w wr)) (fun _ i _ => 8 - (intOf i).toNat)
  case atStart => exact ⟨0, 1, r, by omega, rfl, rfl, hide (by decide), by omega, by omega, hide rfl, hW, hide (But.refl _ _)⟩
  case round =>
    obtain ⟨j, m, r1, hj, rfl, rfl, hm, hm1, hm2, hq, hR, hB⟩ := hrel
    by_cases hlt : j < k
    · have hN1 := unhide hN (c + m) r1 wr (unhide hR)
      have ha := fun h => nextR_next t r1 (c + m) h c (k - (j + 1)) m rfl
      have hb := fun h => nextR_stop t r1 (c + m) h c (k - (j + 1)) m rfl
      rw [show k - (j + 1) + 1 = k - j by omega] at ha hb
      have ho := nextR_ok (i := c + m) ht (unhide hR).ok
      have hu := nextR_used (i := c + m) (unhide hR).used
      generalize nextR t r1 (c + m) = X at *
      obtain ⟨b, r2, er⟩ := X
      simp only [] at hN1 ha hb ho hu
      replace hN1 := hide hN1
      replace ho := hide ho; replace hu := hide hu
      by_cases h0 : er = 0
      · subst h0
        replace ha := hide (ha rfl)
        clear hb
        cases b with
        | true =>
          have hor : bits .or .i64 ((m : Int) * 2) 1 = (m : Int) * 2 + 1 := i64_join 1 (by omega) _ _ (by omega) (by omega) (by omega) (by omega) (by omega)
          have hm3 : 2 * m + 1 < 2 ^ (j + 1 + 1) := by rw [Nat.pow_succ]; have := unhide hm; omega
          have hm4 : 2 * m + 1 < 1024 := by
            have : 2 ^ (j + 1 + 1) ≤ 2 ^ 9 := Nat.pow_le_pow_right (by omega) (by omega)
            omega
          replace hm3 := hide hm3
          go_wp2_with (first
            | (go_at_call 79; refine (unhide hN1).mono ?_; rintro e w1 ⟨rfl, hr, hbt⟩)
            | fail)
          go_roundw
          case rel => exact ⟨j + 1, 2 * m + 1, r2, by omega, by go_num, by go_num, hm3, by omega, hm4, hide (by rw [unhide hq, unhide ha]; rfl), hide ⟨hr, unhide ho, unhide hu⟩, hide ((unhide hB).trans hbt)⟩
          case measure => simp [intOf]; omega
        | false =>
          have hm3 : 2 * m + 0 < 2 ^ (j + 1 + 1) := by rw [Nat.pow_succ]; have := unhide hm; omega
          have hm4 : 2 * m + 0 < 1024 := by
            have : 2 ^ (j + 1 + 1) ≤ 2 ^ 9 := Nat.pow_le_pow_right (by omega) (by omega)
            omega
          replace hm3 := hide hm3
          go_wp2_with (first
            | (go_at_call 79; refine (unhide hN1).mono ?_; rintro e w1 ⟨rfl, hr, hbt⟩)
            | fail)
          go_roundw
          case rel => exact ⟨j + 1, 2 * m + 0, r2, by omega, by go_num, by go_num, hm3, by omega, hm4, hide (by rw [unhide hq, unhide ha]; rfl), hide ⟨hr, unhide ho, unhide hu⟩, hide ((unhide hB).trans hbt)⟩
          case measure => simp [intOf]; omega
      · replace hb := hide (hb h0)
        clear ha
        have h0' : (er == 0) = false := by simpa using h0
        go_wp2_with (first
          | (go_at_call 79; refine (unhide hN1).mono ?_; rintro e w1 ⟨rfl, hr, hbt⟩)
          | fail)
        go_ret2
        exact ⟨.inr ⟨by rw [unhide hq]; exact unhide hb, er, h0, rfl⟩, (unhide hB).trans hbt⟩
    · obtain rfl : j = k := by omega
      have hq2 : treeR t c j 1 r = some (m, r1) := by rw [unhide hq, Nat.sub_self]; rfl
      replace hq2 := hide hq2
      have hj8 : (j : Int) ≤ 8 := by omega
      clear hq hlt hm
      go_wp2_with fail
      have p0 : (0 : Int) ≤ 2 ^ j := Int.pow_nonneg (by omega)
      have p1 : wrap64 ((2 : Int) ^ j) = 2 ^ j := IntWalk.wrap64_in _ (by omega)
      have p2 : wrap64 ((m : Int) - 2 ^ j) = (m : Int) - 2 ^ j := IntWalk.wrap64_in _ (by omega)
      go_ret2
      exact ⟨.inl ⟨m, r1, unhide hq2, ret_ii rfl rfl (by rw [p1, p2]) rfl, unhide hR⟩, unhide hB⟩

theorem readNum_some (base g gc cc gt ct k : Nat) (c : Int) (r : Rdr) (t : List Int) (m : Nat) (r' : Rdr) (h : treeR t c k 1 r = some (m, r')) (w : World) (hW : Rd1 base g gc cc gt ct w r t) (ht : okB t) (hl : t.length ≤ 1000000) (hk : k ≤ 8) (hc : 0 ≤ c ∧ c ≤ 528) :
    Calls Tryd.prog 81 #[.pointer (some ⟨g, 0, none⟩), .int .i64 k, .int .i64 c] w fun e w' => e = .returned (.tuple #[.int .i64 ((m : Int) - 2 ^ k), .int .i64 0]) ∧ Rd1 base g gc cc gt ct w' r' t ∧ But [g, gc] w w' :=
  (readNum_any base g gc cc gt ct k c r t w hW ht hl hk hc).mono fun e w' ⟨ho, hb⟩ => by
    rcases ho with ⟨m', r2, h1, h2, h3⟩ | ⟨h1, _⟩
    · rw [h] at h1
      injection h1 with h1
      injection h1 with e1 e2
      subst e1 e2
      exact ⟨h2, h3, hb⟩
    · rw [h] at h1; cases h1
theorem readNum_none (base g gc cc gt ct k : Nat) (c : Int) (r : Rdr) (t : List Int) (h : treeR t c k 1 r = none) (w : World) (hW : Rd1 base g gc cc gt ct w r t) (ht : okB t) (hl : t.length ≤ 1000000) (hk : k ≤ 8) (hc : 0 ≤ c ∧ c ≤ 528) :
    Calls Tryd.prog 81 #[.pointer (some ⟨g, 0, none⟩), .int .i64 k, .int .i64 c] w fun e w' => ∃ er : Int, (er == 0) = false ∧ e = .returned (.tuple #[.int .i64 0, .int .i64 er]) ∧ But [g, gc] w w' :=
  (readNum_any base g gc cc gt ct k c r t w hW ht hl hk hc).mono fun e w' ⟨ho, hb⟩ => by
    rcases ho with ⟨m', r2, h1, h2, h3⟩ | ⟨_, er, h1, h2⟩
    · rw [h] at h1; cases h1
    · exact ⟨er, by simpa using h1, h2, hb⟩
end Go.Proofs.YthkccpemgmpadaaDoor.P

namespace Go.Proofs.YthkccpemgmpadaaDoor.P
set_option maxRecDepth 100000
open Go.RowKit

section
variable {base g gc cc gt ct : Nat} {w w' : World} {r : Rdr} {t : List Int}
theorem Rd1.alloc (h : Rd1 base g gc cc gt ct w r t) (o : Obj) : Rd1 base g gc cc gt ct (w.alloc o) r t := ⟨h.rd.alloc o, h.ok, h.used⟩
theorem Rd1.below (h : Rd1 base g gc cc gt ct w r t) (hb : Below w.heap.size w w') : Rd1 base g gc cc gt ct w' r t := ⟨h.rd.below hb, h.ok, h.used⟩
end
theorem Rdg.lt {base g gc cc gt ct : Nat} {w : World} {r : Rdr} {t : List Int} (h : Rdg base g gc cc gt ct w r t) (hc : 0 < r.c.length) : g < w.heap.size ∧ gc < w.heap.size := by
  refine ⟨h.blk.lt, ?_⟩
  obtain ⟨g', cur, e, _, hb⟩ := own_pos h.c hc
  injection e with e; injection e with e
  subst e
  exact hb.lt

theorem ret_tk {fn : Func} {p u : Tmp} {R : Ending → World → Prop} {a : Act} {w : World} (h : fn.results = #[.cell p 91, .tmp u]) (g : Nat) (x y z v : Value)
    (hp : a.tmps.getD p undef = .pointer (some ⟨g, 0, none⟩)) (hu : a.tmps.getD u undef = v) (hg : Blk w g 91 #[x, y, z]) (hd : a.defers = []) (hR : R (.returned (.tuple #[.agg #[x, y, z], v])) w) : bodyPost Tryd.prog fn R .ret a w := M.ret_tk h g x y z v hp hu hg hd hR
theorem but_new {w w' : World} {g gc gb : Nat} {o : Obj} {cs : Array Value} (hb : But [g, gc] (w.alloc o) w') (h1 : g < w.heap.size) (h2 : gc < w.heap.size) (hgb : gb = w.heap.size) (hB : Blk (w.alloc o) gb 91 cs) : Blk w' gb 91 cs ∧ But [g, gc] w w' :=
  ⟨hB.but hb (by simp; omega), ((But.refl _ _).alloc o).trans hb⟩

theorem But.far {S : List Nat} {a b : World} (h : But S a b) {p : Addr} (hp : a.heap.size ≤ p.block) (u : Value) : But S a (b.setCell p u) :=
  ⟨h.os, h.tape, h.output, by simpa [World.setCell] using h.size, fun k hk hS => (Below.heap_setCell _ _ _ _ (by omega)).trans (h.block k hk hS)⟩
theorem But.set3 {S : List Nat} {a b : World} (h : But S a b) {gb : Nat} (hp : a.heap.size ≤ gb) (x y z : Value) : But S a (((b.setCell ⟨gb, 0, none⟩ x).setCell ⟨gb, 1, none⟩ y).setCell ⟨gb, 2, none⟩ z) := ((h.far hp x).far hp y).far hp z
theorem Rdg.set1 {base g gc cc gt ct : Nat} {w : World} {r : Rdr} {t : List Int} {gb : Nat} {cs : Array Value} (h : Rdg base g gc cc gt ct w r t) (hB : Blk w gb 91 cs) (i : Nat) (u : Value) : Rdg base g gc cc gt ct (w.setCell ⟨gb, i, none⟩ u) r t :=
  ⟨h.blk.far (h.blk.ne_ hB (by decide)) u, own_far h.c hB (by decide) i u, own_far h.text hB (by decide) i u⟩
theorem Rd1.set3 {base g gc cc gt ct : Nat} {w : World} {r : Rdr} {t : List Int} {gb : Nat} {a b c : Value} (h : Rd1 base g gc cc gt ct w r t) (hB : Blk w gb 91 #[a, b, c]) (x y z : Value) : Rd1 base g gc cc gt ct (((w.setCell ⟨gb, 0, none⟩ x).setCell ⟨gb, 1, none⟩ y).setCell ⟨gb, 2, none⟩ z) r t :=
  ⟨((h.rd.set1 hB 0 x).set1 (hB.set 0 x) 1 y).set1 ((hB.set 0 x).set 1 y) 2 z, h.ok, h.used⟩

section
variable (base g gc cc gt ct : Nat) (r : Rdr) (t : List Int) (w : World) (hW : Rd1 base g gc cc gt ct w r t) (ht : okB t) (hl : t.length ≤ 1000000) (hcl : 0 < r.c.length)
set_option maxHeartbeats 1000000 in
include hW ht hl hcl in
theorem readAgain_none1 (h : treeR t 256 4 1 r = none) :
    Calls Tryd.prog 80 #[.pointer (some ⟨g, 0, none⟩)] w fun e w' => ∃ er : Int, (er == 0) = false ∧ e = .returned (.tuple #[tkV ⟨0, 0, 0⟩, .int .i64 er]) ∧ But [g, gc] w w' := by
  have hN1 := fun (W : World) (k : Rd1 base g gc cc gt ct W r t) => readNum_none base g gc cc gt ct 4 256 r t h W k ht hl (by omega) (by omega)
  obtain ⟨hg1, hg2⟩ := hW.rd.lt hcl
  replace hN1 := hide hN1; replace hW := hide hW; replace hg1 := hide hg1; replace hg2 := hide hg2
  clear hcl h
  go_enter Tryd.func80, Tryd.ntmps80
  go_wp2_with (first
    | (go_at_call 81; refine (unhide hN1 _ ((unhide hW).alloc _)).mono ?_; rintro e w1 ⟨er, he, rfl, hb1⟩
       obtain ⟨K1, B1⟩ := but_new hb1 (unhide hg1) (unhide hg2) rfl (Blk.new (cs := #[.int .u8 0, .int .i64 0, .int .i64 0]) rfl)
       have y0 := K1.lt
       have q0 := K1.cell 0; have q1 := K1.cell 1; have q2 := K1.cell 2
       have f0 := K1.frozen 0; have f1 := K1.frozen 1; have f2 := K1.frozen 2
       simp at q0 q1 q2
       clear hb1)
    | fail)
  exact ret_tk rfl w.heap.size (.int .u8 0) (.int .i64 0) (.int .i64 0) (.int .i64 er) rfl rfl K1.set3 rfl ⟨er, he, rfl, B1.set3 (Nat.le_refl _) _ _ _⟩

set_option maxHeartbeats 1000000 in
include hW ht hl hcl in
theorem readAgain_two (m : Nat) (r1 : Rdr) (h : treeR t 256 4 1 r = some (m, r1)) :
    Calls Tryd.prog 80 #[.pointer (some ⟨g, 0, none⟩)] w fun e w' =>
      ((∃ q r', treeR t 272 8 1 r1 = some (q, r') ∧ e = .returned (.tuple #[tkV ⟨0, (m : Int) - 16 + 3, (q : Int) - 256 + 1⟩, .int .i64 0]) ∧ Rd1 base g gc cc gt ct w' r' t) ∨ (treeR t 272 8 1 r1 = none ∧ ∃ er : Int, (er == 0) = false ∧ e = .returned (.tuple #[tkV ⟨0, 0, 0⟩, .int .i64 er]))) ∧ But [g, gc] w w' := by
  have hN1 := fun (W : World) (k : Rd1 base g gc cc gt ct W r t) => readNum_some base g gc cc gt ct 4 256 r t m r1 h W k ht hl (by omega) (by omega)
  have hge := treeR_ge 4 1 h
  simp at hge
  obtain ⟨hg1, hg2⟩ := hW.rd.lt hcl
  have hb4 : (m : Int) - 2 ^ 4 = (m : Int) - 16 := by omega
  rw [show ((4 : Nat) : Int) = 4 from rfl, hb4] at hN1
  cases h2 : treeR t 272 8 1 r1 with
  | none =>
    have hN2 := fun (W : World) (k : Rd1 base g gc cc gt ct W r1 t) => readNum_none base g gc cc gt ct 8 272 r1 t h2 W k ht hl (by omega) (by omega)
    replace hN1 := hide hN1; replace hN2 := hide hN2; replace hW := hide hW; replace hg1 := hide hg1; replace hg2 := hide hg2
    clear hcl h h2
    have tk0 : True := trivial
    go_enter Tryd.func80, Tryd.ntmps80
    go_wp2_with (first
      | (have _t := tk0; go_at_call 81; clear tk0 _t; refine (unhide hN1 _ ((unhide hW).alloc _)).mono ?_; rintro e w1 ⟨rfl, R1, hb1⟩
         obtain ⟨K1, B1⟩ := but_new hb1 (unhide hg1) (unhide hg2) rfl (Blk.new (cs := #[.int .u8 0, .int .i64 0, .int .i64 0]) rfl)
         replace R1 := hide R1; replace K1 := hide K1; replace B1 := hide B1
         clear hb1)
      | (go_at_call 81; refine (unhide hN2 _ (unhide R1)).mono ?_; rintro e w2 ⟨er, he, rfl, hb2⟩
         have K2 := (unhide K1).but hb2 (by have := unhide hg1; have := unhide hg2; simp; omega)
         have B2 := (unhide B1).trans hb2
         have y0 := K2.lt
         have q0 := K2.cell 0; have q1 := K2.cell 1; have q2 := K2.cell 2
         have f0 := K2.frozen 0; have f1 := K2.frozen 1; have f2 := K2.frozen 2
         simp at q0 q1 q2
         clear hb2)
      | fail)
    exact ret_tk rfl w.heap.size (.int .u8 0) (.int .i64 0) (.int .i64 0) (.int .i64 er) rfl rfl K2.set3 rfl ⟨.inr ⟨by simp, er, he, rfl⟩, B2.set3 (Nat.le_refl _) _ _ _⟩
  | some x =>
    obtain ⟨q, r2⟩ := x
    have hN2 := fun (W : World) (k : Rd1 base g gc cc gt ct W r1 t) => readNum_some base g gc cc gt ct 8 272 r1 t q r2 h2 W k ht hl (by omega) (by omega)
    have hge2 := treeR_ge 8 1 h2
    simp at hge2
    have hb8 : (q : Int) - 2 ^ 8 = (q : Int) - 256 := by omega
    rw [show ((8 : Nat) : Int) = 8 from rfl, hb8] at hN2
    replace hN1 := hide hN1; replace hN2 := hide hN2; replace hW := hide hW; replace hg1 := hide hg1; replace hg2 := hide hg2
    clear hcl h h2 hb4 hb8
    have tk0 : True := trivial
    go_enter Tryd.func80, Tryd.ntmps80
    go_wp2_with (first
      | (have _t := tk0; go_at_call 81; clear tk0 _t; refine (unhide hN1 _ ((unhide hW).alloc _)).mono ?_; rintro e w1 ⟨rfl, R1, hb1⟩
         obtain ⟨K1, B1⟩ := but_new hb1 (unhide hg1) (unhide hg2) rfl (Blk.new (cs := #[.int .u8 0, .int .i64 0, .int .i64 0]) rfl)
         replace R1 := hide R1; replace K1 := hide K1; replace B1 := hide B1
         clear hb1)
      | (go_at_call 81; refine (unhide hN2 _ (unhide R1)).mono ?_; rintro e w2 ⟨rfl, R2, hb2⟩
         have K2 := (unhide K1).but hb2 (by have := unhide hg1; have := unhide hg2; simp; omega)
         have B2 := (unhide B1).trans hb2
         have y0 := K2.lt
         have q0 := K2.cell 0; have q1 := K2.cell 1; have q2 := K2.cell 2
         have f0 := K2.frozen 0; have f1 := K2.frozen 1; have f2 := K2.frozen 2
         simp at q0 q1 q2
         clear hb2)
      | fail)
    exact ret_tk rfl w.heap.size (.int .u8 0) (.int .i64 ((m : Int) - 16 + 3)) (.int .i64 ((q : Int) - 256 + 1)) (.int .i64 0) rfl rfl K2.set3 rfl ⟨.inl ⟨q, r2, rfl, rfl, R2.set3 K2 _ _ _⟩, B2.set3 (Nat.le_refl _) _ _ _⟩
end
end Go.Proofs.YthkccpemgmpadaaDoor.P
