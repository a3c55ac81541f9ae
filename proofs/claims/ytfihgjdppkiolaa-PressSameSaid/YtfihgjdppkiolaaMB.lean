import Derived.Test.YtfihgjdppkiolaaMA
import Derived.ScopeJumps
import Derived.Lib.SlBytesConst
import Derived.Laws.StructEq
namespace Go.Proofs.Ytfihgjdppkiolaa.M
set_option maxRecDepth 100000
open Go.RowKit

/-- As 'wp_scope_jumps', with one walk for the first pass and the others. -/
theorem wp_scope_jumps2 {P : Program} {a : Act} {w : World} {Q : Exit → Act → World → Prop} {c rest : Code} (l : Nat) (J : Act → World → Prop) (μ : Act → World → Nat) (hf : findLabel c l = some (Code.skip.seq rest))
    (pass : ∀ a w, J a w → rest.wp P (Exit.jump l (fun a' w' => J a' w' ∧ μ a' w' < μ a w) Q) a w)
    (first : (∀ a w, J a w → rest.wp P (Exit.jump l J Q) a w) → c.wp P (Exit.jump l J Q) a w) : (Code.scope c).wp P Q a w :=
  wp_scope_jumps l J μ hf (first fun a w h => Go.wp_mono (pass a w h) (by
    intro e a' w' hq
    cases e <;> first | exact hq | exact ⟨hq.1, hq.2.1⟩)) fun a w h => wp_seq (wp_skip (pass a w h))

theorem findR_at {l : List UInt8} {a : Nat} (h : a < l.length) (hL : l.length ≤ 65536) : findR l a = if (bestF l a (min a 256)).2 = 0 then (noT, 4) else (nextT l a, 0) := by
  unfold findR nextT
  rw [if_neg (by omega), if_neg (by omega), Int.toNat_natCast]
  split <;> rfl
theorem tk_src {w : World} {g : Nat} {t : Tok} (h : Blk w g 40 #[.int .u8 (n8 t.lit), .int .i64 t.len, .int .i64 t.dist]) : SrcOk w (some ⟨g, 0, none⟩) 1 (tkv t) := by
  refine fun _ => ⟨_, rfl, fun j u hu => ?_⟩
  have key : w.cell? ⟨g, j, none⟩ = some u := by
    rw [h.cell, ← hu]
    match j with
    | 0 => rfl
    | 1 => rfl
    | 2 => rfl
    | j + 3 => rfl
  unfold Addr.add
  split
  · rename_i h0; subst h0; exact key
  · rw [Nat.zero_add]; exact key
theorem tk_src' {w : World} {g : Nat} {o : UInt8} {n d : Int} (h : Blk w g 40 #[.int .u8 (n8 o), .int .i64 n, .int .i64 d]) : SrcOk w (some ⟨g, 0, none⟩) 1 (tkv ⟨o, n, d⟩) := tk_src (t := ⟨o, n, d⟩) h
theorem tkv_one (t : Tok) : ∀ u ∈ tkv t, u.oneCell' = true := by
  intro u hu
  simp [tkv] at hu
  rcases hu with rfl | rfl | rfl <;> rfl
theorem flat_snoc (ts : List Tok) (t : Tok) : ts.flatMap tkv ++ tkv t = (ts ++ [t]).flatMap tkv := by simp

theorem Blk.grown {w w' : World} {g : Nat} {t : TypeId} {cs : Array Value} {row : Option Nat} (h : Blk w g t cs) (hg : w.grownBy w' row) (hne : some g ≠ row) : Blk w' g t cs := (hg.block g h.lt hne).trans h
theorem vb_ne {B g : Nat} {v : Value} (h : VBelow B v) (hg : B ≤ g) : some g ≠ v.ownBlock := by
  intro e
  unfold Value.ownBlock at e
  split at e
  · rename_i a n c; have := h a n c rfl; injection e with e; omega
  · cases e

/-- What holds at Tokens' label. -/
def TokJ (l : List UInt8) (A : Option Addr) (c : Nat) (w0 : World) (a : Act) (w : World) : Prop :=
  ∃ (I : Int) (at_ k n c' : Nat) (ts : List Tok) (A' : Option Addr) (u1 u6 u7 u8 u9 u10 u11 u12 u13 u14 u15 u16 u17 u18 u19 u20 u21 u22 u23 u24 u25 u26 u27 u28 u29 u30 u31 u32 u33 u34 u35 u36 : Value), a = ⟨#[.slice A l.length c, u1, .slice none 0 0, .int .i64 0, .slice A' n c', .int .i64 I, u6, u7, u8, u9, u10, u11, u12, u13, u14, u15, u16, u17, u18, u19, u20, u21, u22, u23, u24, u25, u26, u27, u28, u29, u30, u31, u32, u33, u34, u35, u36], []⟩ ∧
    I = (at_ : Int) ∧ at_ ≤ l.length ∧ l.length ≤ at_ + k ∧ toksB l = ts ++ toksF l k at_ ∧ ts.length = n ∧ n ≤ at_ ∧ w.ownsRow w0.heap.size 40 3 (.slice A' n c') n (ts.flatMap tkv) ∧ Below w0.heap.size w0 w

theorem TokJ.next {l : List UInt8} {at_ k : Nat} {ts : List Tok} (h : toksB l = ts ++ toksF l k at_) (h1 : at_ < l.length) (h2 : l.length ≤ at_ + k) :
    ∃ k', k = k' + 1 ∧ toksB l = (ts ++ [nextT l at_]) ++ toksF l k' (at_ + (sizeT (nextT l at_)).toNat) := by
  obtain ⟨k', rfl⟩ : ∃ k', k = k' + 1 := ⟨k - 1, by omega⟩
  refine ⟨k', rfl, ?_⟩
  rw [h, toksF, if_pos h1]
  simp
theorem TokJ.end {l : List UInt8} {k : Nat} {ts : List Tok} (h : toksB l = ts ++ toksF l k l.length) : toksB l = ts := by
  cases k <;> simpa [toksF] using h

set_option maxHeartbeats 4000000 in
theorem Tokens_any (lo : Nat) (v : Value) (l : List UInt8) (w : World) (h : Bs lo w.heap.size w v l) (hl : l.length ≤ 65536) :
    Calls Try.prog 24 #[v] w fun e w' => ∃ A c, e = .returned (.tuple #[.slice A (toksB l).length c, .int .i64 0]) ∧ w'.ownsRow w.heap.size 40 3 (.slice A (toksB l).length c) (toksB l).length ((toksB l).flatMap tkv) ∧ Below w.heap.size w w' := by
  obtain ⟨i0, hi0, iz0, iz1, iz2⟩ := info_parts info25
  have hf := fun (i : Int) (t : Tok) (er : Int) (W : World) (hb : Below w.heap.size w W) => Find_any lo v l i t er W (h.grow hb)
  obtain ⟨A, c, rfl, h1, h2, h3⟩ := h.open
  clear h
  replace hf := hide hf; replace h3 := hide h3
  go_enter Try.func24, Try.ntmps24
  go_wp2
  refine wp_scope_jumps2 0 (TokJ l A c w) (fun a' _ => 65537 - (intOf (a'.tmps.getD 5 undef)).toNat) rfl ?_ ?_
  · rintro a' wr ⟨I, at_, k, n, c', ts, A', u1, u6, u7, u8, u9, u10, u11, u12, u13, u14, u15, u16, u17, u18, u19, u20, u21, u22, u23, u24, u25, u26, u27, u28, u29, u30, u31, u32, u33, u34, u35, u36, rfl, hI, x1, x2, hts, hn, hna, hown, hb⟩
    by_cases hlt : at_ < l.length
    · obtain ⟨k', hk', hnx⟩ := TokJ.next hts hlt x2
      obtain ⟨hok, hdist, hsz, hs1⟩ := nextT_ok hlt
      have hs18 := (okT_size hok).2
      have hfr := findR_at hlt hl
      obtain ⟨b, off, hA, g1, g2, q1⟩ := unhide h3 at_ hlt
      subst hA
      have c1 := (hb.cell (p := ⟨b, off + at_, none⟩) g2).trans q1
      have e1 : off + at_ = off + I.toNat := by omega
      rw [e1] at c1
      have i1 : 0 ≤ I := by omega
      have i2 : I < (l.length : Int) := by omega
      have i3 : (l.length : Int) ≤ 65536 := by omega
      have y1 : b < wr.heap.size := World.block_lt_of_cell? wr _ c1
      have hnl : n + 1 ≤ maxLen := by simp only [maxLen]; omega
      have hnb : (n + 1) * 24 ≤ 140737488355328 := by omega
      have htl : (tkv (nextT l at_)).length = 1 * 3 := rfl
      have hto := tkv_one (nextT l at_)
      have hfl := flat_snoc ts (nextT l at_)
      rw [← hI] at hfr
      by_cases hbz : (bestF l at_ (min at_ 256)).2 = 0
      · have hnt : nextT l at_ = ⟨l.getD at_ 0, 0, 0⟩ := by unfold nextT; rw [if_pos hbz]
        rw [if_pos hbz] at hfr
        have hfc := unhide hf I _ _ wr hb hfr
        have hlg := fun W => long_any (nextT l at_) W
        unfold tkV at hlg
        generalize nextT l at_ = T at *
        generalize l.getD at_ 0 = x at *
        subst hnt
        have hsx : sizeT ⟨x, 0, 0⟩ = 1 := rfl
        replace hsz : (at_ : Int) + 1 ≤ l.length := hsz
        replace hnx : toksB l = ts ++ [⟨x, 0, 0⟩] ++ toksF l k' (at_ + 1) := hnx
        replace hlg : ∀ W : World, Calls Try.prog 41 #[.agg #[.int .u8 (n8 x), .int .i64 0, .int .i64 0]] W fun e w' => e = .returned (.int .i64 1) ∧ Below W.heap.size W w' := hlg
        have s1 : I + 1 ≤ l.length := by omega
        have s2 : Hid (I + 1 = ((at_ + 1 : Nat) : Int) ∧ at_ + 1 ≤ l.length ∧ l.length ≤ at_ + 1 + k' ∧ n + 1 ≤ at_ + 1) := hide (by omega)
        replace hfc := hide hfc; replace hlg := hide hlg; replace hnx := hide hnx; replace hts := hide hts; replace hn := hide hn; replace hown := hide hown; replace hb := hide hb
        replace hnl := hide hnl; replace hnb := hide hnb; replace htl := hide htl; replace hto := hide hto; replace hfl := hide hfl
        clear hbz hfr hok hdist hsz hlt x2 x1 hk' q1 e1 hI g1 g2 hsx
        go_wp2_with (first
          | (go_at_call 40; refine (unhide hfc).mono ?_; rintro e w1 ⟨rfl, hb1⟩; obtain ⟨hc1, hf1⟩ := bcell hb1; have hz1 := hb1.size; have hown1 := own_below (unhide hown) hb1 (Nat.le_refl _); have hbw1 := bl_call (unhide hb) hb1; have hbs1 := hbw1.size; have y1' : w.heap.size ≤ w1.heap.size := hbs1; have y1b : b < w1.heap.size := Nat.lt_of_lt_of_le y1 hz1; replace hown1 := hide hown1; replace hbs1 := hide hbs1)
          | (at_builtin
             refine wpList_app _ rfl (.tmp 28) (.tmp 30) 22 rfl w.heap.size 40 i0 _ 3 24 Try.underlying22 hi0 iz0 iz1 iz2 rfl (Nat.succ_pos _) _ n (ts.flatMap tkv) rfl (own_below (unhide hown1) (B := w1.heap.size) (by (repeat (first | with_reducible exact Below.refl _ _ | with_reducible assumption | with_reducible refine Below.drew ?_ | with_reducible refine bl_alloc ?_ _ | with_reducible refine bl_call ?_ (by assumption) | (focus (with_reducible refine Below.setCell ?_ ?_ _; rotate_left; focus (first | omega | (simp <;> omega)))) | fail))) (Nat.le_refl _)) (some ⟨w1.heap.size + 1, 0, none⟩) 1 1 (tkv ⟨x, 0, 0⟩) rfl (unhide htl) (tk_src' (by (repeat (first | with_reducible assumption | (focus (with_reducible refine Blk.new ?_; focus (simp <;> fail))) | with_reducible refine Blk.set3 (a := .int .u8 0) (b := .int .i64 0) (c := .int .i64 0) ?_ | with_reducible refine Blk.alloc ?_ _ | with_reducible refine Blk.drew ?_ | (focus (with_reducible refine Blk.far ?_ ?_ _; rotate_left; focus (first | omega | (simp <;> omega)))) | (focus (with_reducible refine Blk.below ?_ hb1 ?_; rotate_left; focus (first | omega | (simp <;> omega)))) | (focus (with_reducible refine Blk.below ?_ hb2 ?_; rotate_left; focus (first | omega | (simp <;> omega)))) | (focus (with_reducible refine Blk.below ?_ hb3 ?_; rotate_left; focus (first | omega | (simp <;> omega)))) | (focus (with_reducible refine Blk.below ?_ hb4 ?_; rotate_left; focus (first | omega | (simp <;> omega)))) | (focus (with_reducible refine Blk.below ?_ hb5 ?_; rotate_left; focus (first | omega | (simp <;> omega)))) | (focus (with_reducible refine Blk.below ?_ hb6 ?_; rotate_left; focus (first | omega | (simp <;> omega)))) | (focus (with_reducible refine Blk.below ?_ hb7 ?_; rotate_left; focus (first | omega | (simp <;> omega)))) | (focus (with_reducible refine Blk.below ?_ hb8 ?_; rotate_left; focus (first | omega | (simp <;> omega)))) | (focus (with_reducible refine Blk.below ?_ hb9 ?_; rotate_left; focus (first | omega | (simp <;> omega)))) | (focus (with_reducible refine Blk.below ?_ hb10 ?_; rotate_left; focus (first | omega | (simp <;> omega)))) | (focus (with_reducible refine Blk.below ?_ hb11 ?_; rotate_left; focus (first | omega | (simp <;> omega)))) | (focus (with_reducible refine Blk.below ?_ hb12 ?_; rotate_left; focus (first | omega | (simp <;> omega)))) | fail)))) (unhide hto) (unhide hnl) (unhide hnb) (by have := unhide hbs1; simp; omega) ?_
             intro v2 w2 hown2 hg2
             obtain ⟨A2, c2, rfl⟩ := ownsRow_form hown2
             rw [unhide hfl] at hown2
             have N2 : Blk w2 w1.heap.size 40 #[.int .u8 (n8 x), .int .i64 0, .int .i64 0] := Blk.grown (by (repeat (first | with_reducible assumption | (focus (with_reducible refine Blk.new ?_; focus (simp <;> fail))) | with_reducible refine Blk.set3 (a := .int .u8 0) (b := .int .i64 0) (c := .int .i64 0) ?_ | with_reducible refine Blk.alloc ?_ _ | with_reducible refine Blk.drew ?_ | (focus (with_reducible refine Blk.far ?_ ?_ _; rotate_left; focus (first | omega | (simp <;> omega)))) | (focus (with_reducible refine Blk.below ?_ hb1 ?_; rotate_left; focus (first | omega | (simp <;> omega)))) | (focus (with_reducible refine Blk.below ?_ hb2 ?_; rotate_left; focus (first | omega | (simp <;> omega)))) | (focus (with_reducible refine Blk.below ?_ hb3 ?_; rotate_left; focus (first | omega | (simp <;> omega)))) | (focus (with_reducible refine Blk.below ?_ hb4 ?_; rotate_left; focus (first | omega | (simp <;> omega)))) | (focus (with_reducible refine Blk.below ?_ hb5 ?_; rotate_left; focus (first | omega | (simp <;> omega)))) | (focus (with_reducible refine Blk.below ?_ hb6 ?_; rotate_left; focus (first | omega | (simp <;> omega)))) | (focus (with_reducible refine Blk.below ?_ hb7 ?_; rotate_left; focus (first | omega | (simp <;> omega)))) | (focus (with_reducible refine Blk.below ?_ hb8 ?_; rotate_left; focus (first | omega | (simp <;> omega)))) | (focus (with_reducible refine Blk.below ?_ hb9 ?_; rotate_left; focus (first | omega | (simp <;> omega)))) | (focus (with_reducible refine Blk.below ?_ hb10 ?_; rotate_left; focus (first | omega | (simp <;> omega)))) | (focus (with_reducible refine Blk.below ?_ hb11 ?_; rotate_left; focus (first | omega | (simp <;> omega)))) | (focus (with_reducible refine Blk.below ?_ hb12 ?_; rotate_left; focus (first | omega | (simp <;> omega)))) | fail))) hg2 (vb_ne (own_vbelow (unhide hown1)) (Nat.le_refl _))
             have n20 := N2.cell 0
             have n21 := N2.cell 1
             have n22 := N2.cell 2
             simp at n20 n21 n22
             have y2 : w1.heap.size < w2.heap.size := N2.lt
             have hb2 : Below w.heap.size w w2 := bl_grown (by (repeat (first | with_reducible exact Below.refl _ _ | with_reducible assumption | with_reducible refine Below.drew ?_ | with_reducible refine bl_alloc ?_ _ | with_reducible refine bl_call ?_ (by assumption) | (focus (with_reducible refine Below.setCell ?_ ?_ _; rotate_left; focus (first | omega | (simp <;> omega)))) | fail))) hg2 (own_base (unhide hown1))
             replace hown2 := hide hown2; replace hb2 := hide hb2)
          | (go_at_call 41; refine (unhide hlg _).mono ?_; rintro e w3 ⟨rfl, hb3⟩)
          | fail)
        go_step3
        obtain ⟨z1, z2, z3, z4⟩ := unhide s2
        have hl2 : (ts ++ [(⟨x, 0, 0⟩ : Tok)]).length = n + 1 := by rw [List.length_append, unhide hn]; rfl
        refine ⟨rfl, ⟨I + 1, at_ + 1, k', n + 1, c2, ts ++ [⟨x, 0, 0⟩], A2, u1, _, _, _, _, _, _, _, _, _, _, _, _, _, _, _, _, _, _, _, _, _, _, _, _, _, _, _, _, _, _, _, rfl, z1, z2, z3, unhide hnx, hl2, z4, own_below (unhide hown2) hb3 (Nat.le_refl _), bl_call (unhide hb2) hb3⟩, ?_⟩
        simp [intOf]
        omega
      · rw [if_neg hbz] at hfr
        have hfc := unhide hf I _ _ wr hb hfr
        have hlg := fun W => long_any (nextT l at_) W
        unfold tkV at hlg
        generalize nextT l at_ = t at *
        have s1 : I + sizeT t ≤ l.length := by omega
        have s2 : Hid (I + sizeT t = ((at_ + (sizeT t).toNat : Nat) : Int) ∧ at_ + (sizeT t).toNat ≤ l.length ∧ l.length ≤ at_ + (sizeT t).toNat + k' ∧ n + 1 ≤ at_ + (sizeT t).toNat) := hide (by omega)
        replace hfc := hide hfc; replace hlg := hide hlg; replace hnx := hide hnx; replace hts := hide hts; replace hn := hide hn; replace hown := hide hown; replace hb := hide hb
        replace hnl := hide hnl; replace hnb := hide hnb; replace htl := hide htl; replace hto := hide hto; replace hfl := hide hfl
        clear hbz hfr hok hdist hsz hlt x2 x1 hk' q1 c1 e1 hI g1 g2
        go_wp2_with (first
          | (go_at_call 40; refine (unhide hfc).mono ?_; rintro e w1 ⟨rfl, hb1⟩; obtain ⟨hc1, hf1⟩ := bcell hb1; have hz1 := hb1.size; have hown1 := own_below (unhide hown) hb1 (Nat.le_refl _); have hbw1 := bl_call (unhide hb) hb1; have hbs1 := hbw1.size; have y1' : w.heap.size ≤ w1.heap.size := hbs1; have y1b : b < w1.heap.size := Nat.lt_of_lt_of_le y1 hz1; replace hown1 := hide hown1; replace hbs1 := hide hbs1)
          | (at_builtin
             refine wpList_app _ rfl (.tmp 28) (.tmp 30) 22 rfl w.heap.size 40 i0 _ 3 24 Try.underlying22 hi0 iz0 iz1 iz2 rfl (Nat.succ_pos _) _ n (ts.flatMap tkv) rfl (own_below (unhide hown1) (B := w1.heap.size) (by (repeat (first | with_reducible exact Below.refl _ _ | with_reducible assumption | with_reducible refine Below.drew ?_ | with_reducible refine bl_alloc ?_ _ | with_reducible refine bl_call ?_ (by assumption) | (focus (with_reducible refine Below.setCell ?_ ?_ _; rotate_left; focus (first | omega | (simp <;> omega)))) | fail))) (Nat.le_refl _)) (some ⟨w1.heap.size + 1, 0, none⟩) 1 1 (tkv t) rfl (unhide htl) (tk_src (by (repeat (first | with_reducible assumption | (focus (with_reducible refine Blk.new ?_; focus (simp <;> fail))) | with_reducible refine Blk.set3 (a := .int .u8 0) (b := .int .i64 0) (c := .int .i64 0) ?_ | with_reducible refine Blk.alloc ?_ _ | with_reducible refine Blk.drew ?_ | (focus (with_reducible refine Blk.far ?_ ?_ _; rotate_left; focus (first | omega | (simp <;> omega)))) | (focus (with_reducible refine Blk.below ?_ hb1 ?_; rotate_left; focus (first | omega | (simp <;> omega)))) | (focus (with_reducible refine Blk.below ?_ hb2 ?_; rotate_left; focus (first | omega | (simp <;> omega)))) | (focus (with_reducible refine Blk.below ?_ hb3 ?_; rotate_left; focus (first | omega | (simp <;> omega)))) | (focus (with_reducible refine Blk.below ?_ hb4 ?_; rotate_left; focus (first | omega | (simp <;> omega)))) | (focus (with_reducible refine Blk.below ?_ hb5 ?_; rotate_left; focus (first | omega | (simp <;> omega)))) | (focus (with_reducible refine Blk.below ?_ hb6 ?_; rotate_left; focus (first | omega | (simp <;> omega)))) | (focus (with_reducible refine Blk.below ?_ hb7 ?_; rotate_left; focus (first | omega | (simp <;> omega)))) | (focus (with_reducible refine Blk.below ?_ hb8 ?_; rotate_left; focus (first | omega | (simp <;> omega)))) | (focus (with_reducible refine Blk.below ?_ hb9 ?_; rotate_left; focus (first | omega | (simp <;> omega)))) | (focus (with_reducible refine Blk.below ?_ hb10 ?_; rotate_left; focus (first | omega | (simp <;> omega)))) | (focus (with_reducible refine Blk.below ?_ hb11 ?_; rotate_left; focus (first | omega | (simp <;> omega)))) | (focus (with_reducible refine Blk.below ?_ hb12 ?_; rotate_left; focus (first | omega | (simp <;> omega)))) | fail)))) (unhide hto) (unhide hnl) (unhide hnb) (by have := unhide hbs1; simp; omega) ?_
             intro v2 w2 hown2 hg2
             obtain ⟨A2, c2, rfl⟩ := ownsRow_form hown2
             rw [unhide hfl] at hown2
             have N2 : Blk w2 w1.heap.size 40 #[.int .u8 (n8 t.lit), .int .i64 t.len, .int .i64 t.dist] := Blk.grown (by (repeat (first | with_reducible assumption | (focus (with_reducible refine Blk.new ?_; focus (simp <;> fail))) | with_reducible refine Blk.set3 (a := .int .u8 0) (b := .int .i64 0) (c := .int .i64 0) ?_ | with_reducible refine Blk.alloc ?_ _ | with_reducible refine Blk.drew ?_ | (focus (with_reducible refine Blk.far ?_ ?_ _; rotate_left; focus (first | omega | (simp <;> omega)))) | (focus (with_reducible refine Blk.below ?_ hb1 ?_; rotate_left; focus (first | omega | (simp <;> omega)))) | (focus (with_reducible refine Blk.below ?_ hb2 ?_; rotate_left; focus (first | omega | (simp <;> omega)))) | (focus (with_reducible refine Blk.below ?_ hb3 ?_; rotate_left; focus (first | omega | (simp <;> omega)))) | (focus (with_reducible refine Blk.below ?_ hb4 ?_; rotate_left; focus (first | omega | (simp <;> omega)))) | (focus (with_reducible refine Blk.below ?_ hb5 ?_; rotate_left; focus (first | omega | (simp <;> omega)))) | (focus (with_reducible refine Blk.below ?_ hb6 ?_; rotate_left; focus (first | omega | (simp <;> omega)))) | (focus (with_reducible refine Blk.below ?_ hb7 ?_; rotate_left; focus (first | omega | (simp <;> omega)))) | (focus (with_reducible refine Blk.below ?_ hb8 ?_; rotate_left; focus (first | omega | (simp <;> omega)))) | (focus (with_reducible refine Blk.below ?_ hb9 ?_; rotate_left; focus (first | omega | (simp <;> omega)))) | (focus (with_reducible refine Blk.below ?_ hb10 ?_; rotate_left; focus (first | omega | (simp <;> omega)))) | (focus (with_reducible refine Blk.below ?_ hb11 ?_; rotate_left; focus (first | omega | (simp <;> omega)))) | (focus (with_reducible refine Blk.below ?_ hb12 ?_; rotate_left; focus (first | omega | (simp <;> omega)))) | fail))) hg2 (vb_ne (own_vbelow (unhide hown1)) (Nat.le_refl _))
             have n20 := N2.cell 0
             have n21 := N2.cell 1
             have n22 := N2.cell 2
             simp at n20 n21 n22
             have y2 : w1.heap.size < w2.heap.size := N2.lt
             have hb2 : Below w.heap.size w w2 := bl_grown (by (repeat (first | with_reducible exact Below.refl _ _ | with_reducible assumption | with_reducible refine Below.drew ?_ | with_reducible refine bl_alloc ?_ _ | with_reducible refine bl_call ?_ (by assumption) | (focus (with_reducible refine Below.setCell ?_ ?_ _; rotate_left; focus (first | omega | (simp <;> omega)))) | fail))) hg2 (own_base (unhide hown1))
             replace hown2 := hide hown2; replace hb2 := hide hb2)
          | (go_at_call 41; refine (unhide hlg _).mono ?_; rintro e w3 ⟨rfl, hb3⟩)
          | fail)
        go_step3
        obtain ⟨z1, z2, z3, z4⟩ := unhide s2
        have hl2 : (ts ++ [t]).length = n + 1 := by rw [List.length_append, unhide hn]; rfl
        refine ⟨rfl, ⟨I + sizeT t, at_ + (sizeT t).toNat, k', n + 1, c2, ts ++ [t], A2, u1, _, _, _, _, _, _, _, _, _, _, _, _, _, _, _, _, _, _, _, _, _, _, _, _, _, _, _, _, _, _, _, rfl, z1, z2, z3, unhide hnx, hl2, z4, own_below (unhide hown2) hb3 (Nat.le_refl _), bl_call (unhide hb2) hb3⟩, ?_⟩
        simp [intOf]
        omega
    · obtain rfl : at_ = l.length := by omega
      have ht := TokJ.end hts
      subst ht
      replace hown := hide hown; replace hb := hide hb; replace hts := hide hts; replace hn := hide hn
      have hI' : (l.length : Int) ≤ I := by omega
      clear hI
      go_wp2_with fail
      simp only [Exit.jump]
      go_ret2
      rw [unhide hn]
      exact ⟨A', c', rfl, unhide hown, unhide hb⟩
  · intro hp
    replace hp := hide hp
    go_wp2
    go_step3
    simp only [Exit.then]
    rename_i K1 hK1
    refine hK1 _ _ ?_
    refine unhide hp _ _ ⟨0, 0, l.length, 0, 0, [], none, undef, _, _, _, _, _, _, _, _, _, _, _, _, _, _, _, _, _, _, _, _, _, _, _, _, _, _, _, _, _, _, _, rfl, rfl, Nat.zero_le _, by omega, rfl, rfl, Nat.le_refl _, World.ownsRow_nil _ _ _ _, Below.refl _ _⟩
end Go.Proofs.Ytfihgjdppkiolaa.M

namespace Go.Proofs.Ytfihgjdppkiolaa.M
set_option maxRecDepth 100000
open Go.RowKit

theorem tok_if {s t : Tok} (W : World) : (if n8 s.lit = n8 t.lit then if s.len = t.len then if s.dist = t.dist then Result.ok true W else Result.ok false W else Result.ok false W else Result.ok false W) = Result.ok (decide (s = t)) W := by
  by_cases h : s = t
  · subst h; simp
  · rw [decide_eq_false h]
    split
    · split
      · split
        · exact absurd (Tok.eq (n8_inj (by assumption)) (by assumption) (by assumption)) h
        · rfl
      · rfl
    · rfl
/-- Are two tokens the same? -/
def eqT (a : UInt8) (b c : Int) (a' : UInt8) (b' c' : Int) : Bool := decide ((⟨a, b, c⟩ : Tok) = ⟨a', b', c'⟩)
theorem run_eq_tok (a : UInt8) (b c : Int) (a' : UInt8) (b' c' : Int) (W : World) : (Op.equalIn 10000 40 (.agg #[.int .u8 (n8 a), .int .i64 b, .int .i64 c]) (.agg #[.int .u8 (n8 a'), .int .i64 b', .int .i64 c'])).run Try.prog W = .ok (eqT a b c a' b' c') W := by
  rw [run_equalIn_agg W 9999 40 _ _ (by kernel_rfl) (by kernel_rfl)]
  have e5 := fun (a b : Int) => run_equalIn_int W 9998 5 .u8 .u8 a b Try.underlying5
  have e3 := fun (a b : Int) => run_equalIn_int W 9998 3 .i64 .i64 a b Try.underlying3
  unfold Program.fieldsOf
  unfold eqT
  rw [← tok_if (s := ⟨a, b, c⟩) (t := ⟨a', b', c'⟩)]
  simp [Try.underlying40, Op.eqFields, part, e5, e3]
theorem guard25 : Try.prog.eqGuardType Try.prog.depth 40 = false := by kernel_rfl
theorem run_neq_tok (a : UInt8) (b c : Int) (a' : UInt8) (b' c' : Int) (W : World) : (binOp .neq 40 (.agg #[.int .u8 (n8 a), .int .i64 b, .int .i64 c]) (.agg #[.int .u8 (n8 a'), .int .i64 b', .int .i64 c'])).run Try.prog W = .ok (.bool (!eqT a b c a' b' c')) W := by
  rw [run_neq_struct, run_eq_tok]; rfl
theorem run_eql_tok (a : UInt8) (b c : Int) (a' : UInt8) (b' c' : Int) (W : World) : (binOp .eql 40 (.agg #[.int .u8 (n8 a), .int .i64 b, .int .i64 c]) (.agg #[.int .u8 (n8 a'), .int .i64 b', .int .i64 c'])).run Try.prog W = .ok (.bool (eqT a b c a' b' c')) W := by
  rw [run_eql_struct, run_eq_tok]; rfl
attribute [-go_sem] run_eql_struct run_neq_struct
attribute [local go_sem] run_neq_tok run_eql_tok guard25

set_option maxHeartbeats 400000 in
theorem sameb_any (lo hi lo' hi' : Nat) (v1 v2 : Value) (a b : List UInt8) (w : World) (h1 : Bs lo hi w v1 a) (h2 : Bs lo' hi' w v2 b) : Calls Try.prog 17 #[v1, v2] w fun e w' => e = .returned (.bool (decide (a = b))) ∧ w = w' := by
  have c1 := h1.convert
  have c2 := h2.convert
  clear h1 h2
  have hs : ((strU a).toList == (strU b).toList) = decide (a = b) := by
    have e1 : (strU a).toList = a := strU_toList a
    have e2 : (strU b).toList = b := strU_toList b
    rw [e1, e2, Bool.eq_iff_iff]; simp
  go_enter Try.func17, Try.ntmps17
  go_wp2
  go_ret
  exact ⟨rfl, rfl⟩

end Go.Proofs.Ytfihgjdppkiolaa.M
