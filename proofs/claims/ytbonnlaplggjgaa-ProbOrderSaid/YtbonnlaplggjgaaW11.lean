import Derived.Test.YtbonnlaplggjgaaW10
namespace Go.Proofs.Ytbonnlaplggjgaa
open Go.RowKit

/-- A cell of a row of the call's own is written. -/
theorem own_put {w : World} {base g n cap k : Nat} {e : TypeId} {xs : List Value} (h : w.ownsRow base e 1 (.slice (some ⟨g, 0, none⟩) n cap) n xs) (u : Value) :
    (w.setCell ⟨g, k, none⟩ u).ownsRow base e 1 (.slice (some ⟨g, 0, none⟩) n cap) n (xs.set k u) := by
  obtain ⟨h1, h2⟩ := h
  refine ⟨by rw [List.length_set]; exact h1, ?_⟩
  rcases h2 with ⟨h2, _⟩ | ⟨g', cap', cur, hv, hb, hh, r1, r2, r3, r4⟩
  · cases h2
  · injection hv with e1 _ e3
    injection e1 with e1
    injection e1 with e1
    subst e1 e3
    refine .inr ⟨g, cap, cur.setIfInBounds k u, rfl, hb, heap_setCell_same w g k cur e u hh, r1, r2, by simpa using r3, ?_⟩
    rw [Array.toList_setIfInBounds, List.take_set, r4]
theorem own_pos {w : World} {base n : Nat} {e : TypeId} {A : Option Addr} {c : Nat} {xs : List Value} (h : w.ownsRow base e 1 (.slice A n c) n xs) (h0 : 0 < n) :
    ∃ g cur, A = some ⟨g, 0, none⟩ ∧ base ≤ g ∧ Blk w g e cur ∧ n ≤ cur.size ∧ ∀ k, k < n → cur[k]? = xs[k]? := by
  obtain ⟨h1, h2⟩ := h
  rcases h2 with ⟨h2, h3⟩ | ⟨g', cap', cur, hv, hb, hh, r1, r2, r3, r4⟩
  · omega
  · injection hv with e1 _ e3
    refine ⟨g', cur, e1, hb, hh, by omega, fun k hk => ?_⟩
    subst r4
    rw [List.getElem?_take, if_pos (by omega), Array.getElem?_toList]
theorem iv_get (l : List Int) (i : Nat) (h : i < l.length) : (l.flatMap ivc)[i]? = some (.int .i64 (l.getD i 0)) := by
  have := flat_get ivc_len l i h 0 (by omega)
  rw [Nat.mul_one, Nat.add_zero] at this
  rw [this, List.getD_eq_getElem?_getD, List.getElem?_eq_getElem h]; rfl
theorem iv_set (l : List Int) (i : Nat) (y : Int) : (l.flatMap ivc).set i (.int .i64 y) = (l.set i y).flatMap ivc := by
  induction l generalizing i with
  | nil => rfl
  | cons x r ih =>
    cases i with
    | zero => rfl
    | succ i =>
      rw [List.set_cons_succ, List.flatMap_cons, List.flatMap_cons, ← ih]
      rfl

theorem clone1 (lo : Nat) (v : Value) (l : List Int) (w : World) (h : Is lo w.heap.size w v l) (hL : l.length ≤ 1000000) :
    Calls Try.prog 26 #[v] w fun e w' => ∃ A' c', e = .returned (.slice A' l.length c') ∧ w'.ownsRow w.heap.size 3 1 (.slice A' l.length c') l.length (l.flatMap ivc) ∧ Below w.heap.size w w' :=
  (clone0 lo v l w h hL).mono fun e w' ⟨v', he, ho, hb⟩ => by
    obtain ⟨A', c', rfl⟩ := ownsRow_form ho
    exact ⟨A', c', he, ho, hb⟩
theorem Blk.set1 {w : World} {g : Nat} {t : TypeId} {a x : Value} (h : Blk w g t #[a]) : Blk (w.setCell ⟨g, 0, none⟩ x) g t #[x] := by simpa using h.set 0 x

set_option maxHeartbeats 1000000 in
theorem All_good (lo lo' : Nat) (v v' : Value) (l : List Int) (bs : List Bit) (w : World) (h : Is lo w.heap.size w v l) (h' : Bts lo' w.heap.size w v' bs) (hok : okC l = true) (hin : bs.all (inB l.length) = true) :
    Calls Try.prog 13 #[v, v'] w fun e w' => ∃ A c, e = .returned (.tuple #[.slice A l.length c, .int .i64 0]) ∧ w'.ownsRow w.heap.size 3 1 (.slice A l.length c) l.length ((allF l bs).flatMap ivc) ∧ Below w.heap.size w w' := by
  have hC := fun W (hb : Below w.heap.size w W) => Check_any lo w.heap.size v l W (h.below hb (Nat.le_refl _))
  rw [hok, badE_t] at hC
  have hc := fun W (hb : Below w.heap.size w W) => clone1 lo v l W (h.grow hb) (by have := (okC_iff.1 hok).1; omega)
  have hf := fun g A n c W (hb : Below w.heap.size w W) hg => contains24_any g A n c lo' v' bs W (h'.grow hb) hg
  have hl1 := (okC_iff.1 hok).1
  have hlen : ∀ k, (allF l (bs.take k)).length = l.length := fun k => allF_len l _
  have hoks : ∀ k, okC (allF l (bs.take k)) = true := fun k => allF_ok hok
  have hins : ∀ k (hk : k < bs.length), inB l.length bs[k] = true := fun k hk => by
    rw [List.all_eq_true] at hin; exact hin _ (List.getElem_mem hk)
  obtain ⟨A, c, rfl, h1, h2, h3⟩ := h.open
  obtain ⟨B, d, rfl, y1, y2, y3⟩ := h'.open
  clear h h' h3
  have hbe := fun p b W h => behind_any p b W h
  obtain ⟨n, hn⟩ : ∃ n, n = l.length := ⟨_, rfl⟩
  rw [← hn] at hc hlen hins h1 hl1 hin ⊢
  rw [← hn] at hC
  replace hC := hide hC; replace hc := hide hc; replace hf := hide hf; replace y3 := hide y3; replace hok := hide hok; replace hin := hide hin; replace hbe := hide hbe; replace hlen := hide hlen; replace hoks := hide hoks; replace hins := hide hins; replace hn := hide hn
  go_enter Try.func13, Try.ntmps13
  go_wp2_with (first
    | (go_at_call 18; refine (unhide hC _ (by (repeat (first | with_reducible exact Below.refl _ _ | with_reducible assumption | with_reducible refine Below.drew ?_ | with_reducible refine bl_alloc ?_ _ | with_reducible refine bl_call ?_ (by assumption) | (focus (with_reducible refine Below.setCell ?_ ?_ _; rotate_left; focus (first | omega | (simp <;> omega)))) | fail)))).mono ?_; rintro e w1 ⟨rfl, rfl⟩)
    | (go_at_call 24; refine (unhide hf w.heap.size A n c _ (by (repeat (first | with_reducible exact Below.refl _ _ | with_reducible assumption | with_reducible refine Below.drew ?_ | with_reducible refine bl_alloc ?_ _ | with_reducible refine bl_call ?_ (by assumption) | (focus (with_reducible refine Below.setCell ?_ ?_ _; rotate_left; focus (first | omega | (simp <;> omega)))) | fail))) (by (repeat (first | with_reducible assumption | (focus (with_reducible refine Blk.new ?_; focus (simp <;> fail))) | with_reducible refine Blk.set3 (a := .int .u8 0) (b := .int .i64 0) (c := .int .i64 0) ?_ | with_reducible refine Blk.alloc ?_ _ | with_reducible refine Blk.drew ?_ | (focus (with_reducible refine Blk.far ?_ ?_ _; rotate_left; focus (first | omega | (simp <;> omega)))) | (focus (with_reducible refine Blk.below ?_ hb1 ?_; rotate_left; focus (first | omega | (simp <;> omega)))) | (focus (with_reducible refine Blk.below ?_ hb2 ?_; rotate_left; focus (first | omega | (simp <;> omega)))) | (focus (with_reducible refine Blk.below ?_ hb3 ?_; rotate_left; focus (first | omega | (simp <;> omega)))) | (focus (with_reducible refine Blk.below ?_ hb4 ?_; rotate_left; focus (first | omega | (simp <;> omega)))) | (focus (with_reducible refine Blk.below ?_ hb5 ?_; rotate_left; focus (first | omega | (simp <;> omega)))) | (focus (with_reducible refine Blk.below ?_ hb6 ?_; rotate_left; focus (first | omega | (simp <;> omega)))) | (focus (with_reducible refine Blk.below ?_ hb7 ?_; rotate_left; focus (first | omega | (simp <;> omega)))) | (focus (with_reducible refine Blk.below ?_ hb8 ?_; rotate_left; focus (first | omega | (simp <;> omega)))) | (focus (with_reducible refine Blk.below ?_ hb9 ?_; rotate_left; focus (first | omega | (simp <;> omega)))) | (focus (with_reducible refine Blk.below ?_ hb10 ?_; rotate_left; focus (first | omega | (simp <;> omega)))) | (focus (with_reducible refine Blk.below ?_ hb11 ?_; rotate_left; focus (first | omega | (simp <;> omega)))) | (focus (with_reducible refine Blk.below ?_ hb12 ?_; rotate_left; focus (first | omega | (simp <;> omega)))) | fail)))).mono ?_; rintro e w2 ⟨rfl, hb2⟩; rw [unhide hin]; obtain ⟨hc2, hf2⟩ := bcell hb2; have hz2 := hb2.size; simp at hz2; have q2 : w.heap.size < w2.heap.size := by omega)
    | (go_at_call 26; refine (unhide hc _ (by (repeat (first | with_reducible exact Below.refl _ _ | with_reducible assumption | with_reducible refine Below.drew ?_ | with_reducible refine bl_alloc ?_ _ | with_reducible refine bl_call ?_ (by assumption) | (focus (with_reducible refine Below.setCell ?_ ?_ _; rotate_left; focus (first | omega | (simp <;> omega)))) | fail)))).mono ?_; rintro e w3 ⟨A3, c3, rfl, ho3, hb3⟩; replace ho3 := hide ho3; obtain ⟨hc3, hf3⟩ := bcell hb3; have hz3 := hb3.size; have q3 : w.heap.size < w3.heap.size := by omega)
    | fail)
  replace hc3 := hide hc3; replace hf3 := hide hf3; replace hc2 := hide hc2; replace hf2 := hide hf2
  have hB : Blk (w3.setCell ⟨w.heap.size, 0, none⟩ (.slice A3 n c3)) w.heap.size 22 #[.slice A3 n c3] := (((Blk.new rfl).below hb2 (by simp)).below hb3 (by omega)).set1
  have hO : (w3.setCell ⟨w.heap.size, 0, none⟩ (.slice A3 n c3)).ownsRow w.heap.size 3 1 (.slice A3 n c3) n (l.flatMap ivc) := own_far (ownsRow_mono (unhide ho3) (by omega)) (((Blk.new rfl).below hb2 (by simp)).below hb3 (by omega)) (by decide) 0 _
  have hBel : Below w.heap.size w (w3.setCell ⟨w.heap.size, 0, none⟩ (.slice A3 n c3)) := by (repeat (first | with_reducible exact Below.refl _ _ | with_reducible assumption | with_reducible refine Below.drew ?_ | with_reducible refine bl_alloc ?_ _ | with_reducible refine bl_call ?_ (by assumption) | (focus (with_reducible refine Below.setCell ?_ ?_ _; rotate_left; focus (first | omega | (simp <;> omega)))) | fail))
  generalize w3.setCell ⟨w.heap.size, 0, none⟩ (.slice A3 n c3) = w4 at *
  replace hB := hide hB; replace hO := hide hO; replace hBel := hide hBel
  clear hb3 hc3 hf3 hz3 ho3 hb2 hc2 hf2 hz2
  go_loopw [21] (fun i wr => ∃ (k : Nat), k ≤ bs.length ∧ i = .int .i64 k ∧ Hid (Blk wr w.heap.size 22 #[.slice A3 n c3]) ∧ Hid (wr.ownsRow w.heap.size 3 1 (.slice A3 n c3) n ((allF l (bs.take k)).flatMap ivc)) ∧ Hid (Below w.heap.size w wr)) (fun i _ => bs.length - (intOf i).toNat)
  case atStart => exact ⟨0, Nat.zero_le _, rfl, hB, hO, hBel⟩
  case round =>
    obtain ⟨k, hk, rfl, hg, ho, hb⟩ := hrel
    by_cases hlt : k < bs.length
    · obtain ⟨b, off, rfl, g1, g2, z0, z1⟩ := unhide y3 k hlt
      have c0 := ((unhide hb).cell (p := ⟨b, off + k * 2, none⟩) g2).trans z0
      have c1 := ((unhide hb).cell (p := ⟨b, off + k * 2 + 1, none⟩) g2).trans z1
      have hL := unhide hlen k
      have hsn := allF_snoc l hlt
      have hx := inB_iff.1 (unhide hins k hlt)
      have hck := (okC_iff.1 (unhide hoks k)).2
      generalize allF l (bs.take k) = L at *
      obtain ⟨gr, cur, rfl, hgr, hgb, hcs, hcur⟩ := own_pos (unhide ho) (by omega)
      have hne : w.heap.size ≠ gr := (unhide hg).ne_ hgb (by decide)
      have gc : ∀ j, j < n → wr.cell? ⟨gr, j, none⟩ = some (.int .i64 (L.getD j 0)) := fun j hj => by
        rw [hgb.cell, hcur j hj, iv_get L j (by omega)]
      generalize bs[k] = x at *
      obtain ⟨xa, xb⟩ := x
      try dsimp only at c0 c1 hx hsn
      have r0 := gc xa.toNat (by omega)
      have r1 := hgb.frozen xa.toNat
      have hp : isC (L.getD xa.toNat 0) = true := hck _ (by
        rw [List.getD_eq_getElem?_getD, List.getElem?_eq_getElem (by omega)]; exact List.getElem_mem _)
      have hs : allF l (bs.take (k + 1)) = L.set xa.toNat (lrn (L.getD xa.toNat 0) xb) := hsn
      have hv := iv_set L xa.toNat (lrn (L.getD xa.toNat 0) xb)
      rw [← hs] at hv
      have hcall := fun W => unhide hbe (L.getD xa.toNat 0) xb W hp
      generalize L.getD xa.toNat 0 = p at *
      generalize lrn p xb = y at *
      have u1 : gr < wr.heap.size := hgb.lt
      have u2 : w.heap.size < wr.heap.size := (unhide hg).lt
      have g0 := (unhide hg).cell 0
      simp at g0
      obtain ⟨x0, x1⟩ := hx
      clear z0 z1 g1 hck gc hcur hgb hsn hL hcs
      replace hcall := hide hcall; replace hs := hide hs; replace hv := hide hv; replace hp := hide hp
      go_upto_region 10 with fail
      have hN : Blk (wr.alloc (.cells #[.int .i64 xa, .bool xb] 41)) wr.heap.size 41 #[.int .i64 xa, .bool xb] := Blk.new rfl
      have hG := (unhide hg).alloc (.cells #[.int .i64 xa, .bool xb] 41)
      have hOx : (wr.alloc (.cells #[.int .i64 xa, .bool xb] 41)).ownsRow w.heap.size 3 1 (.slice (some ⟨gr, 0, none⟩) n c3) n (L.flatMap ivc) := (unhide ho).alloc _
      have hBx : Below w.heap.size w (wr.alloc (.cells #[.int .i64 xa, .bool xb] 41)) := (unhide hb).alloc (by omega) _
      have e3 : (wr.alloc (.cells #[.int .i64 xa, .bool xb] 41)).cell? ⟨gr, xa.toNat, none⟩ = some (.int .i64 p) := (bcell ((Below.refl wr.heap.size wr).alloc (Nat.le_refl _) _)).1 gr _ u1 |>.trans r0
      have e4 : (wr.alloc (.cells #[.int .i64 xa, .bool xb] 41)).frozen? ⟨gr, xa.toNat, none⟩ = false := (bcell ((Below.refl wr.heap.size wr).alloc (Nat.le_refl _) _)).2 gr _ u1 |>.trans r1
      have e5 : gr < (wr.alloc (.cells #[.int .i64 xa, .bool xb] 41)).heap.size := by simp; omega
      generalize wr.alloc (.cells #[.int .i64 xa, .bool xb] 41) = wx at *
      have e0 := hN.cell 0
      have e1 := hN.cell 1
      have e2 := hG.cell 0
      simp at e0 e1 e2
      have e6 := hN.lt
      have e7 := hG.lt
      generalize wr.heap.size = gb at *
      replace hN := hide hN; replace hG := hide hG; replace hOx := hide hOx; replace hBx := hide hBx
      clear hb ho hg g0 c0 c1 r0 r1 u1 u2 g2 h1
      go_still_tail 12, (by kernel_rfl)
      refine wpStill_step (fun K hK => ?_)
      go_simp
      refine ⟨_, (unhide hcall _).mono (fun e w' h => ⟨h.1, h.2.symm⟩), hK _ ?_⟩
      clear hK K
      repeat still_step
      refine wpStill_nil ?_
      change wpList _ _ _ _ _ wx.drew
      go_wp2
      go_roundw
      case rel =>
        refine ⟨k + 1, by omega, by go_num, hide ((unhide hG).far hne _).drew, hide ?_, hide (((unhide hBx).setCell hgr _).drew)⟩
        have hw := own_put (k := xa.toNat) (unhide hOx) (.int .i64 y)
        rw [unhide hv] at hw
        exact hw
      case measure => simp [intOf]; omega
    · obtain rfl : k = bs.length := by omega
      have g0 := (unhide hg).cell 0
      simp at g0
      have u2 : w.heap.size < wr.heap.size := (unhide hg).lt
      go_wp2
      go_ret2
      have := unhide ho
      rw [List.take_length] at this
      exact ⟨A3, c3, rfl, this, unhide hb⟩
end Go.Proofs.Ytbonnlaplggjgaa
