import Derived.Test.YtbonnlaplggjgaaW17
import Derived.Test.YtbonnlaplggjgaaW12
namespace Go.Proofs.Ytbonnlaplggjgaa
open Go.RowKit

set_option maxHeartbeats 1000000 in
theorem refAll_bad (lo : Nat) (v v' : Value) (l : List Int) (w : World) (h : Is lo w.heap.size w v l) (hok : okC l = false) :
    Calls Try.prog 14 #[v, v'] w fun e w' => e = .returned (.tuple #[.slice none 0 0, .int .i64 1]) ∧ Below w.heap.size w w' := by
  have hC := fun W (hb : Below w.heap.size w W) => refCheck_any lo w.heap.size v l W (h.below hb (Nat.le_refl _))
  rw [hok, badE_f] at hC
  obtain ⟨A, c, rfl, h1, h2, h3⟩ := h.open
  clear h h3
  replace hC := hide hC
  go_enter Try.func14, Try.ntmps14
  go_wp2_with (first
    | (go_at_call 19; refine (unhide hC _ (by (repeat (first | with_reducible exact Below.refl _ _ | with_reducible assumption | with_reducible refine Below.drew ?_ | with_reducible refine bl_alloc ?_ _ | with_reducible refine bl_call ?_ (by assumption) | (focus (with_reducible refine Below.setCell ?_ ?_ _; rotate_left; focus (first | omega | (simp <;> omega)))) | fail)))).mono ?_; rintro e w1 ⟨rfl, rfl⟩))
  go_ret2
  exact ⟨rfl, by (repeat (first | with_reducible exact Below.refl _ _ | with_reducible assumption | with_reducible refine Below.drew ?_ | with_reducible refine bl_alloc ?_ _ | with_reducible refine bl_call ?_ (by assumption) | (focus (with_reducible refine Below.setCell ?_ ?_ _; rotate_left; focus (first | omega | (simp <;> omega)))) | fail))⟩

theorem allR_none {l : List Int} {bs : List Bit} (hok : okC l = true) {k : Nat} (hk : k < bs.length) (h : inB l.length bs[k] = false) : allR l bs = ([], 4) := by
  have : bs.all (inB l.length) = false := by
    rw [Bool.eq_false_iff, ne_eq, List.all_eq_true]
    intro h2
    rw [h2 _ (List.getElem_mem hk)] at h; cases h
  unfold allR
  rw [hok, this]; rfl
theorem allR_good {l : List Int} {bs : List Bit} (hok : okC l = true) (h : ∀ j, (hj : j < bs.length) → j < bs.length → inB l.length bs[j] = true) : allR l bs = (allF l bs, 0) := by
  have : bs.all (inB l.length) = true := by
    rw [List.all_eq_true]
    intro x hx
    obtain ⟨j, hj, rfl⟩ := List.getElem_of_mem hx
    exact h j hj hj
  unfold allR
  rw [hok, this]; rfl

set_option maxHeartbeats 2000000 in
theorem refAll_good (lo lo' : Nat) (v v' : Value) (l : List Int) (bs : List Bit) (r : List Int) (er : Int) (w : World) (h : Is lo w.heap.size w v l) (h' : Bts lo' w.heap.size w v' bs) (hok : okC l = true) (hr : allR l bs = (r, er)) :
    Calls Try.prog 14 #[v, v'] w fun e w' => ∃ A c, e = .returned (.tuple #[.slice A r.length c, .int .i64 er]) ∧ Is 0 w'.heap.size w' (.slice A r.length c) r ∧ Below w.heap.size w w' := by
  obtain ⟨i0, hi0, hz0, hz1, hz2⟩ := info3'
  have hC := fun W (hb : Below w.heap.size w W) => refCheck_any lo w.heap.size v l W (h.below hb (Nat.le_refl _))
  rw [hok, badE_t] at hC
  have hl1 := (okC_iff.1 hok).1
  have hlen : ∀ k, (allF l (bs.take k)).length = l.length := fun k => allF_len l _
  have hoks : ∀ k, okC (allF l (bs.take k)) = true := fun k => allF_ok hok
  have hbad : ∀ k (hk : k < bs.length), inB l.length bs[k] = false → r = [] ∧ er = 4 := fun k hk hb => by
    rw [allR_none hok hk hb] at hr
    injection hr with r1 r2
    exact ⟨r1.symm, r2.symm⟩
  have hgood : (∀ j, (hj : j < bs.length) → j < bs.length → inB l.length bs[j] = true) → r = allF l bs ∧ er = 0 := fun hb => by
    rw [allR_good hok hb] at hr
    injection hr with r1 r2
    exact ⟨r1.symm, r2.symm⟩
  obtain ⟨A, c, rfl, h1, h2, h3⟩ := h.open
  obtain ⟨B, d, rfl, y1, y2, y3⟩ := h'.open
  have sa := (Rd.src ivc_len h).2
  have la := flat_len ivc_len l
  have oa := flat_one ivc_one l
  have hLE := fun p b W => refLearn_any p b W
  have hout : Hid (∀ (W : World) (A : Option Addr) (n c : Nat) (x : List Int), W.ownsRow w.heap.size 3 1 (.slice A n c) n (x.flatMap ivc) → Is 0 W.heap.size W (.slice A n c) x) := hide fun W A n c x ho => (Rd.of_own ivc_len (by omega) ho).mono (Nat.zero_le _) (Nat.le_refl _)
  have hb1 : 0 + l.length ≤ maxLen := by simp only [maxLen]; omega
  have hb2 : (0 + l.length) * 8 ≤ 140737488355328 := by omega
  have hz : allF l (bs.take 0) = l := rfl
  obtain ⟨xs, hxs⟩ : ∃ xs, xs = l.flatMap ivc := ⟨_, rfl⟩
  rw [← hxs] at sa la oa
  clear h h' h3 hr
  replace sa := hide sa; replace la := hide la; replace oa := hide oa; replace hLE := hide hLE; replace hb1 := hide hb1; replace hb2 := hide hb2; replace hxs := hide hxs; replace hz := hide hz
  replace hC := hide hC; replace y3 := hide y3; replace hok := hide hok; replace hlen := hide hlen; replace hoks := hide hoks; replace hbad := hide hbad; replace hgood := hide hgood
  go_enter Try.func14, Try.ntmps14
  go_wp2_with (first
    | (go_at_call 19; refine (unhide hC _ (by (repeat (first | with_reducible exact Below.refl _ _ | with_reducible assumption | with_reducible refine Below.drew ?_ | with_reducible refine bl_alloc ?_ _ | with_reducible refine bl_call ?_ (by assumption) | (focus (with_reducible refine Below.setCell ?_ ?_ _; rotate_left; focus (first | omega | (simp <;> omega)))) | fail)))).mono ?_; rintro e w1 ⟨rfl, rfl⟩)
    | (at_builtin
       refine wpList_app _ rfl (.const (.slice none 0 0)) (.tmp 12) 22 rfl w.heap.size 3 i0 _ 1 8 Try.underlying22 hi0 hz0 hz1 hz2 rfl (Nat.succ_pos _) _ 0 [] rfl (World.ownsRow_nil _ _ _ _) A l.length c xs rfl (unhide la) (unhide sa) (unhide oa) (unhide hb1) (unhide hb2) (Nat.le_refl _) ?_
       intro v4 w4 ho5 hg4
       rw [Nat.zero_add, List.nil_append] at ho5
       obtain ⟨A3, c3, rfl⟩ := ownsRow_form ho5
       have hb5 : Below w.heap.size w w4 := bl_grown (Below.refl _ _) hg4 (by intro k hk; simp [Act.eval, Value.ownBlock] at hk)
       clear hg4
       rw [unhide hxs] at ho5
       replace ho5 := hide ho5; replace hb5 := hide hb5)
    | fail)
  clear hxs sa la oa hC hb1 hb2
  go_loopw [16] (fun i wr => ∃ (k : Nat), k ≤ bs.length ∧ i = .int .i64 k ∧ Hid (∀ j, (hj : j < bs.length) → j < k → inB l.length bs[j] = true) ∧ Hid (wr.ownsRow w.heap.size 3 1 (.slice A3 l.length c3) l.length ((allF l (bs.take k)).flatMap ivc)) ∧ Hid (Below w.heap.size w wr)) (fun i _ => bs.length - (intOf i).toNat)
  case atStart => exact ⟨0, Nat.zero_le _, rfl, hide (fun j _ h => absurd h (Nat.not_lt_zero _)), ho5, hb5⟩
  case round =>
    obtain ⟨k, hk, rfl, hi, ho, hb⟩ := hrel
    by_cases hlt : k < bs.length
    · obtain ⟨b, off, rfl, g1, g2, z0, z1⟩ := unhide y3 k hlt
      have c0 := ((unhide hb).cell (p := ⟨b, off + k * 2, none⟩) g2).trans z0
      have c1 := ((unhide hb).cell (p := ⟨b, off + k * 2 + 1, none⟩) g2).trans z1
      have hsn := allF_snoc l hlt
      have hni := unhide hbad k hlt
      have hi' : inB l.length bs[k] = true → ∀ j, (hj : j < bs.length) → j < k + 1 → inB l.length bs[j] = true := fun e j hj hjk => by
        rcases Nat.lt_or_ge j k with h1 | h1
        · exact unhide hi j hj h1
        · obtain rfl : j = k := by omega
          exact e
      cases hx : inB l.length bs[k] with
      | false =>
        obtain ⟨rfl, rfl⟩ := hni hx
        generalize bs[k] = x at *
        obtain ⟨xa, xb⟩ := x
        try dsimp only at c0 c1
        by_cases hn : xa < 0
        · have d0 : decide (xa < 0) = true := by simpa using hn
          clear hn hx hni hsn hi' z0 z1
          go_wp2_with fail
          go_ret2
          have hb0 := unhide hb
          have hz0 := hb0.size
          exact ⟨none, 0, rfl, Rd.nil _ _ _ _ _, by (repeat (first | with_reducible exact Below.refl _ _ | with_reducible assumption | with_reducible refine Below.drew ?_ | with_reducible refine bl_alloc ?_ _ | with_reducible refine bl_call ?_ (by assumption) | (focus (with_reducible refine Below.setCell ?_ ?_ _; rotate_left; focus (first | omega | (simp <;> omega)))) | fail))⟩
        · have d0 : decide (xa < 0) = false := by simpa using hn
          have d1 : decide ((l.length : Int) ≤ xa) = true := by simp [inB] at hx; simp; omega
          clear hn hx hni hsn hi' z0 z1
          go_wp2_with fail
          go_ret2
          have hb0 := unhide hb
          have hz0 := hb0.size
          exact ⟨none, 0, rfl, Rd.nil _ _ _ _ _, by (repeat (first | with_reducible exact Below.refl _ _ | with_reducible assumption | with_reducible refine Below.drew ?_ | with_reducible refine bl_alloc ?_ _ | with_reducible refine bl_call ?_ (by assumption) | (focus (with_reducible refine Below.setCell ?_ ?_ _; rotate_left; focus (first | omega | (simp <;> omega)))) | fail))⟩
      | true =>
        have hi2 := hi' hx
        replace hi2 := hide hi2
        have hL := unhide hlen k
        have hx' := inB_iff.1 hx
        have hck := (okC_iff.1 (unhide hoks k)).2
        generalize allF l (bs.take k) = L at *
        obtain ⟨gr, cur, rfl, hgr, hgb, hcs, hcur⟩ := own_pos (unhide ho) (by omega)
        have gc : ∀ j, j < l.length → wr.cell? ⟨gr, j, none⟩ = some (.int .i64 (L.getD j 0)) := fun j hj => by
          rw [hgb.cell, hcur j hj, iv_get L j (by omega)]
        generalize bs[k] = x at *
        obtain ⟨xa, xb⟩ := x
        try dsimp only at c0 c1 hx' hsn
        have r0 := gc xa.toNat (by omega)
        have r1 := hgb.frozen xa.toNat
        have hp : isC (L.getD xa.toNat 0) = true := hck _ (by
          rw [List.getD_eq_getElem?_getD, List.getElem?_eq_getElem (by omega)]; exact List.getElem_mem _)
        have hs : allF l (bs.take (k + 1)) = L.set xa.toNat (lrn (L.getD xa.toNat 0) xb) := hsn
        have hv := iv_set L xa.toNat (lrn (L.getD xa.toNat 0) xb)
        rw [← hs] at hv
        have hcall := fun W => unhide hLE (L.getD xa.toNat 0) xb W
        rw [lrnR, if_pos hp, hp, badE_t] at hcall
        generalize L.getD xa.toNat 0 = p at *
        generalize lrn p xb = y at *
        have u1 : gr < wr.heap.size := hgb.lt
        obtain ⟨x0, x1⟩ := hx'
        have d0 : decide (xa < 0) = false := by simpa using x0
        have d1 : decide ((l.length : Int) ≤ xa) = false := by simpa using x1
        clear z0 z1 g1 hck gc hcur hgb hsn hL hcs hni hi' hx
        replace hcall := hide hcall; replace hs := hide hs; replace hv := hide hv; replace hp := hide hp
        go_upto_region 9 with fail
        have hN : Blk (wr.alloc (.cells #[.int .i64 xa, .bool xb] 41)) wr.heap.size 41 #[.int .i64 xa, .bool xb] := Blk.new rfl
        have hOx : (wr.alloc (.cells #[.int .i64 xa, .bool xb] 41)).ownsRow w.heap.size 3 1 (.slice (some ⟨gr, 0, none⟩) l.length c3) l.length (L.flatMap ivc) := (unhide ho).alloc _
        have hBx : Below w.heap.size w (wr.alloc (.cells #[.int .i64 xa, .bool xb] 41)) := (unhide hb).alloc (unhide hb).size _
        have e3 : (wr.alloc (.cells #[.int .i64 xa, .bool xb] 41)).cell? ⟨gr, xa.toNat, none⟩ = some (.int .i64 p) := (bcell ((Below.refl wr.heap.size wr).alloc (Nat.le_refl _) _)).1 gr _ u1 |>.trans r0
        have e4 : (wr.alloc (.cells #[.int .i64 xa, .bool xb] 41)).frozen? ⟨gr, xa.toNat, none⟩ = false := (bcell ((Below.refl wr.heap.size wr).alloc (Nat.le_refl _) _)).2 gr _ u1 |>.trans r1
        have e5 : gr < (wr.alloc (.cells #[.int .i64 xa, .bool xb] 41)).heap.size := by simp; omega
        generalize wr.alloc (.cells #[.int .i64 xa, .bool xb] 41) = wx at *
        have e0 := hN.cell 0
        have e1 := hN.cell 1
        simp at e0 e1
        have e6 := hN.lt
        generalize wr.heap.size = gb at *
        replace hN := hide hN; replace hOx := hide hOx; replace hBx := hide hBx
        clear hb ho c0 c1 r0 r1 u1 g2 h1
        go_region_law (first | (go_simp; go_at_call 10; refine (unhide hcall _).mono ?_; rintro e w5 ⟨rfl, rfl⟩))
        all_goals go_wp2_with fail
        all_goals go_roundw
        all_goals first
          | exact ⟨k + 1, by omega, by go_num, hi2, hide (by have hw := own_put (k := xa.toNat) (unhide hOx) (.int .i64 y); rw [unhide hv] at hw; exact hw), hide (((unhide hBx).setCell hgr _).drew)⟩
          | (simp [intOf]; omega)
    · obtain rfl : k = bs.length := by omega
      obtain ⟨rfl, rfl⟩ := unhide hgood (unhide hi)
      have hlk := unhide hlen bs.length
      rw [List.take_length] at hlk
      go_wp2
      go_ret2
      have := unhide ho
      rw [List.take_length] at this
      refine ⟨A3, c3, by first | rfl | rw [hlk], ?_, unhide hb⟩
      first | exact unhide hout _ _ _ _ _ this | (rw [hlk]; exact unhide hout _ _ _ _ _ this)
end Go.Proofs.Ytbonnlaplggjgaa
