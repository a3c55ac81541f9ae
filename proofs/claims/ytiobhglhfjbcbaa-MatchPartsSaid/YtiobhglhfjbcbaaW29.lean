import Derived.Test.YtiobhglhfjbcbaaW28
namespace Go.Proofs.Ytiobhglhfjbcbaa
open Go.RowKit

set_option maxRecDepth 100000 in
set_option maxHeartbeats 16000000 in
theorem parts_lit (lo : Nat) (A : Option Addr) (c : Nat) (l : List Tok) (cut : Int) (k : Nat) (t : Tok) (P Q R : List UInt8) (p q r : Nat) (w : World) (h : Tks lo w.heap.size w (.slice A l.length c) l) (hk : k < l.length) (hl : l.length ≤ 200) (hcut : cut.tmod l.length % l.length = (k : Int))
    (ht : l[k] = t) (hp : p = P.length) (hq : q = Q.length) (hr : r = R.length) (hP : textR (l.take k) 65536 = (P, 0)) (hQ : textR (l.take (k + 1)) 65536 = (Q, 0)) (hR : textR l 65536 = (R, 0)) (hQR : R.take q = Q) (hPQ : Q.take p = P) (x1 : p < q) (x2 : q ≤ r) (x3 : r ≤ 3600) (h0 : t.len = 0) (x4 : q = p + 1) (hx : Q.getD p 0 = t.lit) :
    Calls Try.prog 7 #[.slice A l.length c, .int .i64 cut] w fun e w' => e = .returned (.bool true) ∧ Below w.heap.size w w' := by
  have hXR := fun W (hb : Below w.heap.size w W) => Text_cap _ l 65536 R r hr hR lo W (h.grow hb)
  have hXP := fun W (hb : Below w.heap.size w W) => Text_cap _ (l.take k) 65536 P p hp hP lo W ((h.pre k (by omega)).grow hb)
  have hXQ := fun W (hb : Below w.heap.size w W) => Text_cap _ (l.take (k + 1)) 65536 Q q hq hQ lo W ((h.pre (k + 1) (by omega)).grow hb)
  obtain ⟨A', c', e, h1, h2, h3⟩ := h.open
  injection e with e1 _ e3
  subst e1 e3
  obtain ⟨b, off, rfl, g1, g2, cc0, cc1, cc2⟩ := h3 k hk
  rw [ht] at cc0 cc1 cc2
  have bsR := fun (lo hi : Nat) (W : World) (A : Option Addr) (c : Nat) (h : Bs lo hi W (.slice A r c) R) => Bs.pre h q (by omega)
  have bsQ := fun (lo hi : Nat) (W : World) (A : Option Addr) (c : Nat) (h : Bs lo hi W (.slice A q c) Q) => Bs.pre h p (by omega)
  rw [hQR] at bsR
  rw [hPQ] at bsQ
  obtain ⟨z1, z2⟩ := rem_pos cut l.length (by omega)
  obtain ⟨Z, hZ⟩ : ∃ Z, cut.tmod (l.length : Int) = Z := ⟨_, rfl⟩
  rw [hZ] at z1 z2 hcut
  obtain ⟨K, hK⟩ : ∃ K, K = (k : Int) := ⟨_, rfl⟩
  rw [← hK] at hcut
  have y0 : 0 ≤ K := by omega
  have y1 : K < (l.length : Int) := by omega
  have y2 : K ≤ 200 := by omega
  have i1 : IntKind.i64.wrap (Z + (l.length : Int)) = Z + (l.length : Int) := IntWalk.i64_in _ (by omega)
  have i2 : IntKind.i64.wrap (K + 1) = K + 1 := IntWalk.i64_in _ (by omega)
  have sl1 := fun W => slice_t (some ⟨b, off, none⟩) l.length c K k hK (by omega) W
  have sl2 := fun W => slice_t (some ⟨b, off, none⟩) l.length c (K + 1) (k + 1) (by omega) (by omega) W
  have kk : k * 3 = K.toNat * 3 := by omega
  rw [kk] at cc0 cc1 cc2
  have l0 : 0 < l.length := by omega
  have gd1 : decide (200 < (l.length : Int)) = false := by simp; omega
  have gd2 : ((l.length : Int) == 0) = false := by rw [beq_eq_false_iff_ne]; omega
  obtain ⟨ta, tl, td⟩ := t
  simp only [] at cc0 cc1 cc2 h0 hx
  clear kk hk h3 ht hP hQ hR h hQR hPQ hr
  subst h0
  have hqp : ((q : Int) == (p : Int) + 1) = true := by simp; omega
  have j1 : IntKind.i64.wrap ((p : Int) + 1) = (p : Int) + 1 := IntWalk.i64_in _ (by omega)
  replace x4 := hide x4; replace hx := hide hx
  replace hXR := hide hXR; replace hXP := hide hXP; replace hXQ := hide hXQ; replace bsR := hide bsR; replace bsQ := hide bsQ; replace hK := hide hK; replace hp := hide hp; replace hq := hide hq
  go_enter Try.func7, Try.ntmps7
  go_wp2_with (first
    | (go_at_call 10; refine (live_any _).mono ?_; rintro e w1 ⟨rfl, hb1⟩; have tk1 : True := trivial)
    | (go_at_call 16; have _t := tk3; refine (unhide hXQ _ (by (repeat (first | with_reducible exact Below.refl _ _ | with_reducible assumption | with_reducible refine Below.drew ?_ | with_reducible refine bl_alloc ?_ _ | with_reducible refine bl_call ?_ (by assumption) | (focus (with_reducible refine Below.setCell ?_ ?_ _; rotate_left; focus (first | omega | (simp <;> omega)))) | fail)))).mono ?_; rintro e w4 ⟨A4, c4, rfl, m4, hx4, hb4⟩; have sl3 := (fun W => slice_b A2 r c2 (q : Int) q rfl (by omega) W); have sl4 := (fun W => slice_b A4 q c4 (p : Int) p rfl (by omega) W); replace hx4 := hide hx4; have hbw := (show Below w.heap.size w w4 by (repeat (first | with_reducible exact Below.refl _ _ | with_reducible assumption | with_reducible refine Below.drew ?_ | with_reducible refine bl_alloc ?_ _ | with_reducible refine bl_call ?_ (by assumption) | (focus (with_reducible refine Below.setCell ?_ ?_ _; rotate_left; focus (first | omega | (simp <;> omega)))) | fail))); obtain ⟨hc4, _⟩ := bcell hbw; have hz4 := hbw.size; replace hbw := hide hbw; clear tk3 _t)
    | (go_at_call 16; have _t := tk2; refine (unhide hXP _ (by (repeat (first | with_reducible exact Below.refl _ _ | with_reducible assumption | with_reducible refine Below.drew ?_ | with_reducible refine bl_alloc ?_ _ | with_reducible refine bl_call ?_ (by assumption) | (focus (with_reducible refine Below.setCell ?_ ?_ _; rotate_left; focus (first | omega | (simp <;> omega)))) | fail)))).mono ?_; rintro e w3 ⟨A3, c3, rfl, m3, hx3, hb3⟩; replace hx3 := hide hx3; clear tk2 _t; have tk3 : True := trivial)
    | (go_at_call 16; have _t := tk1; refine (unhide hXR _ (by (repeat (first | with_reducible exact Below.refl _ _ | with_reducible assumption | with_reducible refine Below.drew ?_ | with_reducible refine bl_alloc ?_ _ | with_reducible refine bl_call ?_ (by assumption) | (focus (with_reducible refine Below.setCell ?_ ?_ _; rotate_left; focus (first | omega | (simp <;> omega)))) | fail)))).mono ?_; rintro e w2 ⟨A2, c2, rfl, m2, hx2, hb2⟩; replace hx2 := hide hx2; clear tk1 _t; have tk2 : True := trivial)
    | (go_at_call 20; refine (sameb_any _ _ _ _ _ _ Q Q _ (unhide hx4) (unhide bsR _ _ _ _ _ (((unhide hx2).grow hb3).grow hb4))).mono ?_; rintro e w5 ⟨rfl, rfl⟩; rw [decide_eq_true rfl]; clear sl3)
    | (go_at_call 20; refine (sameb_any _ _ _ _ _ _ P P _ ((unhide hx3).grow hb4) (unhide bsQ _ _ _ _ _ (unhide hx4))).mono ?_; rintro e w6 ⟨rfl, rfl⟩; rw [decide_eq_true rfl]; clear sl4)
    | fail)
  obtain ⟨A5, c5, e5, _, _, hcell⟩ := (unhide hx4).open
  injection e5 with e6 e8 e7
  subst e6 e7
  clear e8
  obtain ⟨b4, off4, rfl, _, v1, v2⟩ := hcell p (by have := unhide hq; omega)
  rw [unhide hx] at v2
  clear hcell
  have hxx : (n8 ta == n8 ta) = true := u8_eq rfl
  clear sl1 sl2 i1 i2 hZ hcut
  go_quiet (fail)
  go_wp2_with fail
  go_ret
  have hbw2 := unhide hbw
  exact ⟨rfl, below_drewN (bl_alloc hbw2 _) _⟩
end Go.Proofs.Ytiobhglhfjbcbaa
