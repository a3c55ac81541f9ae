import Derived.Test.YtjjamplgecioaaaDoorL5
namespace Go.Proofs.YtjjamplgecioaaaDoor
open Go.RowKit

set_option maxHeartbeats 400000 in
theorem keys_gate (v0 v1 v2 : Value) (l a b : List UInt8) (q : Nat) (w : World) (ht : Tab w) (h0 : Bs 0 w.heap.size w v0 l) (h1 : Bs 0 w.heap.size w v1 a) (h2 : Bs 0 w.heap.size w v2 b) (hg : 7 < a.length ∨ 7 < b.length ∨ 64 < l.length) :
    Calls Tryd.prog 6 #[v0, v1, v2, .int .u8 (q : Int)] w fun e w' => e = .returned (.bool true) ∧ Below w.heap.size w w' := by
  have hlive := live_any w w ht (Below.refl _ _)
  obtain ⟨C, x, rfl⟩ := h0.form
  obtain ⟨A, c, rfl⟩ := h1.form
  obtain ⟨B, d, rfl⟩ := h2.form
  clear h0 h1 h2 ht
  replace hlive := hide hlive
  generalize a.length = n at *
  generalize b.length = m at *
  generalize l.length = k at *
  by_cases h : 7 < n
  · have k1 : (7 : Int) < (n : Int) := by omega
    clear hg h
    go_enter Tryd.func6, Tryd.ntmps6
    go_wp2_with (first | (go_at_call 8; refine (unhide hlive).mono ?_; rintro e w1 ⟨rfl, hb0⟩) | fail)
    go_ret
    exact ⟨rfl, hb0⟩
  · by_cases h' : 7 < m
    · have k1 : ¬ (7 : Int) < (n : Int) := by omega
      have k2 : (7 : Int) < (m : Int) := by omega
      clear hg h h'
      go_enter Tryd.func6, Tryd.ntmps6
      go_wp2_with (first | (go_at_call 8; refine (unhide hlive).mono ?_; rintro e w1 ⟨rfl, hb0⟩) | fail)
      go_ret
      exact ⟨rfl, hb0⟩
    · have k1 : ¬ (7 : Int) < (n : Int) := by omega
      have k2 : ¬ (7 : Int) < (m : Int) := by omega
      have k3 : (64 : Int) < (k : Int) := by omega
      clear hg h h'
      go_enter Tryd.func6, Tryd.ntmps6
      go_wp2_with (first | (go_at_call 8; refine (unhide hlive).mono ?_; rintro e w1 ⟨rfl, hb0⟩) | fail)
      go_ret
      exact ⟨rfl, hb0⟩

set_option maxHeartbeats 1000000 in
theorem keys_main (v0 v1 v2 : Value) (l a b : List UInt8) (q : Nat) (w : World) (ht : Tab w) (h0 : Bs 0 w.heap.size w v0 l) (h1 : Bs 0 w.heap.size w v1 a) (h2 : Bs 0 w.heap.size w v2 b) (hq : q < 256) (ha : a.length ≤ 7) (hb : b.length ≤ 7) (hl : l.length ≤ 64) :
    Calls Tryd.prog 6 #[v0, v1, v2, .int .u8 (q : Int)] w fun e w' => e = .returned (.bool true) ∧ Below w.heap.size w w' := by
  obtain ⟨r, hr⟩ : ∃ r, r = q % 40 := ⟨_, rfl⟩
  have m1 : (q : Int).tmod 40 = (r : Int) := by rw [Int.tmod_eq_emod_of_nonneg (by omega)]; omega
  have m2 : (q : Int) % 40 = (r : Int) := by omega
  have m4 : (r : Int) ≤ 40 := by omega
  have F0 : Fx w w [] := Fx.nil w
  have hlive := fun W (hb : Below w.heap.size w W) => live_any w W ht hb
  have hk1 := fun W (hb : Below w.heap.size w W) => key_any _ _ l a ((r : Int) + 1) w W ht h0 h1 hb
  have hk2 := fun W (hb : Below w.heap.size w W) => key_any _ _ l b ((r : Int) + 1) w W ht h0 h2 hb
  have hk3 := fun W (hb : Below w.heap.size w W) => start_any _ _ a l w W ht h1 h0 hb
  have hk4 := fun W (hb : Below w.heap.size w W) => start_any _ _ b l w W ht h2 h0 hb
  rw [keyE_good (n := r + 1) (z := (r : Int) + 1) hl (by omega) (by omega) (by omega) (by omega)] at hk1 hk2
  rw [startE_good (by omega) (by omega)] at hk3 hk4
  have hone : sameS (goF (r + 1) (startF l a) l) (goF (r + 1) (startF l b) l) = decide (a = b) := by rw [Bool.eq_iff_iff, sameS_iff, decide_eq_true_iff, key_salts ha hb]
  have htwo : sameS (startF a l) (startF b l) = decide (a = b) := by rw [Bool.eq_iff_iff, sameS_iff, decide_eq_true_iff, start_words ha hb]
  have hstr := strU_eq a b
  have cv1 := fun W (hb : Below w.heap.size w W) => (h1.at hb).convert
  have cv2 := fun W (hb : Below w.heap.size w W) => (h2.at hb).convert
  generalize goF (r + 1) (startF l a) l = X at *
  generalize goF (r + 1) (startF l b) l = Y at *
  generalize startF a l = P at *
  generalize startF b l = Q at *
  obtain ⟨y, hy⟩ : ∃ y, y = decide (a = b) := ⟨_, rfl⟩
  rw [← hy] at hone htwo hstr
  obtain ⟨SA, hSA⟩ : ∃ x, x = strU a := ⟨_, rfl⟩
  obtain ⟨SB, hSB⟩ : ∃ x, x = strU b := ⟨_, rfl⟩
  rw [← hSA] at hstr cv1
  rw [← hSB] at hstr cv2
  have k1 : ¬ (7 : Int) < (a.length : Int) := by omega
  have k2 : ¬ (7 : Int) < (b.length : Int) := by omega
  have k3 : ¬ (64 : Int) < (l.length : Int) := by omega
  have e12 := fun W => eql_st W X Y
  have e34 := fun W => eql_st W P Q
  rw [hone] at e12
  rw [htwo] at e34
  have hg24 := guard24
  obtain ⟨C, x, rfl⟩ := h0.form
  obtain ⟨A, c, rfl⟩ := h1.form
  obtain ⟨B, d, rfl⟩ := h2.form
  clear hone htwo ha hb hl h0 h1 h2 hr ht
  replace F0 := hide F0; replace hlive := hide hlive; replace hk1 := hide hk1; replace hk2 := hide hk2; replace hk3 := hide hk3; replace hk4 := hide hk4; replace cv1 := hide cv1; replace cv2 := hide cv2; replace hy := hide hy; replace hSA := hide hSA; replace hSB := hide hSB
  have tok1 : True := trivial
  have tok2 : True := trivial
  have tok3 : True := trivial
  have tok4 : True := trivial
  go_enter Tryd.func6, Tryd.ntmps6
  go_upto_region 8 with (first
    | (go_at_call 8; refine (unhide hlive _ (unhide F0).bl).mono ?_; rintro e w1 ⟨rfl, hb0⟩; have F1 : Fx w w1 [] := (unhide F0).call hb0; replace F1 := hide F1; clear hb0)
    | (go_at_call 13; have _t := tok1; refine (unhide hk1 _ (unhide F1).bl).mono ?_; rintro e w2 ⟨rfl, hb0⟩; have F_ : Fx w w2 [] := (unhide F1).call hb0; have F2 : Fx w _ [(w2.heap.size, stC X)] := F_.newB w2.heap.size rfl (stC X); replace F2 := hide F2; clear hb0 F_ tok1 _t)
    | (go_at_call 13; have _t := tok2; refine (unhide hk2 _ (unhide F2).bl).mono ?_; rintro e w3 ⟨rfl, hb0⟩; have F_ : Fx w w3 [(w2.heap.size, stC X)] := (unhide F2).call hb0; have F3 : Fx w _ [(w2.heap.size, stC X), (w3.heap.size, stC Y)] := F_.newB w3.heap.size rfl (stC Y); replace F3 := hide F3; clear hb0 F_ tok2 _t)
    | (go_at_call 9; have _t := tok3; refine (unhide hk3 _ (unhide F3).bl).mono ?_; rintro e w4 ⟨rfl, hb0⟩; have F_ : Fx w w4 [(w2.heap.size, stC X), (w3.heap.size, stC Y)] := (unhide F3).call hb0; have F4 : Fx w _ [(w2.heap.size, stC X), (w3.heap.size, stC Y), (w4.heap.size, stC P)] := F_.newB w4.heap.size rfl (stC P); replace F4 := hide F4; clear hb0 F_ tok3 _t)
    | (go_at_call 9; have _t := tok4; refine (unhide hk4 _ (unhide F4).bl).mono ?_; rintro e w5 ⟨rfl, hb0⟩; have F_ : Fx w w5 [(w2.heap.size, stC X), (w3.heap.size, stC Y), (w4.heap.size, stC P)] := (unhide F4).call hb0; have F5 : Fx w _ [(w2.heap.size, stC X), (w3.heap.size, stC Y), (w4.heap.size, stC P), (w5.heap.size, stC Q)] := F_.newB w5.heap.size rfl (stC Q); replace F5 := hide F5; clear hb0 F_ tok4 _t)
    | fail)
  generalize hW7 : World.alloc w5 _ = W7 at *
  clear hW7
  have F8 : Fx w W7 [(w2.heap.size, stC X), (w3.heap.size, stC Y), (w4.heap.size, stC P), (w5.heap.size, stC Q)] := unhide F5
  clear F5
  generalize w2.heap.size = gx at *
  generalize w3.heap.size = gy at *
  generalize w4.heap.size = gp at *
  generalize w5.heap.size = gq at *
  have cx0 : W7.cell? ⟨gx, 0, none⟩ = some (u32v X.a) := ((F8).get 0 rfl).cell 0
  have cx1 : W7.cell? ⟨gx, 1, none⟩ = some (u32v X.b) := ((F8).get 0 rfl).cell 1
  have cx2 : W7.cell? ⟨gx, 2, none⟩ = some (u32v X.c) := ((F8).get 0 rfl).cell 2
  have cx3 : W7.cell? ⟨gx, 3, none⟩ = some (u32v X.d) := ((F8).get 0 rfl).cell 3
  have cy0 : W7.cell? ⟨gy, 0, none⟩ = some (u32v Y.a) := ((F8).get 1 rfl).cell 0
  have cy1 : W7.cell? ⟨gy, 1, none⟩ = some (u32v Y.b) := ((F8).get 1 rfl).cell 1
  have cy2 : W7.cell? ⟨gy, 2, none⟩ = some (u32v Y.c) := ((F8).get 1 rfl).cell 2
  have cy3 : W7.cell? ⟨gy, 3, none⟩ = some (u32v Y.d) := ((F8).get 1 rfl).cell 3
  have cp0 : W7.cell? ⟨gp, 0, none⟩ = some (u32v P.a) := ((F8).get 2 rfl).cell 0
  have cp1 : W7.cell? ⟨gp, 1, none⟩ = some (u32v P.b) := ((F8).get 2 rfl).cell 1
  have cp2 : W7.cell? ⟨gp, 2, none⟩ = some (u32v P.c) := ((F8).get 2 rfl).cell 2
  have cp3 : W7.cell? ⟨gp, 3, none⟩ = some (u32v P.d) := ((F8).get 2 rfl).cell 3
  have cq0 : W7.cell? ⟨gq, 0, none⟩ = some (u32v Q.a) := ((F8).get 3 rfl).cell 0
  have cq1 : W7.cell? ⟨gq, 1, none⟩ = some (u32v Q.b) := ((F8).get 3 rfl).cell 1
  have cq2 : W7.cell? ⟨gq, 2, none⟩ = some (u32v Q.c) := ((F8).get 3 rfl).cell 2
  have cq3 : W7.cell? ⟨gq, 3, none⟩ = some (u32v Q.d) := ((F8).get 3 rfl).cell 3
  have v2 : ∀ n, (convert 25 9 (.slice A a.length c)).run Tryd.prog (W7.drewN n) = .ok (.string SA) (W7.drewN n) := fun n => unhide cv1 _ (F8.drewN n).bl
  have v3 : ∀ n, (convert 25 9 (.slice B b.length d)).run Tryd.prog (W7.drewN n) = .ok (.string SB) (W7.drewN n) := fun n => unhide cv2 _ (F8.drewN n).bl
  replace F8 := hide F8
  go_quiet (fail)
  go_wp2
  go_ret
  exact ⟨rfl, ((unhide F8).drewN _).bl⟩
theorem keys_law (v0 v1 v2 : Value) (l a b : List UInt8) (q : UInt8) (w : World) (ht : Tab w) (h0 : Bs 0 w.heap.size w v0 l) (h1 : Bs 0 w.heap.size w v1 a) (h2 : Bs 0 w.heap.size w v2 b) :
    Calls Tryd.prog 6 #[v0, v1, v2, u8v q] w fun e w' => e = .returned (.bool true) ∧ Below w.heap.size w w' := by
  have hq := q.toNat_lt
  by_cases h : 7 < a.length ∨ 7 < b.length ∨ 64 < l.length
  · exact keys_gate v0 v1 v2 l a b q.toNat w ht h0 h1 h2 h
  · exact keys_main v0 v1 v2 l a b q.toNat w ht h0 h1 h2 hq (by omega) (by omega) (by omega)
end Go.Proofs.YtjjamplgecioaaaDoor
