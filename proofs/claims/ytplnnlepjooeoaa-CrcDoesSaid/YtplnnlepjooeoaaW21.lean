import Derived.Test.YtplnnlepjooeoaaW20
namespace Go.Proofs.Ytplnnlepjooeoaa
open Go.RowKit

theorem incr8 (x : UInt8) : binOp .add 5 (.int .u8 (n8 x)) (.int .u8 1) = pure (.int .u8 (n8 (x + 1))) := by
  rw [binOp_add]
  show pure (Value.int .u8 (IntKind.u8.wrap (n8 x + 1))) = _
  rw [n8_succ]

set_option maxHeartbeats 1000000 in
theorem does_gate (r : Value) (A : Option Addr) (n ca : Nat) (w : World) (h : 500 < n) :
    Calls Try.prog 3 #[r, .slice A n ca] w fun e w' => e = .returned (.bool true) ∧ Below w.heap.size w w' := by
  have h' : (500 : Int) < (n : Int) := by omega
  go_enter Try.func3, Try.ntmps3
  go_wp2_with (go_at_call 7; refine (live_any _).mono ?_; rintro e w1 ⟨rfl, hb1⟩)
  go_ret
  exact ⟨rfl, hb1⟩

section
attribute [local go_sem] u32v_eql eqGuard_u32 n8_succ
set_option maxHeartbeats 4000000 in
theorem does_go (lo : Nat) (r : Reg) (v : Value) (l : List UInt8) (w : World) (h : Bs lo w.heap.size w v l) (hl : l.length ≤ 500) :
    Calls Try.prog 3 #[u32v r, v] w fun e w' => e = .returned (.bool true) ∧ Below w.heap.size w w' := by
  have hbs := fun W (hb : Below w.heap.size w W) => (h.below hb (Nat.le_refl _)).mono (Nat.zero_le _) hb.size
  have hconv := fun W (hb : Below w.heap.size w W) => (h.below hb (Nat.le_refl _)).convert
  have ho8 := fun W (hb : Below w.heap.size w W) => open8_all 0 v l W (hbs W hb) (by omega)
  have ho9 := fun W (hb : Below w.heap.size w W) => open9_all 0 v l W (hbs W hb) (by omega)
  have hs10 := fun W (hb : Below w.heap.size w W) => seal_any 0 v l W (hbs W hb) (by omega)
  have hs16 := fun W (hb : Below w.heap.size w W) => rseal_any 0 v l W (hbs W hb) (by omega)
  have ht11 := fun W (hb : Below w.heap.size w W) => step_any 0 _ v l r W (hbs W hb)
  have ht12 := fun W (hb : Below w.heap.size w W) => rstep_any 0 _ v l r W (hbs W hb)
  have hu13 := fun W (hb : Below w.heap.size w W) => sum_any 0 _ v l W (hbs W hb)
  have hu14 := fun W (hb : Below w.heap.size w W) => rsum_any 0 _ v l W (hbs W hb)
  change ∀ W, _ → Calls Try.prog 10 _ W fun e w' => ∃ A c, e = _ ∧ w'.ownsRow W.heap.size 5 1 _ _ ((sealL l).map u8v) ∧ _ at hs10
  have hsame := fun W u1 u2 (x : List UInt8) (b1 : Nat) (b2 : Nat) (h1 : Bs b1 W.heap.size W u1 x) (h2 : Bs b2 W.heap.size W u2 x) => sameb_any b1 W.heap.size b2 W.heap.size u1 u2 x x W h1 h2
  simp only [decide_true] at hsame
  have hNb : (textO l).length ≤ 500 := Nat.le_trans (List.length_take_le _ _ : (textO l).length ≤ _) (by rw [← textO_len]; exact Nat.le_trans (List.length_take_le' _ _ : (textO l).length ≤ _) hl)
  obtain ⟨A, ca, rfl, h1, h2, hx0⟩ := id h
  have hstr : ((strU l).toList == (strU l).toList) = true := by simp
  replace hbs := hide hbs; replace hconv := hide hconv; replace ho8 := hide ho8; replace ho9 := hide ho9; replace hs10 := hide hs10; replace hs16 := hide hs16
  replace ht11 := hide ht11; replace ht12 := hide ht12; replace hu13 := hide hu13; replace hu14 := hide hu14; replace hsame := hide hsame
  clear h hx0
  generalize l.length = n at *
  generalize textO l = T at *
  generalize erO l = er at *
  generalize sealL l = S at *
  generalize strU l = str at *
  generalize hN : T.length = N at *
  replace hN := hide hN
  have tok1 : True := trivial
  have tok2 : True := trivial
  go_enter Try.func3, Try.ntmps3
  go_wp2_with (first
    | (go_at_call 7; refine (live_any _).mono ?_; rintro e w1 ⟨rfl, hb1⟩; have cv1 := unhide hconv _ hb1)
    | (go_at_call 8; refine (unhide ho8 _ hb1).mono ?_; rintro e w2 ⟨A2, c2, rfl, hown2, hb2⟩; have hbw2 := bl_call hb1 hb2; clear cv1; replace hown2 := hide hown2; replace hb2 := hide hb2)
    | (go_at_call 9; refine (unhide ho9 _ hbw2).mono ?_; rintro e w3 ⟨A3, c3, rfl, hown3, hb3⟩; have hbw3 := bl_call hbw2 hb3; replace hown3 := hide hown3; replace hb3 := hide hb3)
    | (go_at_call 10; refine (unhide hs10 _ hbw3).mono ?_; rintro e w4 ⟨A4, c4, rfl, hown4, hb4⟩; have hbw4 := bl_call hbw3 hb4; replace hown4 := hide hown4; replace hb4 := hide hb4)
    | (go_at_call 11; refine (unhide ht11 _ hbw4).mono ?_; rintro e w5 ⟨rfl, rfl⟩)
    | (go_at_call 12; refine (unhide ht12 _ hbw4).mono ?_; rintro e w5 ⟨rfl, rfl⟩)
    | (go_at_call 13; refine (unhide hu13 _ hbw4).mono ?_; rintro e w5 ⟨rfl, rfl⟩)
    | (go_at_call 14; refine (unhide hu14 _ hbw4).mono ?_; rintro e w5 ⟨rfl, rfl⟩)
    | (go_at_call 16; refine (unhide hs16 _ hbw4).mono ?_; rintro e w5 ⟨A5, c5, rfl, hown5, hb5⟩; have hbw5 := bl_call hbw4 hb5; replace hown5 := hide hown5; have hown4' := own_below (unhide hown4) hb5 (Nat.le_refl _); replace hown4' := hide hown4'; have hown2' := own_below (own_below (own_below (unhide hown2) (unhide hb3) (Nat.le_refl _)) (unhide hb4) (Nat.le_refl _)) hb5 (Nat.le_refl _); have hown3' := own_below (own_below (unhide hown3) (unhide hb4) (Nat.le_refl _)) hb5 (Nat.le_refl _); replace hown2' := hide hown2'; replace hown3' := hide hown3'; replace hb5 := hide hb5)
    | (go_at_call 15; have _t := tok1; refine (unhide hsame _ _ _ _ _ _ (Bs.own (unhide hown4')) (Bs.own (unhide hown5))).mono ?_; rintro e w6 ⟨rfl, rfl⟩; clear tok1 _t)
    | (go_at_call 15; have _t := tok2; refine (unhide hsame _ _ _ _ _ _ (Bs.own (unhide hown2')) (Bs.own (unhide hown3'))).mono ?_; rintro e w6 ⟨rfl, rfl⟩; clear tok2 _t)
    | fail)
  obtain ⟨g, cur, rfl, hg1, _, _, _⟩ := own_pos (unhide hown4) (by omega)
  have hgw : w.heap.size ≤ g := Nat.le_trans hbw3.size hg1
  have hx0 : Value.ownBlock (.slice A2 N c2) ≠ some g := by
    intro e
    have hv := own_vbelow (unhide hown2)
    have hsz := (unhide hb3).size
    rcases A2 with _ | a
    · simp [Value.ownBlock] at e
    · have := hv a _ _ rfl
      simp [Value.ownBlock] at e
      omega
  have hownS : w5.ownsRow w.heap.size 5 1 (.slice (some ⟨g, 0, none⟩) (n + 4) c4) (n + 4) (S.map u8v) := ownsRow_mono (unhide hown4') hbw3.size
  have hownX : w5.ownsRow w.heap.size 5 1 (.slice A2 N c2) N (T.map u8v) := ownsRow_mono (unhide hown2') hb1.size
  replace hownS := hide hownS; replace hownX := hide hownX; replace hx0 := hide hx0; replace hgw := hide hgw; replace hbw5 := hide hbw5
  clear hown2 hown3 hown4 hown5 hown2' hown3' hown4' hb2 hb3 hb4 hb5 hbw2 hbw3 hbw4 hg1 hN ho8 ho9 hs10 hs16 ht11 ht12 hu13 hu14 hsame hbs
  go_loopw [66] (fun i wr => ∃ (k : Nat) (L : List UInt8), k ≤ n + 4 ∧ i = .int .i64 k ∧ Hid (wr.ownsRow w.heap.size 5 1 (.slice (some ⟨g, 0, none⟩) (n + 4) c4) (n + 4) (L.map u8v)) ∧ Hid (wr.ownsRow w.heap.size 5 1 (.slice A2 N c2) N (T.map u8v)) ∧ Hid (Below w.heap.size w wr)) (fun i _ => n + 4 - (intOf i).toNat)
  case atStart => exact ⟨0, S, by omega, rfl, hownS, hownX, hbw5⟩
  case round =>
    obtain ⟨k, L, hk, rfl, o1, o2, b1⟩ := hrel
    by_cases hlt : k < n + 4
    · obtain ⟨m1, m2, _, hLn⟩ := own_cell (unhide o1) hlt
      have p1 := own_inc (k := k) (unhide o1) (L.getD k 0 + 1)
      have p2 := ownsRow_setCell_other (unhide o2) (a := ⟨g, k, none⟩) (unhide hx0) (.int .u8 (n8 (L.getD k 0 + 1)))
      have p3 := (unhide b1).setCell (p := ⟨g, k, none⟩) (unhide hgw) (.int .u8 (n8 (L.getD k 0 + 1)))
      replace p1 := hide p1; replace p2 := hide p2; replace p3 := hide p3
      have i1 : (k : Int) < (n : Int) + 4 := by omega
      have i0 : (0 : Int) ≤ (k : Int) := by omega
      generalize L.getD k 0 = y at *
      clear hLn
      go_wp2_with fail
      go_roundw
      case rel => exact ⟨k + 1, _, by omega, by go_num, p1, p2, p3⟩
      case measure => simp [intOf]; omega
    · obtain ⟨q, hq⟩ : ∃ q, q = k := ⟨_, rfl⟩
      have i1 : ¬ ((k : Int) < (n : Int) + 4) := by omega
      replace hq := hide hq
      go_wp2_with fail
      go_loopw [78] (fun i wx => ∃ (j : Nat) (L : List UInt8), j ≤ N ∧ i = .int .i64 j ∧ Hid (wx.ownsRow w.heap.size 5 1 (.slice A2 N c2) N (L.map u8v)) ∧ Hid (Below w.heap.size w wx)) (fun i _ => N - (intOf i).toNat)
      case atStart => exact ⟨0, T, by omega, rfl, o2, b1⟩
      case round =>
        obtain ⟨j, L2, hj, rfl, o3, b3⟩ := hrel
        by_cases hlt2 : j < N
        · obtain ⟨gx, _, rfl, hgx, _, _, _⟩ := own_pos (unhide o3) (by omega)
          obtain ⟨m1, m2, _, hLn⟩ := own_cell (unhide o3) hlt2
          have p1 := own_inc (k := j) (unhide o3) (L2.getD j 0 + 1)
          have p3 := (unhide b3).setCell (p := ⟨gx, j, none⟩) hgx (.int .u8 (n8 (L2.getD j 0 + 1)))
          replace p1 := hide p1; replace p3 := hide p3
          have j1 : (j : Int) < (N : Int) := by omega
          have j0 : (0 : Int) ≤ (j : Int) := by omega
          generalize L2.getD j 0 = y at *
          clear hLn
          go_wp2_with fail
          go_roundw
          case rel => exact ⟨j + 1, _, by omega, by go_num, p1, p3⟩
          case measure => simp [intOf]; omega
        · have j1 : ¬ ((j : Int) < (N : Int)) := by omega
          have cv := unhide hconv _ (unhide b3)
          go_wp2_with fail
          go_ret
          exact ⟨rfl, unhide b3⟩
end
end Go.Proofs.Ytplnnlepjooeoaa
