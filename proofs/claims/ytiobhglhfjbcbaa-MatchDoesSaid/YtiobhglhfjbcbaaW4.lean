import Derived.Test.YtiobhglhfjbcbaaW3
namespace Go.Proofs.Ytiobhglhfjbcbaa
open Go.RowKit

theorem ret_tk {fn : Func} {p u : Tmp} {R : Ending → World → Prop} {a : Act} {w : World} (h : fn.results = #[.cell p 25, .tmp u]) (g : Nat) (x y z v : Value)
    (hp : a.tmps.getD p undef = .pointer (some ⟨g, 0, none⟩)) (hu : a.tmps.getD u undef = v) (hg : Blk w g 25 #[x, y, z]) (hd : a.defers = []) (hR : R (.returned (.tuple #[.agg #[x, y, z], v])) w) : bodyPost Try.prog fn R .ret a w := by
  refine bodyPost_ret (v := .tuple #[.agg #[x, y, z], v]) ?_ hd hR
  rw [results_cell_tmp h, hp, hu]
  have hl := run_loadVar_row (P := Try.prog) w g 25 25 #[x, y, z] (0, 0) _ hg Try.underlying25 rfl (by kernel_rfl)
  simp [asAddr, Result.andThen, hl]
theorem ret_tki {x y z v : Value} {t : Tok} {r : Int} (h0 : x = .int .u8 (n8 t.lit)) (h1 : y = .int .i64 t.len) (h2 : z = .int .i64 t.dist) (h3 : v = .int .i64 r) :
    Ending.returned (.tuple #[.agg #[x, y, z], v]) = .returned (.tuple #[.agg #[.int .u8 (n8 t.lit), .int .i64 t.len, .int .i64 t.dist], .int .i64 r]) := by rw [h0, h1, h2, h3]

set_option maxHeartbeats 2000000 in
theorem Find_any (lo : Nat) (v : Value) (l : List UInt8) (at_ : Int) (t : Tok) (er : Int) (w : World) (h : Bs lo w.heap.size w v l) (hr : findR l at_ = (t, er)) :
    Calls Try.prog 11 #[v, .int .i64 at_] w fun e w' => e = .returned (.tuple #[.agg #[.int .u8 (n8 t.lit), .int .i64 t.len, .int .i64 t.dist], .int .i64 er]) ∧ Below w.heap.size w w' := by
  have hal := fun (f a : Nat) (W : World) (hb : Below w.heap.size w W) => alike_any lo v l f a W (h.grow hb)
  obtain ⟨A, c, rfl, h1, h2, _⟩ := h.open
  clear h
  by_cases hL : 65536 < l.length
  · rw [findR, if_pos hL] at hr
    replace hal := hide hal; replace hr := hide hr
    go_enter Try.func11, Try.ntmps11
    go_wp2
    have hr' := unhide hr
    injection hr' with r1 r2
    subst r1 r2
    refine ret_tk rfl w.heap.size (.int .u8 0) (.int .i64 0) (.int .i64 0) (.int .i64 3) rfl rfl ?_ rfl ⟨rfl, by (repeat (first | with_reducible exact Below.refl _ _ | with_reducible assumption | with_reducible refine Below.drew ?_ | with_reducible refine bl_alloc ?_ _ | with_reducible refine bl_call ?_ (by assumption) | (focus (with_reducible refine Below.setCell ?_ ?_ _; rotate_left; focus (first | omega | (simp <;> omega)))) | fail))⟩
    (repeat (first | with_reducible assumption | (focus (with_reducible refine Blk.new ?_; focus (simp <;> fail))) | with_reducible refine Blk.set3 (a := .int .u8 0) (b := .int .i64 0) (c := .int .i64 0) ?_ | with_reducible refine Blk.alloc ?_ _ | with_reducible refine Blk.drew ?_ | (focus (with_reducible refine Blk.far ?_ ?_ _; rotate_left; focus (first | omega | (simp <;> omega)))) | (focus (with_reducible refine Blk.below ?_ hb1 ?_; rotate_left; focus (first | omega | (simp <;> omega)))) | (focus (with_reducible refine Blk.below ?_ hb2 ?_; rotate_left; focus (first | omega | (simp <;> omega)))) | (focus (with_reducible refine Blk.below ?_ hb3 ?_; rotate_left; focus (first | omega | (simp <;> omega)))) | (focus (with_reducible refine Blk.below ?_ hb4 ?_; rotate_left; focus (first | omega | (simp <;> omega)))) | (focus (with_reducible refine Blk.below ?_ hb5 ?_; rotate_left; focus (first | omega | (simp <;> omega)))) | (focus (with_reducible refine Blk.below ?_ hb6 ?_; rotate_left; focus (first | omega | (simp <;> omega)))) | (focus (with_reducible refine Blk.below ?_ hb7 ?_; rotate_left; focus (first | omega | (simp <;> omega)))) | (focus (with_reducible refine Blk.below ?_ hb8 ?_; rotate_left; focus (first | omega | (simp <;> omega)))) | (focus (with_reducible refine Blk.below ?_ hb9 ?_; rotate_left; focus (first | omega | (simp <;> omega)))) | (focus (with_reducible refine Blk.below ?_ hb10 ?_; rotate_left; focus (first | omega | (simp <;> omega)))) | (focus (with_reducible refine Blk.below ?_ hb11 ?_; rotate_left; focus (first | omega | (simp <;> omega)))) | (focus (with_reducible refine Blk.below ?_ hb12 ?_; rotate_left; focus (first | omega | (simp <;> omega)))) | fail))
  · by_cases ha : at_ < 0 ∨ (l.length : Int) ≤ at_
    · rw [findR, if_neg hL, if_pos ha] at hr
      replace hal := hide hal; replace hr := hide hr; replace ha := hide ha
      go_enter Try.func11, Try.ntmps11
      go_wp2
      all_goals (have ha' := unhide ha; first | (exfalso; omega) | skip)
      all_goals (have hr' := unhide hr; injection hr' with r1 r2; subst r1 r2; refine ret_tk rfl w.heap.size (.int .u8 0) (.int .i64 0) (.int .i64 0) (.int .i64 1) rfl rfl ?_ rfl ⟨rfl, by (repeat (first | with_reducible exact Below.refl _ _ | with_reducible assumption | with_reducible refine Below.drew ?_ | with_reducible refine bl_alloc ?_ _ | with_reducible refine bl_call ?_ (by assumption) | (focus (with_reducible refine Below.setCell ?_ ?_ _; rotate_left; focus (first | omega | (simp <;> omega)))) | fail))⟩; (repeat (first | with_reducible assumption | (focus (with_reducible refine Blk.new ?_; focus (simp <;> fail))) | with_reducible refine Blk.set3 (a := .int .u8 0) (b := .int .i64 0) (c := .int .i64 0) ?_ | with_reducible refine Blk.alloc ?_ _ | with_reducible refine Blk.drew ?_ | (focus (with_reducible refine Blk.far ?_ ?_ _; rotate_left; focus (first | omega | (simp <;> omega)))) | (focus (with_reducible refine Blk.below ?_ hb1 ?_; rotate_left; focus (first | omega | (simp <;> omega)))) | (focus (with_reducible refine Blk.below ?_ hb2 ?_; rotate_left; focus (first | omega | (simp <;> omega)))) | (focus (with_reducible refine Blk.below ?_ hb3 ?_; rotate_left; focus (first | omega | (simp <;> omega)))) | (focus (with_reducible refine Blk.below ?_ hb4 ?_; rotate_left; focus (first | omega | (simp <;> omega)))) | (focus (with_reducible refine Blk.below ?_ hb5 ?_; rotate_left; focus (first | omega | (simp <;> omega)))) | (focus (with_reducible refine Blk.below ?_ hb6 ?_; rotate_left; focus (first | omega | (simp <;> omega)))) | (focus (with_reducible refine Blk.below ?_ hb7 ?_; rotate_left; focus (first | omega | (simp <;> omega)))) | (focus (with_reducible refine Blk.below ?_ hb8 ?_; rotate_left; focus (first | omega | (simp <;> omega)))) | (focus (with_reducible refine Blk.below ?_ hb9 ?_; rotate_left; focus (first | omega | (simp <;> omega)))) | (focus (with_reducible refine Blk.below ?_ hb10 ?_; rotate_left; focus (first | omega | (simp <;> omega)))) | (focus (with_reducible refine Blk.below ?_ hb11 ?_; rotate_left; focus (first | omega | (simp <;> omega)))) | (focus (with_reducible refine Blk.below ?_ hb12 ?_; rotate_left; focus (first | omega | (simp <;> omega)))) | fail)))
    · rw [findR, if_neg hL, if_neg ha] at hr
      obtain ⟨a, rfl⟩ : ∃ a : Nat, at_ = a := ⟨at_.toNat, by omega⟩
      rw [Int.toNat_natCast] at hr
      have ha' : a < l.length := by omega
      obtain ⟨G, hG⟩ : ∃ G : Int, G = (a : Int) := ⟨_, rfl⟩
      have hal' : ∀ (f : Nat) (F : Int) (W : World), Below w.heap.size w W → f < a → F = (f : Int) → Calls Try.prog 23 #[.slice A l.length c, .int .i64 F, .int .i64 G] W fun e w' => e = .returned (.int .i64 (alkF l f a 18 : Nat)) ∧ Below W.heap.size W w' := fun f F W hb hf hF => by
        rw [hF, hG]
        exact hal f a W hb hf (by omega) (by omega)
      clear hal
      rw [← hG]
      have j1 : 0 ≤ G := by omega
      have j2 : G < (l.length : Int) := by omega
      have j3 : (l.length : Int) ≤ 65536 := by omega
      replace hal' := hide hal'; replace hr := hide hr; replace hG := hide hG
      clear ha ha' hL
      go_enter Try.func11, Try.ntmps11
      go_wp2
      go_loopw [7] (fun i wr => ∃ (I m d : Int), 1 ≤ I ∧ I ≤ 257 ∧ I ≤ G + 1 ∧ i = .int .i64 I ∧ 0 ≤ m ∧ m ≤ 18 ∧ Hid ((bestF l a (I - 1).toNat).1 = m ∧ (bestF l a (I - 1).toNat).2 = d) ∧ Hid (Below w.heap.size w wr) ∧ Hid (Blk wr w.heap.size 25 #[.int .u8 0, .int .i64 0, .int .i64 0]) ∧ Hid (Blk wr (w.heap.size + 1) 25 #[.int .u8 0, .int .i64 m, .int .i64 d])) (fun i _ => 258 - (intOf i).toNat)
      case atStart => exact ⟨1, 2, 0, by omega, by omega, by omega, rfl, by omega, by omega, hide ⟨rfl, rfl⟩, hide (by (repeat (first | with_reducible exact Below.refl _ _ | with_reducible assumption | with_reducible refine Below.drew ?_ | with_reducible refine bl_alloc ?_ _ | with_reducible refine bl_call ?_ (by assumption) | (focus (with_reducible refine Below.setCell ?_ ?_ _; rotate_left; focus (first | omega | (simp <;> omega)))) | fail))), hide (by (repeat (first | with_reducible assumption | (focus (with_reducible refine Blk.new ?_; focus (simp <;> fail))) | with_reducible refine Blk.set3 (a := .int .u8 0) (b := .int .i64 0) (c := .int .i64 0) ?_ | with_reducible refine Blk.alloc ?_ _ | with_reducible refine Blk.drew ?_ | (focus (with_reducible refine Blk.far ?_ ?_ _; rotate_left; focus (first | omega | (simp <;> omega)))) | (focus (with_reducible refine Blk.below ?_ hb1 ?_; rotate_left; focus (first | omega | (simp <;> omega)))) | (focus (with_reducible refine Blk.below ?_ hb2 ?_; rotate_left; focus (first | omega | (simp <;> omega)))) | (focus (with_reducible refine Blk.below ?_ hb3 ?_; rotate_left; focus (first | omega | (simp <;> omega)))) | (focus (with_reducible refine Blk.below ?_ hb4 ?_; rotate_left; focus (first | omega | (simp <;> omega)))) | (focus (with_reducible refine Blk.below ?_ hb5 ?_; rotate_left; focus (first | omega | (simp <;> omega)))) | (focus (with_reducible refine Blk.below ?_ hb6 ?_; rotate_left; focus (first | omega | (simp <;> omega)))) | (focus (with_reducible refine Blk.below ?_ hb7 ?_; rotate_left; focus (first | omega | (simp <;> omega)))) | (focus (with_reducible refine Blk.below ?_ hb8 ?_; rotate_left; focus (first | omega | (simp <;> omega)))) | (focus (with_reducible refine Blk.below ?_ hb9 ?_; rotate_left; focus (first | omega | (simp <;> omega)))) | (focus (with_reducible refine Blk.below ?_ hb10 ?_; rotate_left; focus (first | omega | (simp <;> omega)))) | (focus (with_reducible refine Blk.below ?_ hb11 ?_; rotate_left; focus (first | omega | (simp <;> omega)))) | (focus (with_reducible refine Blk.below ?_ hb12 ?_; rotate_left; focus (first | omega | (simp <;> omega)))) | fail))), hide (by (repeat (first | with_reducible assumption | (focus (with_reducible refine Blk.new ?_; focus (simp <;> fail))) | with_reducible refine Blk.set3 (a := .int .u8 0) (b := .int .i64 0) (c := .int .i64 0) ?_ | with_reducible refine Blk.alloc ?_ _ | with_reducible refine Blk.drew ?_ | (focus (with_reducible refine Blk.far ?_ ?_ _; rotate_left; focus (first | omega | (simp <;> omega)))) | (focus (with_reducible refine Blk.below ?_ hb1 ?_; rotate_left; focus (first | omega | (simp <;> omega)))) | (focus (with_reducible refine Blk.below ?_ hb2 ?_; rotate_left; focus (first | omega | (simp <;> omega)))) | (focus (with_reducible refine Blk.below ?_ hb3 ?_; rotate_left; focus (first | omega | (simp <;> omega)))) | (focus (with_reducible refine Blk.below ?_ hb4 ?_; rotate_left; focus (first | omega | (simp <;> omega)))) | (focus (with_reducible refine Blk.below ?_ hb5 ?_; rotate_left; focus (first | omega | (simp <;> omega)))) | (focus (with_reducible refine Blk.below ?_ hb6 ?_; rotate_left; focus (first | omega | (simp <;> omega)))) | (focus (with_reducible refine Blk.below ?_ hb7 ?_; rotate_left; focus (first | omega | (simp <;> omega)))) | (focus (with_reducible refine Blk.below ?_ hb8 ?_; rotate_left; focus (first | omega | (simp <;> omega)))) | (focus (with_reducible refine Blk.below ?_ hb9 ?_; rotate_left; focus (first | omega | (simp <;> omega)))) | (focus (with_reducible refine Blk.below ?_ hb10 ?_; rotate_left; focus (first | omega | (simp <;> omega)))) | (focus (with_reducible refine Blk.below ?_ hb11 ?_; rotate_left; focus (first | omega | (simp <;> omega)))) | (focus (with_reducible refine Blk.below ?_ hb12 ?_; rotate_left; focus (first | omega | (simp <;> omega)))) | fail)))⟩
      case round =>
        obtain ⟨I, m, d, k0, k1, k2, rfl, hm0, hm18, hm, hb, hB0, hB1⟩ := hrel
        have hG' := unhide hG
        have q1 := (unhide hB1).cell 1
        have q2 := (unhide hB1).cell 2
        have q0 := (unhide hB1).cell 0
        simp at q0 q1 q2
        have p0 := (unhide hB1).frozen 0
        have p1 := (unhide hB1).frozen 1
        have p2 := (unhide hB1).frozen 2
        have y0 : w.heap.size < wr.heap.size := (unhide hB0).lt
        have y1 : w.heap.size + 1 < wr.heap.size := (unhide hB1).lt
        have i1 : IntKind.i64.wrap (I + 1) = I + 1 := IntWalk.i64_in _ (by omega)
        have i2 : IntKind.i64.wrap (G - I) = G - I := IntWalk.i64_in _ (by omega)
        by_cases hlt : I ≤ 256 ∧ I ≤ G
        · obtain ⟨l1, l2⟩ := hlt
          have ha : Hid (∀ W : World, Below w.heap.size w W → Calls Try.prog 23 #[.slice A l.length c, .int .i64 (G - I), .int .i64 G] W fun e w' => e = .returned (.int .i64 (alkF l (a - I.toNat) a 18 : Nat)) ∧ Below W.heap.size W w') :=
            hide fun W hW => unhide hal' (a - I.toNat) (G - I) W hW (by omega) (by omega)
          have hbst : Hid (bestF l a (I + 1 - 1).toNat = if m < (alkF l (a - I.toNat) a 18 : Nat) then (alkF l (a - I.toNat) a 18, I.toNat) else bestF l a (I - 1).toNat) := by
            refine hide ?_
            rw [show (I + 1 - 1).toNat = (I - 1).toNat + 1 by omega, bestF, show (I - 1).toNat + 1 = I.toNat by omega, ← (unhide hm).1]
            simp
          have hle := alkF_le l (a - I.toNat) a 18
          clear hG'
          generalize alkF l (a - I.toNat) a 18 = n at *
          obtain ⟨N, hN⟩ : ∃ N : Int, N = (n : Int) := ⟨_, rfl⟩
          rw [← hN] at ha hbst
          have n0 : 0 ≤ N := by omega
          have n1 : N ≤ 18 := by omega
          replace hN := hide hN
          clear hle
          go_wp2_with (go_at_call 23; refine (unhide ha _ (by exact unhide hb)).mono ?_; rintro e w1 ⟨rfl, hb1⟩; obtain ⟨hc1, hf1⟩ := bcell hb1; have hz1 := hb1.size)
          · have hb0 := unhide hb
            have hn : m < N := by assumption
            go_roundw
            case rel =>
              refine ⟨I + 1, N, I, by omega, by omega, by omega, rfl, n0, n1, hide ?_, hide (by (repeat (first | with_reducible exact Below.refl _ _ | with_reducible assumption | with_reducible refine Below.drew ?_ | with_reducible refine bl_alloc ?_ _ | with_reducible refine bl_call ?_ (by assumption) | (focus (with_reducible refine Below.setCell ?_ ?_ _; rotate_left; focus (first | omega | (simp <;> omega)))) | fail))), hide ?_, hide ?_⟩
              · rw [unhide hbst, if_pos hn]; exact ⟨(unhide hN).symm, by simp only []; omega⟩
              · have B0 := unhide hB0
                exact Blk.far (Blk.far (Blk.far (B0.below hb1 y0) (by simp) _) (by simp) _) (by simp) _
              · exact Blk.set3 (Blk.below (unhide hB1) hb1 y1)
            case measure => simp [intOf]; omega
          · have hb0 := unhide hb
            have hn : ¬ m < N := by omega
            go_roundw
            case rel =>
              refine ⟨I + 1, m, d, by omega, by omega, by omega, rfl, hm0, hm18, hide ?_, hide (by (repeat (first | with_reducible exact Below.refl _ _ | with_reducible assumption | with_reducible refine Below.drew ?_ | with_reducible refine bl_alloc ?_ _ | with_reducible refine bl_call ?_ (by assumption) | (focus (with_reducible refine Below.setCell ?_ ?_ _; rotate_left; focus (first | omega | (simp <;> omega)))) | fail))), hide (Blk.below (unhide hB0) hb1 y0), hide (Blk.below (unhide hB1) hb1 y1)⟩
              rw [unhide hbst, if_neg hn]; exact unhide hm
            case measure => simp [intOf]; omega
        · have hI : (I - 1).toNat = min a 256 := by omega
          have hm1 := unhide hm
          rw [hI] at hm1
          obtain ⟨m1, m2⟩ := hm1
          have hr' := unhide hr
          rw [m1, m2] at hr'
          have u0 := (unhide hB0).cell 0
          have u1 := (unhide hB0).cell 1
          have u2 := (unhide hB0).cell 2
          simp at u0 u1 u2
          have v0 := (unhide hB0).frozen 0
          have v1 := (unhide hB0).frozen 1
          have v2 := (unhide hB0).frozen 2
          by_cases hd : d = 0
          · rw [if_pos (by omega)] at hr'
            injection hr' with r1 r2
            subst r1 r2 hd
            clear hG' m1 m2 hI i1 i2 hr hal' hm
            go_wp2_with fail
            all_goals (have B0 := unhide hB0; have hb0 := unhide hb)
            all_goals (refine ret_tk rfl w.heap.size (.int .u8 0) (.int .i64 0) (.int .i64 0) (.int .i64 4) rfl rfl ?_ rfl ⟨ret_tki rfl rfl rfl rfl, by (repeat (first | with_reducible exact Below.refl _ _ | with_reducible assumption | with_reducible refine Below.drew ?_ | with_reducible refine bl_alloc ?_ _ | with_reducible refine bl_call ?_ (by assumption) | (focus (with_reducible refine Below.setCell ?_ ?_ _; rotate_left; focus (first | omega | (simp <;> omega)))) | fail))⟩; (repeat (first | with_reducible assumption | (focus (with_reducible refine Blk.new ?_; focus (simp <;> fail))) | with_reducible refine Blk.set3 (a := .int .u8 0) (b := .int .i64 0) (c := .int .i64 0) ?_ | with_reducible refine Blk.alloc ?_ _ | with_reducible refine Blk.drew ?_ | (focus (with_reducible refine Blk.far ?_ ?_ _; rotate_left; focus (first | omega | (simp <;> omega)))) | (focus (with_reducible refine Blk.below ?_ hb1 ?_; rotate_left; focus (first | omega | (simp <;> omega)))) | (focus (with_reducible refine Blk.below ?_ hb2 ?_; rotate_left; focus (first | omega | (simp <;> omega)))) | (focus (with_reducible refine Blk.below ?_ hb3 ?_; rotate_left; focus (first | omega | (simp <;> omega)))) | (focus (with_reducible refine Blk.below ?_ hb4 ?_; rotate_left; focus (first | omega | (simp <;> omega)))) | (focus (with_reducible refine Blk.below ?_ hb5 ?_; rotate_left; focus (first | omega | (simp <;> omega)))) | (focus (with_reducible refine Blk.below ?_ hb6 ?_; rotate_left; focus (first | omega | (simp <;> omega)))) | (focus (with_reducible refine Blk.below ?_ hb7 ?_; rotate_left; focus (first | omega | (simp <;> omega)))) | (focus (with_reducible refine Blk.below ?_ hb8 ?_; rotate_left; focus (first | omega | (simp <;> omega)))) | (focus (with_reducible refine Blk.below ?_ hb9 ?_; rotate_left; focus (first | omega | (simp <;> omega)))) | (focus (with_reducible refine Blk.below ?_ hb10 ?_; rotate_left; focus (first | omega | (simp <;> omega)))) | (focus (with_reducible refine Blk.below ?_ hb11 ?_; rotate_left; focus (first | omega | (simp <;> omega)))) | (focus (with_reducible refine Blk.below ?_ hb12 ?_; rotate_left; focus (first | omega | (simp <;> omega)))) | fail)))
          · rw [if_neg (by omega)] at hr'
            injection hr' with r1 r2
            subst r1 r2
            clear hG' m1 m2 hI i1 i2 hr hal' hm
            go_wp2_with fail
            all_goals (have B0 := unhide hB0; have hb0 := unhide hb)
            all_goals (refine ret_tk rfl w.heap.size (.int .u8 0) (.int .i64 m) (.int .i64 d) (.int .i64 0) rfl rfl ?_ rfl ⟨rfl, by (repeat (first | with_reducible exact Below.refl _ _ | with_reducible assumption | with_reducible refine Below.drew ?_ | with_reducible refine bl_alloc ?_ _ | with_reducible refine bl_call ?_ (by assumption) | (focus (with_reducible refine Below.setCell ?_ ?_ _; rotate_left; focus (first | omega | (simp <;> omega)))) | fail))⟩; (repeat (first | with_reducible assumption | (focus (with_reducible refine Blk.new ?_; focus (simp <;> fail))) | with_reducible refine Blk.set3 (a := .int .u8 0) (b := .int .i64 0) (c := .int .i64 0) ?_ | with_reducible refine Blk.alloc ?_ _ | with_reducible refine Blk.drew ?_ | (focus (with_reducible refine Blk.far ?_ ?_ _; rotate_left; focus (first | omega | (simp <;> omega)))) | (focus (with_reducible refine Blk.below ?_ hb1 ?_; rotate_left; focus (first | omega | (simp <;> omega)))) | (focus (with_reducible refine Blk.below ?_ hb2 ?_; rotate_left; focus (first | omega | (simp <;> omega)))) | (focus (with_reducible refine Blk.below ?_ hb3 ?_; rotate_left; focus (first | omega | (simp <;> omega)))) | (focus (with_reducible refine Blk.below ?_ hb4 ?_; rotate_left; focus (first | omega | (simp <;> omega)))) | (focus (with_reducible refine Blk.below ?_ hb5 ?_; rotate_left; focus (first | omega | (simp <;> omega)))) | (focus (with_reducible refine Blk.below ?_ hb6 ?_; rotate_left; focus (first | omega | (simp <;> omega)))) | (focus (with_reducible refine Blk.below ?_ hb7 ?_; rotate_left; focus (first | omega | (simp <;> omega)))) | (focus (with_reducible refine Blk.below ?_ hb8 ?_; rotate_left; focus (first | omega | (simp <;> omega)))) | (focus (with_reducible refine Blk.below ?_ hb9 ?_; rotate_left; focus (first | omega | (simp <;> omega)))) | (focus (with_reducible refine Blk.below ?_ hb10 ?_; rotate_left; focus (first | omega | (simp <;> omega)))) | (focus (with_reducible refine Blk.below ?_ hb11 ?_; rotate_left; focus (first | omega | (simp <;> omega)))) | (focus (with_reducible refine Blk.below ?_ hb12 ?_; rotate_left; focus (first | omega | (simp <;> omega)))) | fail)))
end Go.Proofs.Ytiobhglhfjbcbaa
