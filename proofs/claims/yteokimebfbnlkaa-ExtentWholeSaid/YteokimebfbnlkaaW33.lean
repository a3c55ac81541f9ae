import Derived.Test.YteokimebfbnlkaaW32
namespace Go.Proofs.Yteokimebfbnlkaa
open Go.RowKit

set_option maxRecDepth 100000 in
set_option maxHeartbeats 32000000 in
theorem whole_bad (lo : Nat) (v vo : Value) (x : Xs) (n : Int) (ord : List Int) (w : World) (h : XsR lo w.heap.size w v x) (hr : Rgs x.free) (hvo : Os 0 w.heap.size w vo ord) (hn : 1 ≤ n) (hL : ord.length ≤ 40) (hfw : (decide ((x.size ≤ 100 ∨ 8192 < x.size) ∧ x.free.length ≤ 60)) = true) (ok : okX x = false) :
    Calls Try.prog 8 #[v, .int .i64 n, vo] w fun e w' => e = .returned (.bool true) ∧ Below w.heap.size w w' := by
  have hfew : ∀ W, Below w.heap.size w W → Calls Try.prog 10 #[v] W fun e w' => e = .returned (.bool (decide ((x.size ≤ 100 ∨ 8192 < x.size) ∧ x.free.length ≤ 60))) ∧ Below W.heap.size W w' := fun W hB => few_any v x lo W (h.grow hB)
  rw [hfw] at hfew
  have hC : ∀ W, Below w.heap.size w W → Calls Try.prog 22 #[v] W fun e w' => e = .returned (.int .i64 (badE (okX x))) ∧ Below W.heap.size W w' := fun W hB => check_any lo v x W (h.grow hB) hr
  rw [ok] at hC
  simp only [badE, Bool.false_eq_true, if_false] at hC
  have ht : TakeOut x n ⟨0, 0⟩ noX 1 := .inl ⟨fun k => by rw [ok] at k; exact absurd k.1 (by simp), rfl, rfl, rfl⟩
  obtain ⟨b0, rfl, hb0⟩ := id h
  obtain ⟨Ax, cx, rfl, n1, n2, _⟩ := hb0.open
  obtain ⟨Bo, co, rfl, m1, m2, hord⟩ := hvo.open
  clear hvo hfw
  replace hfew := hide hfew; replace hC := hide hC; replace h := hide h; replace hb0 := hide hb0; replace hord := hide hord; replace ht := hide ht; replace hr := hide hr
  have gd1 : ¬ (40 : Int) < ord.length := by omega
  have gd2 : ¬ n < 1 := by omega
  go_enter Try.func8, Try.ntmps8
  go_wp2_with (first
    | (go_at_call 9; refine (live_any _).mono ?_; rintro e w1 ⟨rfl, hb1⟩; have hz1 := hb1.size; (try simp at hz1); have y1 : w.heap.size < w1.heap.size := (by omega); have M1 : Blk w1 w.heap.size 24 #[.int .i64 x.size, .slice Ax x.free.length cx] := Blk.below (by (repeat (first | with_reducible assumption | (focus (with_reducible refine Blk.new ?_; focus (simp <;> fail))) | with_reducible refine Blk.set3 (a := .slice none 0 0) (b := .slice none 0 0) (c := .int .i64 0) ?_ | with_reducible refine Blk.alloc ?_ _ | with_reducible refine Blk.drew ?_ | (focus (with_reducible refine Blk.far ?_ ?_ _; rotate_left; focus (first | omega | (simp <;> omega)))) | (focus (with_reducible refine Blk.below ?_ hb1 ?_; rotate_left; focus (first | omega | (simp <;> omega)))) | (focus (with_reducible refine Blk.below ?_ hb2 ?_; rotate_left; focus (first | omega | (simp <;> omega)))) | (focus (with_reducible refine Blk.below ?_ hb3 ?_; rotate_left; focus (first | omega | (simp <;> omega)))) | (focus (with_reducible refine Blk.below ?_ hb4 ?_; rotate_left; focus (first | omega | (simp <;> omega)))) | (focus (with_reducible refine Blk.below ?_ hb5 ?_; rotate_left; focus (first | omega | (simp <;> omega)))) | (focus (with_reducible refine Blk.below ?_ hb6 ?_; rotate_left; focus (first | omega | (simp <;> omega)))) | (focus (with_reducible refine Blk.below ?_ hb7 ?_; rotate_left; focus (first | omega | (simp <;> omega)))) | (focus (with_reducible refine Blk.below ?_ hb8 ?_; rotate_left; focus (first | omega | (simp <;> omega)))) | (focus (with_reducible refine Blk.below ?_ hb9 ?_; rotate_left; focus (first | omega | (simp <;> omega)))) | (focus (with_reducible refine Blk.below ?_ hb10 ?_; rotate_left; focus (first | omega | (simp <;> omega)))) | (focus (with_reducible refine Blk.below ?_ hb11 ?_; rotate_left; focus (first | omega | (simp <;> omega)))) | (focus (with_reducible refine Blk.below ?_ hb12 ?_; rotate_left; focus (first | omega | (simp <;> omega)))) | (focus (with_reducible refine Blk.below ?_ hb13 ?_; rotate_left; focus (first | omega | (simp <;> omega)))) | (focus (with_reducible refine Blk.below ?_ hb14 ?_; rotate_left; focus (first | omega | (simp <;> omega)))) | (focus (with_reducible refine Blk.below ?_ hb15 ?_; rotate_left; focus (first | omega | (simp <;> omega)))) | fail))) hb1 (by first | omega | (simp <;> omega)); have m1a := M1.cell 0; have m1b := M1.cell 1; simp at m1a m1b)
    | (go_at_call 10; refine (unhide hfew _ (by (repeat (first | with_reducible exact Below.refl _ _ | with_reducible assumption | with_reducible refine Below.drew ?_ | with_reducible refine bl_alloc ?_ _ | with_reducible refine bl_call ?_ (by assumption) | (focus (with_reducible refine Below.setCell ?_ ?_ _; rotate_left; focus (first | omega | (simp <;> omega)))) | fail)))).mono ?_; rintro e w2 ⟨rfl, hb2⟩; have M2 : Blk w2 w.heap.size 24 #[.int .i64 x.size, .slice Ax x.free.length cx] := Blk.below M1 hb2 y1; have m2a := M2.cell 0; have m2b := M2.cell 1; simp at m2a m2b; have y2 : w.heap.size < w2.heap.size := M2.lt; have bw2 : Below w.heap.size w w2 := (by (repeat (first | with_reducible exact Below.refl _ _ | with_reducible assumption | with_reducible refine Below.drew ?_ | with_reducible refine bl_alloc ?_ _ | with_reducible refine bl_call ?_ (by assumption) | (focus (with_reducible refine Below.setCell ?_ ?_ _; rotate_left; focus (first | omega | (simp <;> omega)))) | fail))); replace bw2 := hide bw2; replace M2 := hide M2)
    | fail)
  obtain ⟨g9, hg9⟩ : ∃ g9, g9 = w2.heap.size := ⟨_, rfl⟩
  rw [← hg9]
  have hwg : w.heap.size < g9 := by rw [hg9]; exact y2
  replace hg9 := hide hg9; replace hwg := hide hwg
  clear m1a m1b m2a m2b M1
  go_loopw [8, 35] (fun s8 i wx => i = .int .i64 0 ∧ s8 = .slice none 0 0 ∧ Hid (Exs 0 wx.heap.size wx (.slice Ax x.free.length cx) x.free) ∧ Hid (Blk wx g9 24 #[.int .i64 x.size, .slice Ax x.free.length cx]) ∧ Hid (Blk wx w.heap.size 24 #[.int .i64 x.size, .slice Ax x.free.length cx]) ∧ Hid (Below w.heap.size w wx)) (fun _ i _ => ord.length - (intOf i).toNat)
  case atStart =>
    refine ⟨rfl, rfl, hide ?_, hide (Blk.new (unhide hg9)), hide ((unhide M2).alloc _), hide (bl_alloc (unhide bw2) _)⟩
    exact ((unhide hb0).below (bl_alloc (unhide bw2) _) (Nat.le_refl _)).mono (Nat.zero_le _) (by have := (unhide bw2).size; simp; omega)
  case round =>
    clear bw2 M2
    obtain ⟨rfl, rfl, hE, B9, BP, bw⟩ := hrel
    by_cases hlt : 0 < ord.length
    · have hT := take_at (unhide ht) (unhide hr) 0 (.agg #[.int .i64 x.size, .slice Ax x.free.length cx]) wr ⟨_, rfl, unhide hE⟩
      have q0 := (unhide B9).cell 0
      have q1 := (unhide B9).cell 1
      simp at q0 q1
      have yP : w.heap.size < wr.heap.size := (unhide BP).lt
      have y9 : g9 < wr.heap.size := (unhide B9).lt
      replace hT := hide hT
      go_wp2_with (first
        | (go_at_call 11; refine (unhide hT).mono ?_; rintro e w3 ⟨A3, c3, rfl, hx3, hb3⟩; clear hx3; have hz3 := hb3.size)
        | fail)
      have hb4 := bl_alloc (bl_alloc hb3 (.cells #[.int .i64 0, .int .i64 0] 26)) (.cells #[.int .i64 noX.size, .slice A3 noX.free.length c3] 24)
      replace hb4 := hide hb4
      clear hb3 hz3
      go_loopw [8, 54] (fun s8 i wx => i = .int .i64 0 ∧ s8 = .slice none 0 0 ∧ Hid (Blk wx w.heap.size 24 #[.int .i64 x.size, .slice Ax x.free.length cx]) ∧ Hid (Below w.heap.size w wx)) (fun _ i _ => ord.length - (intOf i).toNat)
      case atStart => exact ⟨rfl, rfl, hide (Blk.below (unhide BP) (unhide hb4) yP), hide (bl_call (unhide bw) (unhide hb4))⟩
      case round =>
        clear BP bw
        obtain ⟨rfl, rfl, BP, bw⟩ := hrel
        by_cases hlt : 0 < ord.length
        · obtain ⟨bo, oo, rfl, o1, o2, o3⟩ := unhide hord 0 hlt
          have z0 := ((unhide bw).cell (p := ⟨bo, oo + 0, none⟩) o2).trans o3
          rw [Nat.add_zero] at z0
          generalize ord[0] = z at *
          have yo : bo < wr.heap.size := World.block_lt_of_cell? wr _ z0
          clear o1 o2 o3
          have hbwF := unhide bw
          replace hbwF := hide hbwF
          have pF := unhide BP
          have pF0 := pF.cell 0
          have pF1 := pF.cell 1
          simp at pF0 pF1
          have yF : w.heap.size < wr.heap.size := pF.lt
          replace pF := hide pF
          go_wp2_with (first
            | (go_at_call 22; refine (unhide hC _ (unhide hbwF)).mono ?_; rintro e wc ⟨rfl, hbc⟩)
            | fail)
          go_ret
          exact ⟨rfl, bl_call (unhide hbwF) hbc⟩
        · have hl0 : ord.length = 0 := by omega
          have hbwF := unhide bw
          replace hbwF := hide hbwF
          have pF := unhide BP
          have pF0 := pF.cell 0
          have pF1 := pF.cell 1
          simp at pF0 pF1
          have yF : w.heap.size < wr.heap.size := pF.lt
          replace pF := hide pF
          go_wp2_with (first
            | (go_at_call 22; refine (unhide hC _ (unhide hbwF)).mono ?_; rintro e wc ⟨rfl, hbc⟩)
            | fail)
          go_ret
          exact ⟨rfl, bl_call (unhide hbwF) hbc⟩
    · have hl1 : ord.length = 0 := by omega
      go_wp2_with fail
      go_loopw [8, 54] (fun s8 i wx => i = .int .i64 0 ∧ s8 = .slice none 0 0 ∧ Hid (Blk wx w.heap.size 24 #[.int .i64 x.size, .slice Ax x.free.length cx]) ∧ Hid (Below w.heap.size w wx)) (fun _ i _ => ord.length - (intOf i).toNat)
      case atStart => exact ⟨rfl, rfl, BP, bw⟩
      case round =>
        clear BP bw
        obtain ⟨rfl, rfl, BP, bw⟩ := hrel
        by_cases hlt : 0 < ord.length
        · obtain ⟨bo, oo, rfl, o1, o2, o3⟩ := unhide hord 0 hlt
          have z0 := ((unhide bw).cell (p := ⟨bo, oo + 0, none⟩) o2).trans o3
          rw [Nat.add_zero] at z0
          generalize ord[0] = z at *
          have yo : bo < wr.heap.size := World.block_lt_of_cell? wr _ z0
          clear o1 o2 o3
          have hbwF := unhide bw
          replace hbwF := hide hbwF
          have pF := unhide BP
          have pF0 := pF.cell 0
          have pF1 := pF.cell 1
          simp at pF0 pF1
          have yF : w.heap.size < wr.heap.size := pF.lt
          replace pF := hide pF
          go_wp2_with (first
            | (go_at_call 22; refine (unhide hC _ (unhide hbwF)).mono ?_; rintro e wc ⟨rfl, hbc⟩)
            | fail)
          go_ret
          exact ⟨rfl, bl_call (unhide hbwF) hbc⟩
        · have hl0 : ord.length = 0 := by omega
          have hbwF := unhide bw
          replace hbwF := hide hbwF
          have pF := unhide BP
          have pF0 := pF.cell 0
          have pF1 := pF.cell 1
          simp at pF0 pF1
          have yF : w.heap.size < wr.heap.size := pF.lt
          replace pF := hide pF
          go_wp2_with (first
            | (go_at_call 22; refine (unhide hC _ (unhide hbwF)).mono ?_; rintro e wc ⟨rfl, hbc⟩)
            | fail)
          go_ret
          exact ⟨rfl, bl_call (unhide hbwF) hbc⟩
end Go.Proofs.Yteokimebfbnlkaa
