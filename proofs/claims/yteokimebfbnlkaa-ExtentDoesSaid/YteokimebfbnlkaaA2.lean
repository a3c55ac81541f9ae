import Derived.Test.YteokimebfbnlkaaA1
namespace Go.Proofs.Yteokimebfbnlkaa
open Go.RowKit

/-- Where the one ahead of the k-th ends. -/
def prevTo (l : List Ex) : Nat → Int
  | 0 => -1
  | j + 1 => match l[j]? with | some p => p.at_ + p.len | none => -1

set_option linter.unusedSimpArgs false in
set_option maxRecDepth 100000 in
set_option maxHeartbeats 4000000 in
theorem refcheck_any (lo : Nat) (v : Value) (x : Xs) (w : World) (h : XsR lo w.heap.size w v x) :
    Calls Try.prog 23 #[v] w fun e w' => e = .returned (.int .i64 (badE (okX x))) ∧ Below w.heap.size w w' := by
  obtain ⟨b, rfl, hb⟩ := h
  obtain ⟨A, c, rfl, h1, h2, h3⟩ := hb.open
  have hk : okX x = (decide (0 ≤ x.size) && decide (x.size ≤ 8192) && okF x.size (-1) x.free) := rfl
  replace hk := hide hk; replace h3 := hide h3; clear hb
  generalize hn : x.size = n at *
  generalize hl : x.free = l at *
  clear hn hl
  obtain ⟨N, hN⟩ : ∃ N, N = l.length := ⟨_, rfl⟩
  rw [← hN] at h1 ⊢
  replace hN := hide hN
  by_cases hsz : 0 ≤ n ∧ n ≤ 8192
  · obtain ⟨s1, s2⟩ := hsz
    have hok : okX x = okF n (-1) l := by rw [unhide hk]; simp [s1, s2]
    replace hok := hide hok
    clear hk
    go_enter Try.func23, Try.ntmps23
    go_wp2_with fail
    go_loopw [16] (fun i wr => ∃ (k : Nat), k ≤ N ∧ i = .int .i64 k ∧ Hid (okF n (-1) l = okF n (prevTo l k) (l.drop k)) ∧ Hid (∀ j, (h : j < l.length) → j < k → isOfB l[j] n = true) ∧ Hid (Below w.heap.size w wr) ∧ Hid (Blk wr w.heap.size 24 #[.int .i64 n, .slice A N c])) (fun i _ => N - (intOf i).toNat)
    case atStart => exact ⟨0, Nat.zero_le _, rfl, hide (by simp [prevTo]), hide (fun j _ h => absurd h (Nat.not_lt_zero _)), hide (by (repeat (first | with_reducible exact Below.refl _ _ | with_reducible assumption | with_reducible refine Below.drew ?_ | with_reducible refine bl_alloc ?_ _ | with_reducible refine bl_call ?_ (by assumption) | (focus (with_reducible refine Below.setCell ?_ ?_ _; rotate_left; focus (first | omega | (simp <;> omega)))) | fail))), hide (by (repeat (first | with_reducible assumption | (focus (with_reducible refine Blk.new ?_; focus (simp <;> fail))) | with_reducible refine Blk.set3 (a := .slice none 0 0) (b := .slice none 0 0) (c := .int .i64 0) ?_ | with_reducible refine Blk.alloc ?_ _ | with_reducible refine Blk.drew ?_ | (focus (with_reducible refine Blk.far ?_ ?_ _; rotate_left; focus (first | omega | (simp <;> omega)))) | (focus (with_reducible refine Blk.below ?_ hb1 ?_; rotate_left; focus (first | omega | (simp <;> omega)))) | (focus (with_reducible refine Blk.below ?_ hb2 ?_; rotate_left; focus (first | omega | (simp <;> omega)))) | (focus (with_reducible refine Blk.below ?_ hb3 ?_; rotate_left; focus (first | omega | (simp <;> omega)))) | (focus (with_reducible refine Blk.below ?_ hb4 ?_; rotate_left; focus (first | omega | (simp <;> omega)))) | (focus (with_reducible refine Blk.below ?_ hb5 ?_; rotate_left; focus (first | omega | (simp <;> omega)))) | (focus (with_reducible refine Blk.below ?_ hb6 ?_; rotate_left; focus (first | omega | (simp <;> omega)))) | (focus (with_reducible refine Blk.below ?_ hb7 ?_; rotate_left; focus (first | omega | (simp <;> omega)))) | (focus (with_reducible refine Blk.below ?_ hb8 ?_; rotate_left; focus (first | omega | (simp <;> omega)))) | (focus (with_reducible refine Blk.below ?_ hb9 ?_; rotate_left; focus (first | omega | (simp <;> omega)))) | (focus (with_reducible refine Blk.below ?_ hb10 ?_; rotate_left; focus (first | omega | (simp <;> omega)))) | (focus (with_reducible refine Blk.below ?_ hb11 ?_; rotate_left; focus (first | omega | (simp <;> omega)))) | (focus (with_reducible refine Blk.below ?_ hb12 ?_; rotate_left; focus (first | omega | (simp <;> omega)))) | (focus (with_reducible refine Blk.below ?_ hb13 ?_; rotate_left; focus (first | omega | (simp <;> omega)))) | (focus (with_reducible refine Blk.below ?_ hb14 ?_; rotate_left; focus (first | omega | (simp <;> omega)))) | (focus (with_reducible refine Blk.below ?_ hb15 ?_; rotate_left; focus (first | omega | (simp <;> omega)))) | fail)))⟩
    case round =>
      obtain ⟨k, hk', rfl, hw, hal, hb, hc⟩ := hrel
      by_cases hlt : k < N
      · have hlt' : k < l.length := by rw [← unhide hN]; exact hlt
        obtain ⟨b, off, rfl, g1, g2, q0, q1⟩ := unhide h3 k hlt'
        have c0 := ((unhide hb).cell (p := ⟨b, off + k * 2, none⟩) g2).trans q0
        have c1 := ((unhide hb).cell (p := ⟨b, off + k * 2 + 1, none⟩) g2).trans q1
        have c2 := (unhide hc).cell 0
        have c3 := (unhide hc).cell 1
        simp at c2 c3
        have y1 : w.heap.size < wr.heap.size := World.block_lt_of_cell? wr _ c2
        have y2 : b < wr.heap.size := World.block_lt_of_cell? wr _ c0
        have hd : l.drop k = l[k] :: l.drop (k + 1) := List.drop_eq_getElem_cons hlt'
        have hpt : prevTo l (k + 1) = l[k].at_ + l[k].len := by simp [prevTo, List.getElem?_eq_getElem hlt']
        have hall : isOfB l[k] n = true → ∀ j, (h : j < l.length) → j < k + 1 → isOfB l[j] n = true := fun e j h hj => by
          rcases Nat.lt_or_ge j k with h1 | h1
          · exact unhide hal j h h1
          · obtain rfl : j = k := by omega
            exact e
        have hpv : ∀ j, k = j + 1 → ∃ p : Ex, (0 ≤ p.at_ ∧ 1 ≤ p.len ∧ p.at_ + p.len ≤ n) ∧ prevTo l k = p.at_ + p.len ∧ wr.cell? ⟨b, off + j * 2, none⟩ = some (.int .i64 p.at_) ∧ wr.cell? ⟨b, off + j * 2 + 1, none⟩ = some (.int .i64 p.len) := fun j hj => by
          have hj' : j < l.length := by omega
          obtain ⟨b', off', he', f1, f2, z0, z1⟩ := unhide h3 j hj'
          injection he' with he'
          injection he' with e1 e2 e3
          subst e1 e2
          exact ⟨l[j], isOfB_iff.1 (unhide hal j hj' (by omega)), by rw [hj]; simp [prevTo, List.getElem?_eq_getElem hj'], ((unhide hb).cell (p := ⟨b, off + j * 2, none⟩) f2).trans z0, ((unhide hb).cell (p := ⟨b, off + j * 2 + 1, none⟩) f2).trans z1⟩
        replace hall := hide hall; replace hpv := hide hpv; replace hpt := hide hpt; replace hd := hide hd
        generalize l[k] = f at *
        obtain ⟨fa, fl⟩ := f
        simp only [] at c0 c1
        have i1 : (k : Int) < (N : Int) := by omega
        have i2 : (0 : Int) ≤ (k : Int) := by omega
        have i3 : IntKind.i64.wrap ((k : Int) + 1) = (k : Int) + 1 := IntWalk.i64_in _ (by omega)
        have hi := fun W => refis_any ⟨fa, fl⟩ n W s1 s2
        replace hi := hide hi
        clear q0 q1 g1
        by_cases ho : isOfB ⟨fa, fl⟩ n = true
        · have hh := isOfB_iff.1 ho
          simp only [] at hh
          replace hh := hide hh
          replace hall := hide (unhide hall ho)
          replace ho := hide ho
          by_cases hk0 : k = 0
          · have hp0 : prevTo l k = -1 := by rw [hk0]; rfl
            have a4 : decide (0 < k) = false := by rw [hk0]; rfl
            have hb0 := unhide hb
            replace hp0 := hide hp0; replace hk0 := hide hk0; replace hb0 := hide hb0
            clear hpv
            go_upto_region 6 with fail
            refine wp_region_held_drew (S := (fun W => W.cell? ⟨w.heap.size, 0, none⟩ = some (.int .i64 n) ∧ W.cell? ⟨wr.heap.size, 0, none⟩ = some (.int .i64 fa) ∧ W.cell? ⟨wr.heap.size, 1, none⟩ = some (.int .i64 fl))) (by kernel_rfl) (by first | exact ⟨by assumption, by assumption, by assumption⟩ | exact ⟨by go_simp, by go_simp, by go_simp⟩) (fun hHeld => ?_)
            refine' wpAnyH_take (i := 0) (oi := { dst := some 21, op := Op.fieldAddr 24 (Operand.tmp 1) 0, type := 0, pos := "ref.go:30", after := #[], guard := none }) (v := _) rfl (by kernel_rfl) (by kernel_rfl) (by kernel_rfl) (fun _ _ _ h => h) (Or.inl ⟨by rfl, ?hy1⟩) (by assumption) ?rest1
            case hy1 => (intro W hSw; (try dsimp only at hSw); go_simp <;> with_reducible rfl)
            (try dsimp only []); (try simp only [Act.put, List.setIfInBounds_toArray, List.set_cons_zero, List.set_cons_succ])
            refine' wpAnyH_take (i := 1) (oi := { dst := some 22, op := Op.load 3 (Operand.tmp 21), type := 3, pos := "ref.go:30", after := #[{ on := 0, ground := Ground.data }], guard := none }) (v := _) rfl (by kernel_rfl) (by kernel_rfl) (by kernel_rfl) (fun _ _ _ h => h) (Or.inl ⟨by rfl, ?hy2⟩) (by assumption) ?rest2
            case hy2 => (intro W hSw; (try dsimp only at hSw); go_simp <;> with_reducible rfl)
            (try dsimp only []); (try simp only [Act.put, List.setIfInBounds_toArray, List.set_cons_zero, List.set_cons_succ])
            refine' wpAnyH_take (i := 2) (oi := { dst := some 23, op := Op.load 26 (Operand.tmp 4), type := 26, pos := "ref.go:30", after := #[], guard := none }) (v := _) rfl (by kernel_rfl) (by kernel_rfl) (by kernel_rfl) (fun _ _ _ h => h) (Or.inl ⟨by rfl, ?hy3⟩) (by assumption) ?rest3
            case hy3 => (intro W hSw; (try dsimp only at hSw); go_simp <;> with_reducible rfl)
            (try dsimp only []); (try simp only [Act.put, List.setIfInBounds_toArray, List.set_cons_zero, List.set_cons_succ])
            refine wpAnyH_ready (rs := [3]) (by kernel_rfl) (by simp) ?_
            refine AllReadyH.cons (o := { dst := some 24, op := Op.call { callee := Callee.value (Operand.func 31), args := #[Operand.tmp 22, Operand.tmp 23], argTypes := #[3, 26] }, type := 4, pos := "ref.go:30", after := #[{ on := 1, ground := Ground.data }, { on := 2, ground := Ground.data }], guard := none }) rfl (fun K hK => ?_) AllReadyH.nil
            go_simp
            go_at_call 31; refine (unhide hi _).mono ?_; rintro e w1 ⟨rfl, hb1⟩; rw [unhide ho]; obtain ⟨hc1, hf1⟩ := bcell hb1; have hz1 := hb1.size; (try simp at hz1); have p1 : w.heap.size < w1.heap.size := (by omega); have p2 : wr.heap.size < w1.heap.size := (by omega)
            refine hK.out _ _ (by first | exact ⟨by assumption, by assumption, by assumption⟩ | exact ⟨by go_simp, by go_simp, by go_simp⟩) (fun hHeld2 => ?_)
            clear hK K hHeld
            (try dsimp only []); (try simp only [Act.put, List.setIfInBounds_toArray, List.set_cons_zero, List.set_cons_succ])
            refine' wpAnyH_take (i := 4) (oi := { dst := some 25, op := Op.unOp UnOp.not 4 (Operand.tmp 24), type := 4, pos := "ref.go:30", after := #[{ on := 3, ground := Ground.data }], guard := none }) (v := _) rfl (by kernel_rfl) (by kernel_rfl) (by kernel_rfl) (fun _ _ _ h => h) (Or.inl ⟨by rfl, ?hy4⟩) (by assumption) ?rest4
            case hy4 => (intro W hSw; (try dsimp only at hSw); go_simp <;> with_reducible rfl)
            (try dsimp only []); (try simp only [Act.put, List.setIfInBounds_toArray, List.set_cons_zero, List.set_cons_succ])
            refine' wpAnyH_take (i := 5) (oi := { dst := some 26, op := Op.move (Operand.tmp 25), type := 4, pos := "ref.go:30", after := #[{ on := 4, ground := Ground.data }, { on := 3, ground := Ground.chain }], guard := none }) (v := _) rfl (by kernel_rfl) (by kernel_rfl) (by kernel_rfl) (fun _ _ _ h => h) (Or.inl ⟨by rfl, ?hy5⟩) (by assumption) ?rest5
            case hy5 => (intro W hSw; (try dsimp only at hSw); go_simp <;> with_reducible rfl)
            (try dsimp only []); (try simp only [Act.put, List.setIfInBounds_toArray, List.set_cons_zero, List.set_cons_succ])
            refine' wpAnyH_take (i := 6) (oi := { dst := some 27, op := Op.move (Operand.tmp 3), type := 3, pos := "ref.go:30", after := #[{ on := 5, ground := Ground.guard }], guard := some (5, false) }) (v := _) rfl (by kernel_rfl) (by kernel_rfl) (by kernel_rfl) (fun _ _ _ h => h) (Or.inl ⟨by rfl, ?hy6⟩) (by assumption) ?rest6
            case hy6 => (intro W hSw; (try dsimp only at hSw); go_simp <;> with_reducible rfl)
            (try dsimp only []); (try simp only [Act.put, List.setIfInBounds_toArray, List.set_cons_zero, List.set_cons_succ])
            refine' wpAnyH_take (i := 7) (oi := { dst := some 28, op := Op.binOp BinOp.gtr 3 (Operand.tmp 27) (Operand.const (Value.int IntKind.i64 0)) 3, type := 4, pos := "ref.go:30", after := #[{ on := 6, ground := Ground.data }, { on := 5, ground := Ground.guard }], guard := some (5, false) }) (v := _) rfl (by kernel_rfl) (by kernel_rfl) (by kernel_rfl) (fun _ _ _ h => h) (Or.inl ⟨by rfl, ?hy7⟩) (by assumption) ?rest7
            case hy7 => (intro W hSw; (try dsimp only at hSw); go_simp <;> with_reducible rfl)
            (try dsimp only []); (try simp only [Act.put, List.setIfInBounds_toArray, List.set_cons_zero, List.set_cons_succ])
            refine' wpAnyH_take (i := 8) (oi := { dst := some 29, op := Op.move (Operand.tmp 28), type := 4, pos := "ref.go:30", after := #[{ on := 7, ground := Ground.data }, { on := 5, ground := Ground.chain }, { on := 5, ground := Ground.guard }], guard := some (5, false) }) (v := _) rfl (by kernel_rfl) (by kernel_rfl) (by kernel_rfl) (fun _ _ _ h => h) (Or.inl ⟨by rfl, ?hy8⟩) (by assumption) ?rest8
            case hy8 => (intro W hSw; (try dsimp only at hSw); go_simp <;> with_reducible rfl)
            (try dsimp only []); (try simp only [Act.put, List.setIfInBounds_toArray, List.set_cons_zero, List.set_cons_succ])
            refine wpAnyH_take (i := 9) (oi := { dst := some 30, op := Op.fieldAddr 24 (Operand.tmp 1) 1, type := 0, pos := "ref.go:30", after := #[{ on := 8, ground := Ground.guard }], guard := some (8, true) }) (v := undef) rfl (by kernel_rfl) (by kernel_rfl) (by kernel_rfl) (fun _ _ _ h => h) (Or.inr ⟨by rfl, rfl⟩) (by assumption) ?_
            (try dsimp only []); (try simp only [Act.put, List.setIfInBounds_toArray, List.set_cons_zero, List.set_cons_succ])
            refine wpAnyH_take (i := 10) (oi := { dst := some 31, op := Op.load 22 (Operand.tmp 30), type := 22, pos := "ref.go:30", after := #[{ on := 9, ground := Ground.data }, { on := 8, ground := Ground.guard }], guard := some (8, true) }) (v := undef) rfl (by kernel_rfl) (by kernel_rfl) (by kernel_rfl) (fun _ _ _ h => h) (Or.inr ⟨by rfl, rfl⟩) (by assumption) ?_
            (try dsimp only []); (try simp only [Act.put, List.setIfInBounds_toArray, List.set_cons_zero, List.set_cons_succ])
            refine wpAnyH_take (i := 11) (oi := { dst := some 32, op := Op.move (Operand.tmp 3), type := 3, pos := "ref.go:30", after := #[{ on := 8, ground := Ground.guard }], guard := some (8, true) }) (v := undef) rfl (by kernel_rfl) (by kernel_rfl) (by kernel_rfl) (fun _ _ _ h => h) (Or.inr ⟨by rfl, rfl⟩) (by assumption) ?_
            (try dsimp only []); (try simp only [Act.put, List.setIfInBounds_toArray, List.set_cons_zero, List.set_cons_succ])
            refine wpAnyH_take (i := 12) (oi := { dst := some 33, op := Op.binOp BinOp.sub 3 (Operand.tmp 32) (Operand.const (Value.int IntKind.i64 1)) 3, type := 3, pos := "ref.go:30", after := #[{ on := 11, ground := Ground.data }, { on := 8, ground := Ground.guard }], guard := some (8, true) }) (v := undef) rfl (by kernel_rfl) (by kernel_rfl) (by kernel_rfl) (fun _ _ _ h => h) (Or.inr ⟨by rfl, rfl⟩) (by assumption) ?_
            (try dsimp only []); (try simp only [Act.put, List.setIfInBounds_toArray, List.set_cons_zero, List.set_cons_succ])
            refine wpAnyH_take (i := 13) (oi := { dst := some 34, op := Op.indexAddr 22 (Operand.tmp 31) (Operand.tmp 33), type := 0, pos := "ref.go:30", after := #[{ on := 10, ground := Ground.data }, { on := 12, ground := Ground.data }, { on := 8, ground := Ground.guard }], guard := some (8, true) }) (v := undef) rfl (by kernel_rfl) (by kernel_rfl) (by kernel_rfl) (fun _ _ _ h => h) (Or.inr ⟨by rfl, rfl⟩) (by assumption) ?_
            (try dsimp only []); (try simp only [Act.put, List.setIfInBounds_toArray, List.set_cons_zero, List.set_cons_succ])
            refine wpAnyH_take (i := 14) (oi := { dst := some 35, op := Op.fieldAddr 26 (Operand.tmp 34) 0, type := 0, pos := "ref.go:30", after := #[{ on := 13, ground := Ground.data }, { on := 8, ground := Ground.guard }], guard := some (8, true) }) (v := undef) rfl (by kernel_rfl) (by kernel_rfl) (by kernel_rfl) (fun _ _ _ h => h) (Or.inr ⟨by rfl, rfl⟩) (by assumption) ?_
            (try dsimp only []); (try simp only [Act.put, List.setIfInBounds_toArray, List.set_cons_zero, List.set_cons_succ])
            refine wpAnyH_take (i := 15) (oi := { dst := some 36, op := Op.load 3 (Operand.tmp 35), type := 3, pos := "ref.go:30", after := #[{ on := 14, ground := Ground.data }, { on := 8, ground := Ground.guard }], guard := some (8, true) }) (v := undef) rfl (by kernel_rfl) (by kernel_rfl) (by kernel_rfl) (fun _ _ _ h => h) (Or.inr ⟨by rfl, rfl⟩) (by assumption) ?_
            (try dsimp only []); (try simp only [Act.put, List.setIfInBounds_toArray, List.set_cons_zero, List.set_cons_succ])
            refine wpAnyH_take (i := 16) (oi := { dst := some 37, op := Op.fieldAddr 24 (Operand.tmp 1) 1, type := 0, pos := "ref.go:30", after := #[{ on := 8, ground := Ground.guard }], guard := some (8, true) }) (v := undef) rfl (by kernel_rfl) (by kernel_rfl) (by kernel_rfl) (fun _ _ _ h => h) (Or.inr ⟨by rfl, rfl⟩) (by assumption) ?_
            (try dsimp only []); (try simp only [Act.put, List.setIfInBounds_toArray, List.set_cons_zero, List.set_cons_succ])
            refine wpAnyH_take (i := 17) (oi := { dst := some 38, op := Op.load 22 (Operand.tmp 37), type := 22, pos := "ref.go:30", after := #[{ on := 16, ground := Ground.data }, { on := 8, ground := Ground.guard }], guard := some (8, true) }) (v := undef) rfl (by kernel_rfl) (by kernel_rfl) (by kernel_rfl) (fun _ _ _ h => h) (Or.inr ⟨by rfl, rfl⟩) (by assumption) ?_
            (try dsimp only []); (try simp only [Act.put, List.setIfInBounds_toArray, List.set_cons_zero, List.set_cons_succ])
            refine wpAnyH_take (i := 18) (oi := { dst := some 39, op := Op.move (Operand.tmp 3), type := 3, pos := "ref.go:30", after := #[{ on := 8, ground := Ground.guard }], guard := some (8, true) }) (v := undef) rfl (by kernel_rfl) (by kernel_rfl) (by kernel_rfl) (fun _ _ _ h => h) (Or.inr ⟨by rfl, rfl⟩) (by assumption) ?_
            (try dsimp only []); (try simp only [Act.put, List.setIfInBounds_toArray, List.set_cons_zero, List.set_cons_succ])
            refine wpAnyH_take (i := 19) (oi := { dst := some 40, op := Op.binOp BinOp.sub 3 (Operand.tmp 39) (Operand.const (Value.int IntKind.i64 1)) 3, type := 3, pos := "ref.go:30", after := #[{ on := 18, ground := Ground.data }, { on := 8, ground := Ground.guard }], guard := some (8, true) }) (v := undef) rfl (by kernel_rfl) (by kernel_rfl) (by kernel_rfl) (fun _ _ _ h => h) (Or.inr ⟨by rfl, rfl⟩) (by assumption) ?_
            (try dsimp only []); (try simp only [Act.put, List.setIfInBounds_toArray, List.set_cons_zero, List.set_cons_succ])
            refine wpAnyH_take (i := 20) (oi := { dst := some 41, op := Op.indexAddr 22 (Operand.tmp 38) (Operand.tmp 40), type := 0, pos := "ref.go:30", after := #[{ on := 17, ground := Ground.data }, { on := 19, ground := Ground.data }, { on := 8, ground := Ground.guard }], guard := some (8, true) }) (v := undef) rfl (by kernel_rfl) (by kernel_rfl) (by kernel_rfl) (fun _ _ _ h => h) (Or.inr ⟨by rfl, rfl⟩) (by assumption) ?_
            (try dsimp only []); (try simp only [Act.put, List.setIfInBounds_toArray, List.set_cons_zero, List.set_cons_succ])
            refine wpAnyH_take (i := 21) (oi := { dst := some 42, op := Op.fieldAddr 26 (Operand.tmp 41) 1, type := 0, pos := "ref.go:30", after := #[{ on := 20, ground := Ground.data }, { on := 8, ground := Ground.guard }], guard := some (8, true) }) (v := undef) rfl (by kernel_rfl) (by kernel_rfl) (by kernel_rfl) (fun _ _ _ h => h) (Or.inr ⟨by rfl, rfl⟩) (by assumption) ?_
            (try dsimp only []); (try simp only [Act.put, List.setIfInBounds_toArray, List.set_cons_zero, List.set_cons_succ])
            refine wpAnyH_take (i := 22) (oi := { dst := some 43, op := Op.load 3 (Operand.tmp 42), type := 3, pos := "ref.go:30", after := #[{ on := 21, ground := Ground.data }, { on := 8, ground := Ground.guard }], guard := some (8, true) }) (v := undef) rfl (by kernel_rfl) (by kernel_rfl) (by kernel_rfl) (fun _ _ _ h => h) (Or.inr ⟨by rfl, rfl⟩) (by assumption) ?_
            (try dsimp only []); (try simp only [Act.put, List.setIfInBounds_toArray, List.set_cons_zero, List.set_cons_succ])
            refine wpAnyH_take (i := 23) (oi := { dst := some 44, op := Op.binOp BinOp.add 3 (Operand.tmp 36) (Operand.tmp 43) 3, type := 3, pos := "ref.go:30", after := #[{ on := 15, ground := Ground.data }, { on := 22, ground := Ground.data }, { on := 8, ground := Ground.guard }], guard := some (8, true) }) (v := undef) rfl (by kernel_rfl) (by kernel_rfl) (by kernel_rfl) (fun _ _ _ h => h) (Or.inr ⟨by rfl, rfl⟩) (by assumption) ?_
            (try dsimp only []); (try simp only [Act.put, List.setIfInBounds_toArray, List.set_cons_zero, List.set_cons_succ])
            refine wpAnyH_take (i := 24) (oi := { dst := some 45, op := Op.fieldAddr 26 (Operand.tmp 4) 0, type := 0, pos := "ref.go:30", after := #[{ on := 8, ground := Ground.guard }], guard := some (8, true) }) (v := undef) rfl (by kernel_rfl) (by kernel_rfl) (by kernel_rfl) (fun _ _ _ h => h) (Or.inr ⟨by rfl, rfl⟩) (by assumption) ?_
            (try dsimp only []); (try simp only [Act.put, List.setIfInBounds_toArray, List.set_cons_zero, List.set_cons_succ])
            refine wpAnyH_take (i := 25) (oi := { dst := some 46, op := Op.load 3 (Operand.tmp 45), type := 3, pos := "ref.go:30", after := #[{ on := 24, ground := Ground.data }, { on := 8, ground := Ground.guard }], guard := some (8, true) }) (v := undef) rfl (by kernel_rfl) (by kernel_rfl) (by kernel_rfl) (fun _ _ _ h => h) (Or.inr ⟨by rfl, rfl⟩) (by assumption) ?_
            (try dsimp only []); (try simp only [Act.put, List.setIfInBounds_toArray, List.set_cons_zero, List.set_cons_succ])
            refine wpAnyH_take (i := 26) (oi := { dst := some 47, op := Op.binOp BinOp.geq 3 (Operand.tmp 44) (Operand.tmp 46) 3, type := 4, pos := "ref.go:30", after := #[{ on := 23, ground := Ground.data }, { on := 25, ground := Ground.data }, { on := 8, ground := Ground.guard }], guard := some (8, true) }) (v := undef) rfl (by kernel_rfl) (by kernel_rfl) (by kernel_rfl) (fun _ _ _ h => h) (Or.inr ⟨by rfl, rfl⟩) (by assumption) ?_
            (try dsimp only []); (try simp only [Act.put, List.setIfInBounds_toArray, List.set_cons_zero, List.set_cons_succ])
            refine' wpAnyH_take (i := 27) (oi := { dst := some 48, op := Op.pick (Operand.tmp 29) (Operand.tmp 47) (Operand.const (Value.bool false)), type := 4, pos := "ref.go:30", after := #[{ on := 8, ground := Ground.data }, { on := 26, ground := Ground.data }, { on := 5, ground := Ground.guard }], guard := some (5, false) }) (v := _) rfl (by kernel_rfl) (by kernel_rfl) (by kernel_rfl) (fun _ _ _ h => h) (Or.inl ⟨by rfl, ?hy9⟩) (by assumption) ?rest9
            case hy9 => (intro W hSw; (try dsimp only at hSw); go_simp <;> with_reducible rfl)
            (try dsimp only []); (try simp only [Act.put, List.setIfInBounds_toArray, List.set_cons_zero, List.set_cons_succ])
            refine' wpAnyH_take (i := 28) (oi := { dst := some 49, op := Op.pick (Operand.tmp 26) (Operand.const (Value.bool true)) (Operand.tmp 48), type := 4, pos := "ref.go:30", after := #[{ on := 5, ground := Ground.data }, { on := 27, ground := Ground.data }], guard := none }) (v := _) rfl (by kernel_rfl) (by kernel_rfl) (by kernel_rfl) (fun _ _ _ h => h) (Or.inl ⟨by rfl, ?hy10⟩) (by assumption) ?rest10
            case hy10 => (intro W hSw; (try dsimp only at hSw); go_simp <;> with_reducible rfl)
            (try dsimp only []); (try simp only [Act.put, List.setIfInBounds_toArray, List.set_cons_zero, List.set_cons_succ])
            refine wpAnyH_done (by kernel_rfl) ?_ _
            go_wp2_with fail
            have hb0 := unhide hb0
            clear i3
            go_roundw
            case rel =>
              refine ⟨k + 1, by omega, by go_num, hide ?_, hall, hide (by (repeat (first | with_reducible exact Below.refl _ _ | with_reducible assumption | with_reducible refine Below.drew ?_ | with_reducible refine bl_alloc ?_ _ | with_reducible refine bl_call ?_ (by assumption) | (focus (with_reducible refine Below.setCell ?_ ?_ _; rotate_left; focus (first | omega | (simp <;> omega)))) | fail))), hide (((unhide hc).alloc _).drew.below hb1 (by first | omega | (simp; omega)))⟩
              have hh' := unhide hh
              rw [unhide hw, unhide hd, okF, unhide ho, unhide hp0, show decide (-1 < (⟨fa, fl⟩ : Ex).at_) = true by simp; omega, unhide hpt]
              rfl
            case measure => simp [intOf]; omega
          · obtain ⟨j, hj⟩ : ∃ j, k = j + 1 := ⟨k - 1, by omega⟩
            obtain ⟨⟨pa, pl⟩, hp, hp0, e0, e1⟩ := unhide hpv j hj
            simp only [] at hp hp0 e0 e1
            have a4 : decide (0 < k) = true := by simp; omega
            have i5 : IntKind.i64.wrap ((k : Int) - 1) = (j : Int) := by rw [IntWalk.i64_in _ (by omega)]; omega
            have i6 : (0 : Int) ≤ (j : Int) := by omega
            have i7 : (j : Int) < (N : Int) := by omega
            have i8 : IntKind.i64.wrap (pa + pl) = pa + pl := IntWalk.i64_in _ (by omega)
            replace hj := hide hj
            replace hp := hide hp; replace hp0 := hide hp0; replace hk0 := hide hk0; replace hb0 := hb
            clear hpv
            cases a5 : decide (fa ≤ pa + pl)
            · go_upto_region 6 with fail
              go_region_held3 (fun W => W.cell? ⟨w.heap.size, 0, none⟩ = some (.int .i64 n) ∧ W.cell? ⟨w.heap.size, 1, none⟩ = some (.slice (some ⟨b, off, none⟩) N c) ∧ W.cell? ⟨wr.heap.size, 0, none⟩ = some (.int .i64 fa) ∧ W.cell? ⟨wr.heap.size, 1, none⟩ = some (.int .i64 fl) ∧ W.cell? ⟨b, off + j * 2, none⟩ = some (.int .i64 pa) ∧ W.cell? ⟨b, off + j * 2 + 1, none⟩ = some (.int .i64 pl)) (first | exact ⟨by assumption, by assumption, by assumption, by assumption, by assumption, by assumption⟩ | exact ⟨by go_simp, by go_simp, by go_simp, by go_simp, by go_simp, by go_simp⟩)
                (first
                  | (go_at_call 31; refine (unhide hi _).mono ?_; rintro e w1 ⟨rfl, hb1⟩; rw [unhide ho]; obtain ⟨hc1, hf1⟩ := bcell hb1; have hz1 := hb1.size; (try simp at hz1); have p1 : w.heap.size < w1.heap.size := (by omega); have p2 : wr.heap.size < w1.heap.size := (by omega); have p3 : b < w1.heap.size := (by omega)))
              go_wp2_with fail
              have hb0 := unhide hb
              clear i3 i5 i8
              go_roundw
              case rel =>
                refine ⟨k + 1, by omega, by go_num, hide ?_, hall, hide (by (repeat (first | with_reducible exact Below.refl _ _ | with_reducible assumption | with_reducible refine Below.drew ?_ | with_reducible refine bl_alloc ?_ _ | with_reducible refine bl_call ?_ (by assumption) | (focus (with_reducible refine Below.setCell ?_ ?_ _; rotate_left; focus (first | omega | (simp <;> omega)))) | fail))), hide (((unhide hc).alloc _).drew.below hb1 (by first | omega | (simp; omega)))⟩
                have hh' := unhide hh
                rw [unhide hw, unhide hd, okF, unhide ho, unhide hp0, show decide (pa + pl < (⟨fa, fl⟩ : Ex).at_) = true by simp at a5 ⊢; omega, unhide hpt]
                rfl
              case measure => simp [intOf]; omega
            · go_upto_region 6 with fail
              go_region_held3 (fun W => W.cell? ⟨w.heap.size, 0, none⟩ = some (.int .i64 n) ∧ W.cell? ⟨w.heap.size, 1, none⟩ = some (.slice (some ⟨b, off, none⟩) N c) ∧ W.cell? ⟨wr.heap.size, 0, none⟩ = some (.int .i64 fa) ∧ W.cell? ⟨wr.heap.size, 1, none⟩ = some (.int .i64 fl) ∧ W.cell? ⟨b, off + j * 2, none⟩ = some (.int .i64 pa) ∧ W.cell? ⟨b, off + j * 2 + 1, none⟩ = some (.int .i64 pl)) (first | exact ⟨by assumption, by assumption, by assumption, by assumption, by assumption, by assumption⟩ | exact ⟨by go_simp, by go_simp, by go_simp, by go_simp, by go_simp, by go_simp⟩)
                (first
                  | (go_at_call 31; refine (unhide hi _).mono ?_; rintro e w1 ⟨rfl, hb1⟩; rw [unhide ho]; obtain ⟨hc1, hf1⟩ := bcell hb1; have hz1 := hb1.size; (try simp at hz1); have p1 : w.heap.size < w1.heap.size := (by omega); have p2 : wr.heap.size < w1.heap.size := (by omega); have p3 : b < w1.heap.size := (by omega)))
              go_wp2_with fail
              have hb0 := unhide hb
              go_ret
              refine ⟨ret_i rfl ?_, by (repeat (first | with_reducible exact Below.refl _ _ | with_reducible assumption | with_reducible refine Below.drew ?_ | with_reducible refine bl_alloc ?_ _ | with_reducible refine bl_call ?_ (by assumption) | (focus (with_reducible refine Below.setCell ?_ ?_ _; rotate_left; focus (first | omega | (simp <;> omega)))) | fail))⟩
              rw [unhide hok, unhide hw, unhide hd, okF, unhide hp0, show decide (pa + pl < (⟨fa, fl⟩ : Ex).at_) = false by simp at a5 ⊢; omega]
              simp [badE]
        · have ho' : isOfB ⟨fa, fl⟩ n = false := by simpa using ho
          replace ho' := hide ho'
          clear hpv ho
          go_upto_region 6 with fail
          refine wp_region_held_drew (S := (fun W => W.cell? ⟨w.heap.size, 0, none⟩ = some (.int .i64 n) ∧ W.cell? ⟨wr.heap.size, 0, none⟩ = some (.int .i64 fa) ∧ W.cell? ⟨wr.heap.size, 1, none⟩ = some (.int .i64 fl))) (by kernel_rfl) (by first | exact ⟨by assumption, by assumption, by assumption⟩ | exact ⟨by go_simp, by go_simp, by go_simp⟩) (fun hHeld => ?_)
          refine' wpAnyH_take (i := 0) (oi := { dst := some 21, op := Op.fieldAddr 24 (Operand.tmp 1) 0, type := 0, pos := "ref.go:30", after := #[], guard := none }) (v := _) rfl (by kernel_rfl) (by kernel_rfl) (by kernel_rfl) (fun _ _ _ h => h) (Or.inl ⟨by rfl, ?hy11⟩) (by assumption) ?rest11
          case hy11 => (intro W hSw; (try dsimp only at hSw); go_simp <;> with_reducible rfl)
          (try dsimp only []); (try simp only [Act.put, List.setIfInBounds_toArray, List.set_cons_zero, List.set_cons_succ])
          refine' wpAnyH_take (i := 1) (oi := { dst := some 22, op := Op.load 3 (Operand.tmp 21), type := 3, pos := "ref.go:30", after := #[{ on := 0, ground := Ground.data }], guard := none }) (v := _) rfl (by kernel_rfl) (by kernel_rfl) (by kernel_rfl) (fun _ _ _ h => h) (Or.inl ⟨by rfl, ?hy12⟩) (by assumption) ?rest12
          case hy12 => (intro W hSw; (try dsimp only at hSw); go_simp <;> with_reducible rfl)
          (try dsimp only []); (try simp only [Act.put, List.setIfInBounds_toArray, List.set_cons_zero, List.set_cons_succ])
          refine' wpAnyH_take (i := 2) (oi := { dst := some 23, op := Op.load 26 (Operand.tmp 4), type := 26, pos := "ref.go:30", after := #[], guard := none }) (v := _) rfl (by kernel_rfl) (by kernel_rfl) (by kernel_rfl) (fun _ _ _ h => h) (Or.inl ⟨by rfl, ?hy13⟩) (by assumption) ?rest13
          case hy13 => (intro W hSw; (try dsimp only at hSw); go_simp <;> with_reducible rfl)
          (try dsimp only []); (try simp only [Act.put, List.setIfInBounds_toArray, List.set_cons_zero, List.set_cons_succ])
          refine wpAnyH_ready (rs := [3]) (by kernel_rfl) (by simp) ?_
          refine AllReadyH.cons (o := { dst := some 24, op := Op.call { callee := Callee.value (Operand.func 31), args := #[Operand.tmp 22, Operand.tmp 23], argTypes := #[3, 26] }, type := 4, pos := "ref.go:30", after := #[{ on := 1, ground := Ground.data }, { on := 2, ground := Ground.data }], guard := none }) rfl (fun K hK => ?_) AllReadyH.nil
          go_simp
          go_at_call 31; refine (unhide hi _).mono ?_; rintro e w1 ⟨rfl, hb1⟩; rw [unhide ho']; obtain ⟨hc1, hf1⟩ := bcell hb1; have hz1 := hb1.size; (try simp at hz1); have p1 : w.heap.size < w1.heap.size := (by omega); have p2 : wr.heap.size < w1.heap.size := (by omega)
          refine hK.out _ _ (by first | exact ⟨by assumption, by assumption, by assumption⟩ | exact ⟨by go_simp, by go_simp, by go_simp⟩) (fun hHeld2 => ?_)
          clear hK K hHeld
          (try dsimp only []); (try simp only [Act.put, List.setIfInBounds_toArray, List.set_cons_zero, List.set_cons_succ])
          refine' wpAnyH_take (i := 4) (oi := { dst := some 25, op := Op.unOp UnOp.not 4 (Operand.tmp 24), type := 4, pos := "ref.go:30", after := #[{ on := 3, ground := Ground.data }], guard := none }) (v := _) rfl (by kernel_rfl) (by kernel_rfl) (by kernel_rfl) (fun _ _ _ h => h) (Or.inl ⟨by rfl, ?hy14⟩) (by assumption) ?rest14
          case hy14 => (intro W hSw; (try dsimp only at hSw); go_simp <;> with_reducible rfl)
          (try dsimp only []); (try simp only [Act.put, List.setIfInBounds_toArray, List.set_cons_zero, List.set_cons_succ])
          refine' wpAnyH_take (i := 5) (oi := { dst := some 26, op := Op.move (Operand.tmp 25), type := 4, pos := "ref.go:30", after := #[{ on := 4, ground := Ground.data }, { on := 3, ground := Ground.chain }], guard := none }) (v := _) rfl (by kernel_rfl) (by kernel_rfl) (by kernel_rfl) (fun _ _ _ h => h) (Or.inl ⟨by rfl, ?hy15⟩) (by assumption) ?rest15
          case hy15 => (intro W hSw; (try dsimp only at hSw); go_simp <;> with_reducible rfl)
          (try dsimp only []); (try simp only [Act.put, List.setIfInBounds_toArray, List.set_cons_zero, List.set_cons_succ])
          refine wpAnyH_take (i := 6) (oi := { dst := some 27, op := Op.move (Operand.tmp 3), type := 3, pos := "ref.go:30", after := #[{ on := 5, ground := Ground.guard }], guard := some (5, false) }) (v := undef) rfl (by kernel_rfl) (by kernel_rfl) (by kernel_rfl) (fun _ _ _ h => h) (Or.inr ⟨by rfl, rfl⟩) (by assumption) ?_
          (try dsimp only []); (try simp only [Act.put, List.setIfInBounds_toArray, List.set_cons_zero, List.set_cons_succ])
          refine wpAnyH_take (i := 7) (oi := { dst := some 28, op := Op.binOp BinOp.gtr 3 (Operand.tmp 27) (Operand.const (Value.int IntKind.i64 0)) 3, type := 4, pos := "ref.go:30", after := #[{ on := 6, ground := Ground.data }, { on := 5, ground := Ground.guard }], guard := some (5, false) }) (v := undef) rfl (by kernel_rfl) (by kernel_rfl) (by kernel_rfl) (fun _ _ _ h => h) (Or.inr ⟨by rfl, rfl⟩) (by assumption) ?_
          (try dsimp only []); (try simp only [Act.put, List.setIfInBounds_toArray, List.set_cons_zero, List.set_cons_succ])
          refine wpAnyH_take (i := 8) (oi := { dst := some 29, op := Op.move (Operand.tmp 28), type := 4, pos := "ref.go:30", after := #[{ on := 7, ground := Ground.data }, { on := 5, ground := Ground.chain }, { on := 5, ground := Ground.guard }], guard := some (5, false) }) (v := undef) rfl (by kernel_rfl) (by kernel_rfl) (by kernel_rfl) (fun _ _ _ h => h) (Or.inr ⟨by rfl, rfl⟩) (by assumption) ?_
          (try dsimp only []); (try simp only [Act.put, List.setIfInBounds_toArray, List.set_cons_zero, List.set_cons_succ])
          refine wpAnyH_take (i := 9) (oi := { dst := some 30, op := Op.fieldAddr 24 (Operand.tmp 1) 1, type := 0, pos := "ref.go:30", after := #[{ on := 8, ground := Ground.guard }], guard := some (8, true) }) (v := undef) rfl (by kernel_rfl) (by kernel_rfl) (by kernel_rfl) (fun _ _ _ h => h) (Or.inr ⟨by rfl, rfl⟩) (by assumption) ?_
          (try dsimp only []); (try simp only [Act.put, List.setIfInBounds_toArray, List.set_cons_zero, List.set_cons_succ])
          refine wpAnyH_take (i := 10) (oi := { dst := some 31, op := Op.load 22 (Operand.tmp 30), type := 22, pos := "ref.go:30", after := #[{ on := 9, ground := Ground.data }, { on := 8, ground := Ground.guard }], guard := some (8, true) }) (v := undef) rfl (by kernel_rfl) (by kernel_rfl) (by kernel_rfl) (fun _ _ _ h => h) (Or.inr ⟨by rfl, rfl⟩) (by assumption) ?_
          (try dsimp only []); (try simp only [Act.put, List.setIfInBounds_toArray, List.set_cons_zero, List.set_cons_succ])
          refine wpAnyH_take (i := 11) (oi := { dst := some 32, op := Op.move (Operand.tmp 3), type := 3, pos := "ref.go:30", after := #[{ on := 8, ground := Ground.guard }], guard := some (8, true) }) (v := undef) rfl (by kernel_rfl) (by kernel_rfl) (by kernel_rfl) (fun _ _ _ h => h) (Or.inr ⟨by rfl, rfl⟩) (by assumption) ?_
          (try dsimp only []); (try simp only [Act.put, List.setIfInBounds_toArray, List.set_cons_zero, List.set_cons_succ])
          refine wpAnyH_take (i := 12) (oi := { dst := some 33, op := Op.binOp BinOp.sub 3 (Operand.tmp 32) (Operand.const (Value.int IntKind.i64 1)) 3, type := 3, pos := "ref.go:30", after := #[{ on := 11, ground := Ground.data }, { on := 8, ground := Ground.guard }], guard := some (8, true) }) (v := undef) rfl (by kernel_rfl) (by kernel_rfl) (by kernel_rfl) (fun _ _ _ h => h) (Or.inr ⟨by rfl, rfl⟩) (by assumption) ?_
          (try dsimp only []); (try simp only [Act.put, List.setIfInBounds_toArray, List.set_cons_zero, List.set_cons_succ])
          refine wpAnyH_take (i := 13) (oi := { dst := some 34, op := Op.indexAddr 22 (Operand.tmp 31) (Operand.tmp 33), type := 0, pos := "ref.go:30", after := #[{ on := 10, ground := Ground.data }, { on := 12, ground := Ground.data }, { on := 8, ground := Ground.guard }], guard := some (8, true) }) (v := undef) rfl (by kernel_rfl) (by kernel_rfl) (by kernel_rfl) (fun _ _ _ h => h) (Or.inr ⟨by rfl, rfl⟩) (by assumption) ?_
          (try dsimp only []); (try simp only [Act.put, List.setIfInBounds_toArray, List.set_cons_zero, List.set_cons_succ])
          refine wpAnyH_take (i := 14) (oi := { dst := some 35, op := Op.fieldAddr 26 (Operand.tmp 34) 0, type := 0, pos := "ref.go:30", after := #[{ on := 13, ground := Ground.data }, { on := 8, ground := Ground.guard }], guard := some (8, true) }) (v := undef) rfl (by kernel_rfl) (by kernel_rfl) (by kernel_rfl) (fun _ _ _ h => h) (Or.inr ⟨by rfl, rfl⟩) (by assumption) ?_
          (try dsimp only []); (try simp only [Act.put, List.setIfInBounds_toArray, List.set_cons_zero, List.set_cons_succ])
          refine wpAnyH_take (i := 15) (oi := { dst := some 36, op := Op.load 3 (Operand.tmp 35), type := 3, pos := "ref.go:30", after := #[{ on := 14, ground := Ground.data }, { on := 8, ground := Ground.guard }], guard := some (8, true) }) (v := undef) rfl (by kernel_rfl) (by kernel_rfl) (by kernel_rfl) (fun _ _ _ h => h) (Or.inr ⟨by rfl, rfl⟩) (by assumption) ?_
          (try dsimp only []); (try simp only [Act.put, List.setIfInBounds_toArray, List.set_cons_zero, List.set_cons_succ])
          refine wpAnyH_take (i := 16) (oi := { dst := some 37, op := Op.fieldAddr 24 (Operand.tmp 1) 1, type := 0, pos := "ref.go:30", after := #[{ on := 8, ground := Ground.guard }], guard := some (8, true) }) (v := undef) rfl (by kernel_rfl) (by kernel_rfl) (by kernel_rfl) (fun _ _ _ h => h) (Or.inr ⟨by rfl, rfl⟩) (by assumption) ?_
          (try dsimp only []); (try simp only [Act.put, List.setIfInBounds_toArray, List.set_cons_zero, List.set_cons_succ])
          refine wpAnyH_take (i := 17) (oi := { dst := some 38, op := Op.load 22 (Operand.tmp 37), type := 22, pos := "ref.go:30", after := #[{ on := 16, ground := Ground.data }, { on := 8, ground := Ground.guard }], guard := some (8, true) }) (v := undef) rfl (by kernel_rfl) (by kernel_rfl) (by kernel_rfl) (fun _ _ _ h => h) (Or.inr ⟨by rfl, rfl⟩) (by assumption) ?_
          (try dsimp only []); (try simp only [Act.put, List.setIfInBounds_toArray, List.set_cons_zero, List.set_cons_succ])
          refine wpAnyH_take (i := 18) (oi := { dst := some 39, op := Op.move (Operand.tmp 3), type := 3, pos := "ref.go:30", after := #[{ on := 8, ground := Ground.guard }], guard := some (8, true) }) (v := undef) rfl (by kernel_rfl) (by kernel_rfl) (by kernel_rfl) (fun _ _ _ h => h) (Or.inr ⟨by rfl, rfl⟩) (by assumption) ?_
          (try dsimp only []); (try simp only [Act.put, List.setIfInBounds_toArray, List.set_cons_zero, List.set_cons_succ])
          refine wpAnyH_take (i := 19) (oi := { dst := some 40, op := Op.binOp BinOp.sub 3 (Operand.tmp 39) (Operand.const (Value.int IntKind.i64 1)) 3, type := 3, pos := "ref.go:30", after := #[{ on := 18, ground := Ground.data }, { on := 8, ground := Ground.guard }], guard := some (8, true) }) (v := undef) rfl (by kernel_rfl) (by kernel_rfl) (by kernel_rfl) (fun _ _ _ h => h) (Or.inr ⟨by rfl, rfl⟩) (by assumption) ?_
          (try dsimp only []); (try simp only [Act.put, List.setIfInBounds_toArray, List.set_cons_zero, List.set_cons_succ])
          refine wpAnyH_take (i := 20) (oi := { dst := some 41, op := Op.indexAddr 22 (Operand.tmp 38) (Operand.tmp 40), type := 0, pos := "ref.go:30", after := #[{ on := 17, ground := Ground.data }, { on := 19, ground := Ground.data }, { on := 8, ground := Ground.guard }], guard := some (8, true) }) (v := undef) rfl (by kernel_rfl) (by kernel_rfl) (by kernel_rfl) (fun _ _ _ h => h) (Or.inr ⟨by rfl, rfl⟩) (by assumption) ?_
          (try dsimp only []); (try simp only [Act.put, List.setIfInBounds_toArray, List.set_cons_zero, List.set_cons_succ])
          refine wpAnyH_take (i := 21) (oi := { dst := some 42, op := Op.fieldAddr 26 (Operand.tmp 41) 1, type := 0, pos := "ref.go:30", after := #[{ on := 20, ground := Ground.data }, { on := 8, ground := Ground.guard }], guard := some (8, true) }) (v := undef) rfl (by kernel_rfl) (by kernel_rfl) (by kernel_rfl) (fun _ _ _ h => h) (Or.inr ⟨by rfl, rfl⟩) (by assumption) ?_
          (try dsimp only []); (try simp only [Act.put, List.setIfInBounds_toArray, List.set_cons_zero, List.set_cons_succ])
          refine wpAnyH_take (i := 22) (oi := { dst := some 43, op := Op.load 3 (Operand.tmp 42), type := 3, pos := "ref.go:30", after := #[{ on := 21, ground := Ground.data }, { on := 8, ground := Ground.guard }], guard := some (8, true) }) (v := undef) rfl (by kernel_rfl) (by kernel_rfl) (by kernel_rfl) (fun _ _ _ h => h) (Or.inr ⟨by rfl, rfl⟩) (by assumption) ?_
          (try dsimp only []); (try simp only [Act.put, List.setIfInBounds_toArray, List.set_cons_zero, List.set_cons_succ])
          refine wpAnyH_take (i := 23) (oi := { dst := some 44, op := Op.binOp BinOp.add 3 (Operand.tmp 36) (Operand.tmp 43) 3, type := 3, pos := "ref.go:30", after := #[{ on := 15, ground := Ground.data }, { on := 22, ground := Ground.data }, { on := 8, ground := Ground.guard }], guard := some (8, true) }) (v := undef) rfl (by kernel_rfl) (by kernel_rfl) (by kernel_rfl) (fun _ _ _ h => h) (Or.inr ⟨by rfl, rfl⟩) (by assumption) ?_
          (try dsimp only []); (try simp only [Act.put, List.setIfInBounds_toArray, List.set_cons_zero, List.set_cons_succ])
          refine wpAnyH_take (i := 24) (oi := { dst := some 45, op := Op.fieldAddr 26 (Operand.tmp 4) 0, type := 0, pos := "ref.go:30", after := #[{ on := 8, ground := Ground.guard }], guard := some (8, true) }) (v := undef) rfl (by kernel_rfl) (by kernel_rfl) (by kernel_rfl) (fun _ _ _ h => h) (Or.inr ⟨by rfl, rfl⟩) (by assumption) ?_
          (try dsimp only []); (try simp only [Act.put, List.setIfInBounds_toArray, List.set_cons_zero, List.set_cons_succ])
          refine wpAnyH_take (i := 25) (oi := { dst := some 46, op := Op.load 3 (Operand.tmp 45), type := 3, pos := "ref.go:30", after := #[{ on := 24, ground := Ground.data }, { on := 8, ground := Ground.guard }], guard := some (8, true) }) (v := undef) rfl (by kernel_rfl) (by kernel_rfl) (by kernel_rfl) (fun _ _ _ h => h) (Or.inr ⟨by rfl, rfl⟩) (by assumption) ?_
          (try dsimp only []); (try simp only [Act.put, List.setIfInBounds_toArray, List.set_cons_zero, List.set_cons_succ])
          refine wpAnyH_take (i := 26) (oi := { dst := some 47, op := Op.binOp BinOp.geq 3 (Operand.tmp 44) (Operand.tmp 46) 3, type := 4, pos := "ref.go:30", after := #[{ on := 23, ground := Ground.data }, { on := 25, ground := Ground.data }, { on := 8, ground := Ground.guard }], guard := some (8, true) }) (v := undef) rfl (by kernel_rfl) (by kernel_rfl) (by kernel_rfl) (fun _ _ _ h => h) (Or.inr ⟨by rfl, rfl⟩) (by assumption) ?_
          (try dsimp only []); (try simp only [Act.put, List.setIfInBounds_toArray, List.set_cons_zero, List.set_cons_succ])
          refine wpAnyH_take (i := 27) (oi := { dst := some 48, op := Op.pick (Operand.tmp 29) (Operand.tmp 47) (Operand.const (Value.bool false)), type := 4, pos := "ref.go:30", after := #[{ on := 8, ground := Ground.data }, { on := 26, ground := Ground.data }, { on := 5, ground := Ground.guard }], guard := some (5, false) }) (v := undef) rfl (by kernel_rfl) (by kernel_rfl) (by kernel_rfl) (fun _ _ _ h => h) (Or.inr ⟨by rfl, rfl⟩) (by assumption) ?_
          (try dsimp only []); (try simp only [Act.put, List.setIfInBounds_toArray, List.set_cons_zero, List.set_cons_succ])
          refine' wpAnyH_take (i := 28) (oi := { dst := some 49, op := Op.pick (Operand.tmp 26) (Operand.const (Value.bool true)) (Operand.tmp 48), type := 4, pos := "ref.go:30", after := #[{ on := 5, ground := Ground.data }, { on := 27, ground := Ground.data }], guard := none }) (v := _) rfl (by kernel_rfl) (by kernel_rfl) (by kernel_rfl) (fun _ _ _ h => h) (Or.inl ⟨by rfl, ?hy16⟩) (by assumption) ?rest16
          case hy16 => (intro W hSw; (try dsimp only at hSw); go_simp <;> with_reducible rfl)
          (try dsimp only []); (try simp only [Act.put, List.setIfInBounds_toArray, List.set_cons_zero, List.set_cons_succ])
          refine wpAnyH_done (by kernel_rfl) ?_ _
          go_wp2_with fail
          have hb0 := unhide hb
          go_ret
          refine ⟨ret_i rfl ?_, by (repeat (first | with_reducible exact Below.refl _ _ | with_reducible assumption | with_reducible refine Below.drew ?_ | with_reducible refine bl_alloc ?_ _ | with_reducible refine bl_call ?_ (by assumption) | (focus (with_reducible refine Below.setCell ?_ ?_ _; rotate_left; focus (first | omega | (simp <;> omega)))) | fail))⟩
          rw [unhide hok, unhide hw, unhide hd, okF, unhide ho']
          simp [badE]
      · have hb0 := unhide hb
        go_wp2_with fail
        go_ret
        refine ⟨ret_i rfl ?_, by (repeat (first | with_reducible exact Below.refl _ _ | with_reducible assumption | with_reducible refine Below.drew ?_ | with_reducible refine bl_alloc ?_ _ | with_reducible refine bl_call ?_ (by assumption) | (focus (with_reducible refine Below.setCell ?_ ?_ _; rotate_left; focus (first | omega | (simp <;> omega)))) | fail))⟩
        rw [unhide hok, unhide hw, List.drop_of_length_le (by have := unhide hN; omega)]
        simp [okF, badE]
  · have hb : (decide (0 ≤ n) && decide (n ≤ 8192)) = false := by
      rw [Bool.and_eq_false_iff]; simp; omega
    have hq : okX x = false := by rw [unhide hk, hb]; rfl
    replace hq := hide hq
    clear hk hb h3
    by_cases hneg : n < 0
    · go_enter Try.func23, Try.ntmps23
      go_wp2_with fail
      go_ret
      refine ⟨ret_i rfl ?_, by (repeat (first | with_reducible exact Below.refl _ _ | with_reducible assumption | with_reducible refine Below.drew ?_ | with_reducible refine bl_alloc ?_ _ | with_reducible refine bl_call ?_ (by assumption) | (focus (with_reducible refine Below.setCell ?_ ?_ _; rotate_left; focus (first | omega | (simp <;> omega)))) | fail))⟩
      rw [unhide hq]
      rfl
    · go_enter Try.func23, Try.ntmps23
      have hbig : 8192 < n := by omega
      go_wp2_with fail
      go_ret
      refine ⟨ret_i rfl ?_, by (repeat (first | with_reducible exact Below.refl _ _ | with_reducible assumption | with_reducible refine Below.drew ?_ | with_reducible refine bl_alloc ?_ _ | with_reducible refine bl_call ?_ (by assumption) | (focus (with_reducible refine Below.setCell ?_ ?_ _; rotate_left; focus (first | omega | (simp <;> omega)))) | fail))⟩
      rw [unhide hq]
      rfl
end Go.Proofs.Yteokimebfbnlkaa
