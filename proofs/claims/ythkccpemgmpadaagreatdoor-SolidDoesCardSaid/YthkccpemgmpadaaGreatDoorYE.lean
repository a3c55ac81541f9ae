import Derived.Test.YthkccpemgmpadaaGreatDoorYB
import Derived.Test.YthkccpemgmpadaaGreatDoorU37
import Derived.LoopN
/- only Z -/
namespace Go.Proofs.YthkccpemgmpadaaGreatDoor
set_option maxRecDepth 100000
open Go.RowKit
theorem own_apart {w : World} {b b' e e' s s' n n' : Nat} {v v' : Value} {xs ys : List Value} (h : w.ownsRow b e s v n xs) (o : w.ownsRow b' e' s' v' n' ys) (hne : e ≠ e') : ∀ k, v.ownBlock = some k → some k ≠ v'.ownBlock := by
  intro k hk
  rcases h.2 with ⟨rfl, _⟩ | ⟨g, cap, cur, rfl, _, hg, _⟩
  · simp [Value.ownBlock] at hk
  · rcases o.2 with ⟨rfl, _⟩ | ⟨g', cap', cur', rfl, _, hg', _⟩
    · simp [Value.ownBlock]
    · simp only [Value.ownBlock, Option.some.injEq] at hk ⊢
      subst hk
      exact fun q => Blk.ne_ (t := e) (t' := e') (cs := cur) (cs' := cur') hg hg' hne (Option.some.inj q)
theorem own_other {w w' : World} {b b' e e' s s' n n' : Nat} {v v' : Value} {xs ys : List Value} (h : w.ownsRow b e s v n xs) (o : w.ownsRow b' e' s' v' n' ys) (hne : e ≠ e') (hg : w.grownBy w' v'.ownBlock) : w'.ownsRow b e s v n xs :=
  P.own_grown h hg (own_apart h o hne)
theorem Fx.rows {w0 W w' : World} {L : List (Nat × TypeId × Array Value)} (h : Fx w0 W L [] []) {b e s n : Nat} {v : Value} {xs : List Value} (o : W.ownsRow b e s v n xs) (hg : W.grownBy w' v.ownBlock) (hb : w0.heap.size ≤ b) (hL : ∀ p ∈ L, p.1 < b) (hbs : b ≤ W.heap.size) : Fx w0 w' L [] [] :=
  h.upon ((Below.refl b W).grown hg hbs (C.own_base o)) hb hL
theorem bs_row2 {w : World} {base n : Nat} {v : Value} {l : List UInt8} (h : w.ownsRow base 5 1 v n (l.map u8v)) : Bs 0 w.heap.size w v l := by
  obtain rfl := own_nn h
  exact Bs.of_own0 h
set_option maxHeartbeats 4000000 in
theorem rBuild_good0 (s : St) (n : Nx) (v : Value) (l : List (List UInt8)) (w : World) (h : Bss w.heap.size w v l) (_hn : l.length ≤ 1000) (hL : l.flatten.length ≤ 1000) (hne : n ≠ 18446744073709551615#64) (A : Option Addr) (c : Nat) (hv : v = .slice A 0 c) (hl0 : l = []) :
    Calls Tryz.prog 8 #[rgV s n, v] w fun e w' => ∃ A c A2 c2, e = .returned (.tuple #[.slice A (sealS s n l.flatten).length c, .slice A2 l.length c2, rgV s (n + 1#64), .int .i64 0]) ∧ OwnB w' w.heap.size (.slice A (sealS s n l.flatten).length c) (sealS s n l.flatten) ∧ w'.ownsRow w.heap.size 44 3 (.slice A2 l.length c2) l.length ((pcsF 0 l).flatMap pcL) ∧ Below w.heap.size w w' := by
  have hS := fun v2 W (hb : Below w.heap.size w W) (h2 : Bs 0 W.heap.size W v2 l.flatten) => rSeal_good s n v2 l.flatten W h2 hL hne
  subst hv
  have hm0 : l.length = 0 := by rw [hl0]; rfl
  have hf0 : l.flatten = [] := by rw [hl0]; rfl
  have hp0 : pcsF 0 l = [] := by rw [hl0]; rfl
  rw [hf0] at hS
  rw [hm0, hp0, hf0]
  generalize sealS s n [] = Z at *
  obtain ⟨mz, hmz⟩ : ∃ mz, Z.length = mz := ⟨_, rfl⟩
  rw [hmz] at hS ⊢
  have X0 : Fx w ((w.alloc (.cells (rgC s n) 27)).alloc (.cells zRg 27)) [(w.heap.size, 27, rgC s n), (w.heap.size + 1, 27, zRg)] [] [] := ((Fx.nil w).newB w.heap.size rfl (rgC s n) 27).newB (w.heap.size + 1) (by simp) zRg 27
  replace X0 := hide X0; replace hS := hide hS
  clear h _hn hL hne hm0 hf0 hp0 hl0 hmz
  go_enter Tryz.func8, Tryz.ntmps8
  go_upto_region 1 with (fail)
  generalize hW : World.alloc (World.alloc w _) _ = W at *
  clear hW
  go_wp2_with fail
  refine wp_loop_rounds 1 ?_
  rw [rounds_succ]
  have X5 := X0
  have o5 := hide (World.ownsRow_nil W (w.heap.size + 2) 5 1)
  have q5 := hide (World.ownsRow_nil W (w.heap.size + 2) 44 3)
  have hc0 : W.cell? ⟨w.heap.size, 0, none⟩ = some (u32v s.a) := ((unhide X0).get 0 rfl).cell 0
  have hc1 : W.cell? ⟨w.heap.size, 1, none⟩ = some (u32v s.b) := ((unhide X0).get 0 rfl).cell 1
  have hc2 : W.cell? ⟨w.heap.size, 2, none⟩ = some (u32v s.c) := ((unhide X0).get 0 rfl).cell 2
  have hc3 : W.cell? ⟨w.heap.size, 3, none⟩ = some (u32v s.d) := ((unhide X0).get 0 rfl).cell 3
  have hc4 : W.cell? ⟨w.heap.size, 4, none⟩ = some (u64v n) := ((unhide X0).get 0 rfl).cell 4
  go_upto_region 14 with (first
    | (go_at_call 14; refine (unhide hS _ _ (unhide X5).bl (bs_row2 (unhide o5))).mono ?_; rintro e w6 ⟨A6, c6, rfl, o6, hb6⟩
       have X6 := ((unhide X5).call hb6).newB w6.heap.size rfl (rgC s (n + 1#64)) 27
       have bg := bl_alloc (Below.refl w6.heap.size w6) (.cells (rgC s (n + 1#64)) 27)
       have o6' := hide (own_below (ownsRow_mono (base' := w.heap.size) o6 (unhide X5).bl.size) bg (Nat.le_refl _))
       have q6 := hide (own_below (own_below (ownsRow_mono (base' := w.heap.size) (unhide q5) (by omega)) hb6 (Nat.le_refl _)) bg (Nat.le_refl _))
       replace X6 := hide X6
       clear o6 hb6 bg)
    | fail)
  generalize w6.heap.size = g6 at *
  generalize hW7 : World.alloc w6 _ = w7 at *
  clear hW7
  have r0 : w7.cell? ⟨g6, 0, none⟩ = some (u32v s.a) := ((unhide X6).get 2 rfl).cell 0
  have r1 : w7.cell? ⟨g6, 1, none⟩ = some (u32v s.b) := ((unhide X6).get 2 rfl).cell 1
  have r2 : w7.cell? ⟨g6, 2, none⟩ = some (u32v s.c) := ((unhide X6).get 2 rfl).cell 2
  have r3 : w7.cell? ⟨g6, 3, none⟩ = some (u32v s.d) := ((unhide X6).get 2 rfl).cell 3
  have r4 : w7.cell? ⟨g6, 4, none⟩ = some (u64v (n + 1#64)) := ((unhide X6).get 2 rfl).cell 4
  have u0 : w7.cell? ⟨w.heap.size + 1, 0, none⟩ = some (.int .u32 0) := ((unhide X6).get 1 rfl).cell 0
  have u1 : w7.cell? ⟨w.heap.size + 1, 1, none⟩ = some (.int .u32 0) := ((unhide X6).get 1 rfl).cell 1
  have u2 : w7.cell? ⟨w.heap.size + 1, 2, none⟩ = some (.int .u32 0) := ((unhide X6).get 1 rfl).cell 2
  have u3 : w7.cell? ⟨w.heap.size + 1, 3, none⟩ = some (.int .u32 0) := ((unhide X6).get 1 rfl).cell 3
  have u4 : w7.cell? ⟨w.heap.size + 1, 4, none⟩ = some (.int .u64 0) := ((unhide X6).get 1 rfl).cell 4
  have t0 : w7.frozen? ⟨w.heap.size + 1, 0, none⟩ = false := ((unhide X6).get 1 rfl).frozen 0
  have t1 : w7.frozen? ⟨w.heap.size + 1, 1, none⟩ = false := ((unhide X6).get 1 rfl).frozen 1
  have t2 : w7.frozen? ⟨w.heap.size + 1, 2, none⟩ = false := ((unhide X6).get 1 rfl).frozen 2
  have t3 : w7.frozen? ⟨w.heap.size + 1, 3, none⟩ = false := ((unhide X6).get 1 rfl).frozen 3
  have t4 : w7.frozen? ⟨w.heap.size + 1, 4, none⟩ = false := ((unhide X6).get 1 rfl).frozen 4
  go_region
  all_goals
    have X8 := unhide X6
    have R8 : Blk _ (w.heap.size + 1) 27 (rgC s (n + 1#64)) := Blk.set5 (x := u32v s.a) (y := u32v s.b) (z := u32v s.c) (u := u32v s.d) (q := u64v (n + 1#64)) (X8.get 1 rfl)
    have b8 := below_set5 (g := w.heap.size + 1) (x := u32v s.a) (y := u32v s.b) (z := u32v s.c) (u := u32v s.d) (q := u64v (n + 1#64)) X8.bl (Nat.le_succ _)
    have o8 := own_set5 (x := u32v s.a) (y := u32v s.b) (z := u32v s.c) (u := u32v s.d) (q := u64v (n + 1#64)) (unhide o6') (X8.get 1 rfl) (by decide)
    have p8 := own_set5 (x := u32v s.a) (y := u32v s.b) (z := u32v s.c) (u := u32v s.d) (q := u64v (n + 1#64)) (unhide q6) (X8.get 1 rfl) (by decide)
    replace R8 := hide R8; replace b8 := hide b8; replace o8 := hide o8; replace p8 := hide p8
    clear X8
    go_wp2_with fail
    exact ret_sprt rfl (w.heap.size + 1) (.slice A6 mz c6) (.slice none 0 0) (rgC s (n + 1#64)) (.int .i64 0) rfl rfl rfl rfl rfl (unhide R8) rfl ⟨A6, c6, none, 0, rfl, unhide o8, unhide p8, (unhide b8).drew⟩
set_option maxHeartbeats 4000000 in
theorem rBuild_full0 (s : St) (n : Nx) (v : Value) (l : List (List UInt8)) (w : World) (h : Bss w.heap.size w v l) (_hn : l.length ≤ 1000) (hL : l.flatten.length ≤ 1000) (hne : n = 18446744073709551615#64) (A : Option Addr) (c : Nat) (hv : v = .slice A 0 c) (hl0 : l = []) :
    Calls Tryz.prog 8 #[rgV s n, v] w fun e w' => e = .returned (.tuple #[.slice none 0 0, .slice none 0 0, .agg zRg, .int .i64 6]) ∧ Below w.heap.size w w' := by
  have hS := fun v2 W (h2 : Bs 0 W.heap.size W v2 l.flatten) => rSeal_full s n v2 l.flatten W h2 hL hne
  subst hv
  have hm0 : l.length = 0 := by rw [hl0]; rfl
  have hf0 : l.flatten = [] := by rw [hl0]; rfl
  have hp0 : pcsF 0 l = [] := by rw [hl0]; rfl
  rw [hf0] at hS
  have X0 : Fx w ((w.alloc (.cells (rgC s n) 27)).alloc (.cells zRg 27)) [(w.heap.size, 27, rgC s n), (w.heap.size + 1, 27, zRg)] [] [] := ((Fx.nil w).newB w.heap.size rfl (rgC s n) 27).newB (w.heap.size + 1) (by simp) zRg 27
  replace X0 := hide X0; replace hS := hide hS
  clear h _hn hL hne hm0 hf0 hp0 hl0
  go_enter Tryz.func8, Tryz.ntmps8
  go_upto_region 1 with (fail)
  generalize hW : World.alloc (World.alloc w _) _ = W at *
  clear hW
  go_wp2_with fail
  refine wp_loop_rounds 1 ?_
  rw [rounds_succ]
  have X5 := X0
  have o5 := hide (World.ownsRow_nil W (w.heap.size + 2) 5 1)
  have q5 := hide (World.ownsRow_nil W (w.heap.size + 2) 44 3)
  have hc0 : W.cell? ⟨w.heap.size, 0, none⟩ = some (u32v s.a) := ((unhide X0).get 0 rfl).cell 0
  have hc1 : W.cell? ⟨w.heap.size, 1, none⟩ = some (u32v s.b) := ((unhide X0).get 0 rfl).cell 1
  have hc2 : W.cell? ⟨w.heap.size, 2, none⟩ = some (u32v s.c) := ((unhide X0).get 0 rfl).cell 2
  have hc3 : W.cell? ⟨w.heap.size, 3, none⟩ = some (u32v s.d) := ((unhide X0).get 0 rfl).cell 3
  have hc4 : W.cell? ⟨w.heap.size, 4, none⟩ = some (u64v n) := ((unhide X0).get 0 rfl).cell 4
  go_upto_region 13 with (first
    | (go_at_call 14; refine (unhide hS _ _ (bs_row2 (unhide o5))).mono ?_; rintro e w6 ⟨rfl, hb6⟩
       have X6 := hide (((unhide X5).call hb6).alloc (.cells zRg 27))
       clear hb6)
    | fail)
  generalize hW7 : World.alloc w6 _ = w7 at *
  clear hW7
  have B1 := (unhide X6).get 1 rfl
  have b3 := (unhide X6).bl
  have F1 : Blk (w7.setRow (w.heap.size + 1) zRg) (w.heap.size + 1) 27 zRg := B1.row zRg
  replace B1 := hide B1; replace F1 := hide F1; replace b3 := hide b3
  go_wp2_with (first
    | (refine wpList_store_row rfl 27 (.tmp 6) (.tmp 48) rfl (w.heap.size + 1) zRg rfl rfl 27 zRg (unhide B1) size27 rfl zrg_one ?_)
    | fail)
  exact ret_sprt rfl (w.heap.size + 1) (.slice none 0 0) (.slice none 0 0) zRg (.int .i64 6) rfl rfl rfl rfl rfl (unhide F1) rfl ⟨rfl, bl_row (unhide b3) _ (by omega)⟩
end Go.Proofs.YthkccpemgmpadaaGreatDoor
