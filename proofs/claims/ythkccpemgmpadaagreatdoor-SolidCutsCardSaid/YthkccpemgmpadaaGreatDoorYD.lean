import Derived.Test.YthkccpemgmpadaaGreatDoorU37
import Derived.Test.YthkccpemgmpadaaGreatDoorU35
/- only Z -/
namespace Go.Proofs.YthkccpemgmpadaaGreatDoor
set_option maxRecDepth 100000
open Go.RowKit
theorem ans_cutbad {t : List UInt8} {p : Pc} {w w' : World} {e : Ending} {er : Int} (h : findE t p = er) (h0 : er ≠ 0) (he : e = .returned (.tuple #[.slice none 0 0, .int .i64 er])) (hb : Below w.heap.size w w') : Ans (findT t p, findE t p) w e w' := by
  subst h
  exact Ans.none (by rw [find_none h0]) he hb
theorem bs_row' {w : World} {base n : Nat} {v : Value} {l : List UInt8} (h : w.ownsRow base 5 1 v n (l.map u8v)) : Bs 0 w.heap.size w v l := by
  obtain rfl := own_nn h
  exact Bs.of_own0 h
section
variable (v : Value) (t : List UInt8) (a l : Int) (s : Reg) (w : World) (h : Bs 0 w.heap.size w v t)
set_option maxHeartbeats 1000000 in
include h in
theorem rcut_low1 (g : a < 0) : Calls Tryz.prog 16 #[v, pcV ⟨a, l, s⟩] w (Ans (findT t ⟨a, l, s⟩, findE t ⟨a, l, s⟩) w) := by
  have hE := findE_low (t := t) (a := a) (l := l) (s := s) (.inl g)
  obtain ⟨A, c, rfl⟩ := h.form
  generalize t.length = m at *
  replace hE := hide hE
  clear h
  unfold pcV
  go_enter Tryz.func16, Tryz.ntmps16
  go_wp2_with fail
  go_ret2
  exact ans_cutbad (unhide hE) (by decide) rfl (bl_alloc (Below.refl _ _) _)
set_option maxHeartbeats 1000000 in
include h in
theorem rcut_low2 (g : ¬ a < 0) (g2 : l < 0) : Calls Tryz.prog 16 #[v, pcV ⟨a, l, s⟩] w (Ans (findT t ⟨a, l, s⟩, findE t ⟨a, l, s⟩) w) := by
  have hE := findE_low (t := t) (a := a) (l := l) (s := s) (.inr (.inl g2))
  obtain ⟨A, c, rfl⟩ := h.form
  generalize t.length = m at *
  replace hE := hide hE
  clear h
  unfold pcV
  go_enter Tryz.func16, Tryz.ntmps16
  go_wp2_with fail
  go_ret2
  exact ans_cutbad (unhide hE) (by decide) rfl (bl_alloc (Below.refl _ _) _)
set_option maxHeartbeats 1000000 in
include h in
theorem rcut_over (g : ¬ a < 0) (g2 : ¬ l < 0) (g3 : (t.length : Int) < a) : Calls Tryz.prog 16 #[v, pcV ⟨a, l, s⟩] w (Ans (findT t ⟨a, l, s⟩, findE t ⟨a, l, s⟩) w) := by
  have hE := findE_low (t := t) (a := a) (l := l) (s := s) (.inr (.inr (by omega)))
  obtain ⟨A, c, rfl⟩ := h.form
  generalize t.length = m at *
  replace hE := hide hE
  clear h
  unfold pcV
  go_enter Tryz.func16, Tryz.ntmps16
  go_wp2_with fail
  go_ret2
  exact ans_cutbad (unhide hE) (by decide) rfl (bl_alloc (Below.refl _ _) _)
set_option maxHeartbeats 1000000 in
include h in
theorem rcut_long (g : ¬ a < 0) (g2 : ¬ l < 0) (g3 : ¬ (t.length : Int) < a) (hl : t.length ≤ 1000000) (g4 : (t.length : Int) - a < l) : Calls Tryz.prog 16 #[v, pcV ⟨a, l, s⟩] w (Ans (findT t ⟨a, l, s⟩, findE t ⟨a, l, s⟩) w) := by
  have hE := findE_low (t := t) (a := a) (l := l) (s := s) (.inr (.inr g4))
  obtain ⟨A, c, rfl⟩ := h.form
  have hw : IntKind.i64.wrap ((t.length : Int) - a) = (t.length : Int) - a := by rw [IntKind.wrap_i64]; omega
  generalize t.length = m at *
  replace hE := hide hE
  clear h
  unfold pcV
  go_enter Tryz.func16, Tryz.ntmps16
  go_wp2_with fail
  go_ret2
  exact ans_cutbad (unhide hE) (by decide) rfl (bl_alloc (Below.refl _ _) _)
set_option maxHeartbeats 2000000 in
include h in
theorem rcut_in (hl : t.length ≤ 1000000) (g : ¬ a < 0) (g2 : ¬ l < 0) (g3 : ¬ (t.length : Int) < a) (g4 : ¬ (t.length : Int) - a < l) : Calls Tryz.prog 16 #[v, pcV ⟨a, l, s⟩] w (Ans (findT t ⟨a, l, s⟩, findE t ⟨a, l, s⟩) w) := by
  have hE := findE_sum (t := t) (a := a) (l := l) (s := s) (by omega)
  obtain ⟨j, rfl⟩ : ∃ j : Nat, a = (j : Int) := ⟨a.toNat, by omega⟩
  obtain ⟨k, rfl⟩ : ∃ k : Nat, l = (k : Int) := ⟨l.toNat, by omega⟩
  simp only [Int.toNat_natCast] at hE
  obtain ⟨A, c, rfl⟩ := h.form
  obtain ⟨A1, c1, s1, b1⟩ := h.cut_lh j (j + k) j ((j : Int) + k) rfl (by omega) (by omega) (by omega)
  rw [show j + k - j = k by omega] at s1 b1
  have hT : findT t ⟨j, k, s⟩ = if findE t ⟨j, k, s⟩ = 0 then (t.drop j).take k else [] := by unfold findT; simp only [Int.toNat_natCast]
  have hkl : ((t.drop j).take k).length = k := by rw [List.length_take, List.length_drop]; omega
  have X0 : Fx w (w.alloc (.cells #[.int .i64 j, .int .i64 k, u32v s] 44)) [(w.heap.size, 44, #[.int .i64 j, .int .i64 k, u32v s])] [] [] := (Fx.nil w).newB w.heap.size rfl #[.int .i64 j, .int .i64 k, u32v s] 44
  have hsrc := (b1.to (bl_alloc (Below.refl w.heap.size w) (.cells #[.int .i64 j, .int .i64 k, u32v s] 44))).src.2
  have hS := fun v2 W (h2 : Bs 0 W.heap.size W v2 ((t.drop j).take k)) => rsum_u 0 W.heap.size v2 _ W h2
  obtain ⟨i0, hi0, hz0, hz1, hz2⟩ := info_parts info5
  rw [hT]
  have hw : IntKind.i64.wrap ((t.length : Int) - j) = (t.length : Int) - j := by rw [IntKind.wrap_i64]; omega
  have hw2 : IntKind.i64.wrap ((j : Int) + k) = (j : Int) + k := by rw [IntKind.wrap_i64]; omega
  have hw3 : (0 : Int) ≤ (j : Int) + k := by omega
  have hw4 : (j : Int) + k ≤ 1000000 := by omega
  have hw5 : (t.length : Int) - j ≤ 1000000 := by omega
  have hw6 : 0 ≤ (t.length : Int) - j := by omega
  have u1 : 0 + k ≤ maxLen := by simp only [maxLen]; omega
  have u2 : (0 + k) * 1 ≤ 140737488355328 := by omega
  obtain ⟨z, hz⟩ : ∃ z, z = (n32 (C.sumR ((t.drop j).take k)) == n32 s) := ⟨_, rfl⟩
  have hE' : findE t ⟨j, k, s⟩ = if z = true then 0 else 7 := by
    rw [hE, hz]
    by_cases hs : C.sumR ((t.drop j).take k) = s
    · rw [if_pos hs, if_pos (by rw [hs]; simp)]
    · rw [if_neg hs, if_neg (by rw [beq_iff_eq]; exact fun e => hs (n32_inj e))]
  rw [hE']
  clear hE hE' hT
  have hq : (n32 (C.sumR ((t.drop j).take k)) == n32 s) = z := hz.symm
  have hq' : (n32 (C.sumR ((t.drop j).take k)) != n32 s) = !z := by rw [bne, hq]
  clear hz
  generalize C.sumR ((t.drop j).take k) = S at *
  generalize (t.drop j).take k = T at *
  generalize t.length = m at *
  clear h b1
  unfold pcV
  simp only []
  replace X0 := hide X0; replace hS := hide hS; replace hkl := hide hkl; replace hsrc := hide hsrc; replace u1 := hide u1; replace u2 := hide u2
  go_enter Tryz.func16, Tryz.ntmps16
  go_upto_region 1 with (fail)
  generalize hW : World.alloc w _ = W at *
  clear hW
  have c0 : W.cell? ⟨w.heap.size, 0, none⟩ = some (.int .i64 j) := ((unhide X0).get 0 rfl).cell 0
  have c1' : W.cell? ⟨w.heap.size, 1, none⟩ = some (.int .i64 k) := ((unhide X0).get 0 rfl).cell 1
  have lt := ((unhide X0).get 0 rfl).lt
  go_upto_region 4 with (first
    | (at_builtin
       refine wpList_app _ rfl (.const (.slice none 0 0)) (.tmp 40) 29 rfl (w.heap.size + 1) 5 i0 _ 1 1 Tryz.underlying29 hi0 hz0 hz1 hz2 rfl (Nat.succ_pos _) _ 0 [] rfl (World.ownsRow_nil _ _ _ _) A1 k c1 (T.map u8v) rfl (by rw [List.length_map, unhide hkl, Nat.mul_one]) (unhide hsrc) (u8s_one T) (unhide u1) (unhide u2) lt ?_
       intro v6 w6 o6 hg6
       rw [List.nil_append, Nat.zero_add] at o6
       obtain ⟨A6, c6, rfl⟩ := ownsRow_form o6
       have B6 : Below (w.heap.size + 1) W w6 := (Below.refl _ _).grown hg6 lt (by intro k hk; simp [Act.eval, Value.ownBlock] at hk)
       have X6 := (unhide X0).upon B6 (Nat.le_succ _) (by simp)
       have y6 := bs_row' o6
       have d2 : w6.cell? ⟨w.heap.size, 2, none⟩ = some (u32v s) := (X6.get 0 rfl).cell 2
       have lt6 := (X6.get 0 rfl).lt
       have hS2 := hide fun n => unhide hS (.slice A6 k c6) (w6.drewN n) (y6.to (below_drewN (Below.refl _ _) n))
       have b6 := hide X6.bl
       replace o6 := hide o6
       clear B6 X6 y6 hg6)
    | fail)
  clear c0 c1'
  go_quiet ((go_at_call 22; refine Calls.quiet_of_same ((unhide hS2 _).mono fun e w' h => ⟨h.1, h.2.symm⟩)))
  cases z with
  | true =>
    go_wp2_with fail
    go_ret2
    have o7 := ownsRow_mono (base' := w.heap.size) (own_below (unhide o6) (below_drewN (Below.refl _ _) nq) (Nat.le_refl _)) (Nat.le_succ _)
    have hkl' := unhide hkl
    exact ⟨A6, c6, by simp [hkl'], by simp only; unfold OwnB; rw [hkl']; exact o7, below_drewN (unhide b6) nq⟩
  | false =>
    go_wp2_with fail
    go_ret2
    exact Ans.none (er := 7) (by simp) rfl (below_drewN (unhide b6) nq)
include h in
theorem rCut_any' (_hp : OkP ⟨a, l, s⟩) (hl : t.length ≤ 1000000) : Calls Tryz.prog 16 #[v, pcV ⟨a, l, s⟩] w (Ans (findT t ⟨a, l, s⟩, findE t ⟨a, l, s⟩) w) := by
  by_cases g1 : a < 0
  · exact rcut_low1 v t a l s w h g1
  · by_cases g2 : l < 0
    · exact rcut_low2 v t a l s w h g1 g2
    · by_cases g3 : (t.length : Int) < a
      · exact rcut_over v t a l s w h g1 g2 g3
      · by_cases g4 : (t.length : Int) - a < l
        · exact rcut_long v t a l s w h g1 g2 g3 hl g4
        · exact rcut_in v t a l s w h hl g1 g2 g3 g4
end
theorem rCut_any (v : Value) (t : List UInt8) (p : Pc) (w : World) (h : Bs 0 w.heap.size w v t) (hp : OkP p) (hl : t.length ≤ 1000000) :
    Calls Tryz.prog 16 #[v, pcV p] w (Ans (findT t p, findE t p) w) := rCut_any' v t p.at_ p.len p.sum w h hp hl
section
variable (s : St) (v pv : Value) (b : List UInt8) (l : List Pc) (w : World) (h : Bs 0 w.heap.size w v b) (hl : b.length ≤ 60000) (hp : Pcs 0 w.heap.size w pv l) (hok : ∀ p ∈ l, OkP p) (hn : l.length ≤ 1000)
set_option maxHeartbeats 2000000 in
include h hl hp in
theorem rTest_err (he : (openS s b).2 ≠ 0) : Calls Tryz.prog 18 #[stV s, v, pv] w fun e w' => e = .returned (.int .i64 (testS s b l)) ∧ Below w.heap.size w w' := by
  have hT : testS s b l = (openS s b).2 := by unfold testS; rw [if_pos he]
  rw [hT]
  have hO := fun W (hb : Below w.heap.size w W) => rOpen_any s v b W (h.to hb) hl
  obtain ⟨A, c, rfl⟩ := h.form
  obtain ⟨A', c', rfl, _⟩ := hp
  unfold Ans at hO
  generalize openS s b = RR at *
  obtain ⟨T, er⟩ := RR
  simp only [] at he hO ⊢
  have hz : (er == 0) = false := by simpa using he
  have X0 : Fx w (w.alloc (.cells (stC s) 24)) [(w.heap.size, 24, stC s)] [] [] := (Fx.nil w).newB w.heap.size rfl (stC s) 24
  generalize b.length = m at *
  generalize T.length = m1 at *
  replace X0 := hide X0; replace hO := hide hO
  clear hT h hl he
  go_enter Tryz.func18, Tryz.ntmps18
  go_upto_region 1 with (fail)
  generalize hW : World.alloc w _ = W at *
  clear hW
  have c00 : W.cell? ⟨w.heap.size, 0, none⟩ = some (u32v s.a) := ((unhide X0).get 0 rfl).cell 0
  have c01 : W.cell? ⟨w.heap.size, 1, none⟩ = some (u32v s.b) := ((unhide X0).get 0 rfl).cell 1
  have c02 : W.cell? ⟨w.heap.size, 2, none⟩ = some (u32v s.c) := ((unhide X0).get 0 rfl).cell 2
  have c03 : W.cell? ⟨w.heap.size, 3, none⟩ = some (u32v s.d) := ((unhide X0).get 0 rfl).cell 3
  go_wp2_with (first
    | (go_at_call 10; refine (unhide hO _ (unhide X0).bl).mono ?_; rintro e w2 ⟨A2, c2, rfl, o2, hb2⟩
       have b2 := hide (bl_call (unhide X0).bl hb2)
       clear o2 hb2)
    | fail)
  go_ret
  exact ⟨rfl, unhide b2⟩
set_option maxHeartbeats 4000000 in
include h hl hp hok hn in
theorem rTest_ok (he : (openS s b).2 = 0) (hTl : (openS s b).1.length ≤ 1000000) : Calls Tryz.prog 18 #[stV s, v, pv] w fun e w' => e = .returned (.int .i64 (testS s b l)) ∧ Below w.heap.size w w' := by
  have hT : testS s b l = testE (openS s b).1 l := by unfold testS; rw [if_neg (by rw [he]; simp)]
  rw [hT]
  have hO := fun W (hb : Below w.heap.size w W) => rOpen_any s v b W (h.to hb) hl
  obtain ⟨A, c, rfl⟩ := h.form
  unfold Ans at hO
  generalize openS s b = RR at *
  obtain ⟨T, er⟩ := RR
  simp only [] at he hO hTl ⊢
  subst he
  have hF := fun v2 k (hk : k < l.length) W (h2 : Bs 0 W.heap.size W v2 T) => rCut_any v2 T ⟨l[k].at_, l[k].len, l[k].sum⟩ W h2 (hok _ (List.getElem_mem hk)) hTl
  have X0 : Fx w (w.alloc (.cells (stC s) 24)) [(w.heap.size, 24, stC s)] [] [] := (Fx.nil w).newB w.heap.size rfl (stC s) 24
  generalize b.length = m at *
  generalize hm1 : T.length = m1 at *
  rcases hp.parts with ⟨rfl, A', c', rfl⟩ | ⟨bk, off, c', rfl, hbk, hcl⟩
  · replace X0 := hide X0; replace hO := hide hO
    clear hT h hl hF hm1 hTl hp hok hn
    go_enter Tryz.func18, Tryz.ntmps18
    go_upto_region 1 with (fail)
    generalize hW : World.alloc w _ = W at *
    clear hW
    have c00 : W.cell? ⟨w.heap.size, 0, none⟩ = some (u32v s.a) := ((unhide X0).get 0 rfl).cell 0
    have c01 : W.cell? ⟨w.heap.size, 1, none⟩ = some (u32v s.b) := ((unhide X0).get 0 rfl).cell 1
    have c02 : W.cell? ⟨w.heap.size, 2, none⟩ = some (u32v s.c) := ((unhide X0).get 0 rfl).cell 2
    have c03 : W.cell? ⟨w.heap.size, 3, none⟩ = some (u32v s.d) := ((unhide X0).get 0 rfl).cell 3
    go_wp2_with (first
      | (go_at_call 10; refine (unhide hO _ (unhide X0).bl).mono ?_; rintro e w2 ⟨A2, c2, rfl, o2, hb2⟩
         have b2 := hide (bl_call (unhide X0).bl hb2)
         clear o2 hb2)
      | fail)
    refine wp_loop_rounds 1 ?_
    rw [rounds_succ]
    go_wp2_with fail
    go_ret
    exact ⟨rfl, unhide b2⟩
  · obtain ⟨n, hn'⟩ : ∃ n, n = l.length := ⟨_, rfl⟩
    rw [← hn']
    have hn2 : n ≤ 1000 := by rw [hn']; exact hn
    replace X0 := hide X0; replace hO := hide hO; replace hF := hide hF; replace hn' := hide hn'; replace hcl := hide hcl; replace hbk := hide hbk
    clear hT h hl hm1 hTl hp hok hn
    go_enter Tryz.func18, Tryz.ntmps18
    go_upto_region 1 with (fail)
    generalize hW : World.alloc w _ = W at *
    clear hW
    have c00 : W.cell? ⟨w.heap.size, 0, none⟩ = some (u32v s.a) := ((unhide X0).get 0 rfl).cell 0
    have c01 : W.cell? ⟨w.heap.size, 1, none⟩ = some (u32v s.b) := ((unhide X0).get 0 rfl).cell 1
    have c02 : W.cell? ⟨w.heap.size, 2, none⟩ = some (u32v s.c) := ((unhide X0).get 0 rfl).cell 2
    have c03 : W.cell? ⟨w.heap.size, 3, none⟩ = some (u32v s.d) := ((unhide X0).get 0 rfl).cell 3
    go_wp2_with (first
      | (go_at_call 10; refine (unhide hO _ (unhide X0).bl).mono ?_; rintro e w2 ⟨A2, c2, rfl, o2, hb2⟩
         have X2 : Fx w w2 [(w.heap.size, 24, stC s)] [] [(.slice A2 m1 c2, T)] := ((unhide X0).call hb2).addZ (Bs.of_own0 o2)
         replace X2 := hide X2
         clear o2 hb2)
      | fail)
    clear c00 c01 c02 c03 X0
    go_loopw [24] (fun s24 wr => ∃ (k : Nat), k ≤ n ∧ s24 = .int .i64 k ∧ Hid (testE T l = testE T (l.drop k)) ∧ Hid (Fx w wr [] [] [(.slice A2 m1 c2, T)])) (fun i _ => n - (intOf i).toNat)
    case atStart => exact ⟨0, by omega, rfl, hide rfl, hide ((unhide X2).sub (fun _ h => (nomatch h)) (fun _ h => h) (fun _ h => h))⟩
    case round =>
      obtain ⟨k, hk, rfl, hE, X3⟩ := hrel
      by_cases hlt : k < n
      · have hlt' : k < l.length := by rw [← unhide hn']; exact hlt
        obtain ⟨p0, p1, p2⟩ := unhide hcl k hlt'
        have bb := (unhide X3).bl
        have q0 : wr.cell? ⟨bk, off + k * 3, none⟩ = some (.int .i64 l[k].at_) := (bb.cell (p := ⟨bk, off + k * 3, none⟩) (unhide hbk)).trans p0
        have q1 : wr.cell? ⟨bk, off + k * 3 + 1, none⟩ = some (.int .i64 l[k].len) := (bb.cell (p := ⟨bk, off + k * 3 + 1, none⟩) (unhide hbk)).trans p1
        have q2 : wr.cell? ⟨bk, off + k * 3 + 2, none⟩ = some (u32v l[k].sum) := (bb.cell (p := ⟨bk, off + k * 3 + 2, none⟩) (unhide hbk)).trans p2
        have hbl : bk < wr.heap.size := Nat.lt_of_lt_of_le (unhide hbk) bb.size
        have hq := fun W h2 => unhide hF (.slice A2 m1 c2) k hlt' W h2
        unfold Ans pcV at hq
        simp only [] at hq
        clear p0 p1 p2 bb
        by_cases hz : findE T l[k] = 0
        · have hE2 := hide (testE_step hlt' (unhide hE) hz)
          have hz' : findE T ⟨l[k].at_, l[k].len, l[k].sum⟩ = 0 := hz
          rw [hz'] at hq
          generalize findT T ⟨l[k].at_, l[k].len, l[k].sum⟩ = F at *
          generalize l[k].at_ = a at *; generalize l[k].len = d at *; generalize l[k].sum = S at *
          replace hq := hide hq
          clear hz hz' hE
          go_wp2_with (first
            | (go_at_call 16; refine (unhide hq _ (((unhide X3).alloc _).rd 0 rfl)).mono ?_; rintro e w4 ⟨A4, c4, rfl, y4, hb4⟩
               have X4 := hide (((unhide X3).alloc _).call hb4)
               clear y4 hb4)
            | fail)
          go_roundw
          case rel => exact ⟨k + 1, by omega, by go_num, hE2, X4⟩
          case measure => simp [intOf]; omega
        · have hE2 := testE_bad hlt' (unhide hE) hz
          have hz' : findE T ⟨l[k].at_, l[k].len, l[k].sum⟩ = testE T l := hE2.symm
          rw [hz'] at hq
          rw [← hE2] at hz
          obtain ⟨er, her⟩ : ∃ er, testE T l = er := ⟨_, rfl⟩
          rw [her] at hq hz hE2
          replace her := hide her
          have hzz : (er == 0) = false := by simpa using hz
          generalize findT T ⟨l[k].at_, l[k].len, l[k].sum⟩ = F at *
          generalize l[k].at_ = a at *; generalize l[k].len = d at *; generalize l[k].sum = S at *
          replace hq := hide hq
          clear hz hz' hE hE2
          go_wp2_with (first
            | (go_at_call 16; refine (unhide hq _ (((unhide X3).alloc _).rd 0 rfl)).mono ?_; rintro e w4 ⟨A4, c4, rfl, y4, hb4⟩
               have X4 := hide (((unhide X3).alloc _).call hb4)
               clear y4 hb4)
            | fail)
          go_ret
          exact ⟨ret_i rfl (unhide her).symm, (unhide X4).bl⟩
      · obtain rfl : k = n := by omega
        have hz := hide (testE_end (by have := unhide hE; rw [unhide hn'] at this; exact this))
        clear hE
        go_wp2_with fail
        go_ret
        exact ⟨ret_i rfl (unhide hz).symm, (unhide X3).bl⟩
end
theorem rTest_any (s : St) (v pv : Value) (b : List UInt8) (l : List Pc) (w : World) (h : Bs 0 w.heap.size w v b) (hl : b.length ≤ 60000) (hp : Pcs 0 w.heap.size w pv l) (hok : ∀ p ∈ l, OkP p) (hn : l.length ≤ 1000) :
    Calls Tryz.prog 18 #[stV s, v, pv] w fun e w' => e = .returned (.int .i64 (testS s b l)) ∧ Below w.heap.size w w' := by
  by_cases he : (openS s b).2 = 0
  · exact rTest_ok s v pv b l w h hl hp hok hn he (openS_len s b he hl)
  · exact rTest_err s v pv b l w h hl hp he
end Go.Proofs.YthkccpemgmpadaaGreatDoor
