import Derived.Test.YthkccpemgmpadaaGreatDoorU5
namespace Go.Proofs.YthkccpemgmpadaaGreatDoor.P
set_option maxRecDepth 100000
open Go.RowKit
set_option maxHeartbeats 4000000 in
theorem put_false (base g gc cc gt ct k : Nat) (s : Enc) (w : World) (hW : Wrt base g gc cc gt ct w s.c s.span s.low s.text) (hk : k < s.c.length) (h : OkE s) (hl : s.text.length ≤ 1000000) :
    Calls Tryz.prog 92 #[.pointer (some ⟨g, 0, none⟩), .agg #[.int .i64 k, .bool false]] w fun e w' => e = .returned (.tuple #[]) ∧ ∃ gt' ct', Wrt base g gc cc gt' ct' w' (put s ⟨k, false⟩).c (put s ⟨k, false⟩).span (put s ⟨k, false⟩).low (put s ⟨k, false⟩).text ∧ But [g, gc, gt] w w' := by
  have hx := (own_cell hW.c k hk).trans (ivc_at s.c k hk)
  have hpc := (okC_iff.1 h.c).2 _ (List.getElem_mem hk)
  have hpo := part_ok h.c (i := (k : Int)) (by omega) (by omega) h.span
  have hpp : partP s.span s.c (k : Int) = s.span / 2048 * s.c[k] := by unfold partP; rw [Int.toNat_natCast, getD_get hk]
  have hP := fun W (a : W.cell? ⟨g, 0, none⟩ = some (.int .u32 s.span)) (b : W.cell? ⟨g, 1, none⟩ = some (.slice (some ⟨gc, 0, none⟩) s.c.length cc)) (c : W.cell? ⟨gc, k, none⟩ = some (.int .i64 s.c[k])) => part_any g gc s.c.length cc k s.span s.c[k] W a b hk c h.span hpc
  rw [← hpp] at hP
  have hsp := h.span
  have hlo := h.low
  have hLf := fun W a => left_any g s.span (partP s.span s.c (k : Int)) false W a (by omega) (by omega)
  have hLn := fun W a b => learn_any g gc cc k base s.c false W a hk b h.c
  obtain ⟨hK, hc, ht⟩ := hW
  have c0 := hK.cell 0
  have c1 := hK.cell 1
  simp at c0 c1
  have hgl := hK.lt
  have hgc : gc < w.heap.size := World.block_lt_of_cell? w _ hx
  have hb0 : Blk (w.alloc (.cells #[.int .i64 k, .bool false] 121)) w.heap.size 121 #[.int .i64 k, .bool false] := Blk.new rfl
  have hK0 := hK.alloc (.cells #[.int .i64 k, .bool false] 121)
  have hc0 := hc.alloc (.cells #[.int .i64 k, .bool false] 121)
  have ht0 := ht.alloc (.cells #[.int .i64 k, .bool false] 121)
  have hx0 := (own_cell hc0 k hk).trans (ivc_at s.c k hk)
  obtain ⟨w1, hw1⟩ : ∃ w1, w1 = w.alloc (.cells #[.int .i64 k, .bool false] 121) := ⟨_, rfl⟩
  rw [← hw1] at hb0 hK0 hc0 ht0 hx0
  have d0 : w1.cell? ⟨g, 0, none⟩ = some (.int .u32 s.span) := hK0.cell 0
  have d1 : w1.cell? ⟨g, 1, none⟩ = some (.slice (some ⟨gc, 0, none⟩) s.c.length cc) := hK0.cell 1
  have e0 : w1.cell? ⟨w.heap.size, 0, none⟩ = some (.int .i64 k) := hb0.cell 0
  have e1 : w1.cell? ⟨w.heap.size, 1, none⟩ = some (.bool false) := hb0.cell 1
  have hB0 : But [g, gc, gt] w w1 := by rw [hw1]; exact (But.refl _ _).alloc _
  replace hP := hide hP; replace hLf := hide hLf; replace hLn := hide hLn; replace hpo := hide hpo
  replace hK0 := hide hK0; replace hc0 := hide hc0; replace ht0 := hide ht0; replace hb0 := hide hb0; replace hB0 := hide hB0
  generalize hz : partP s.span s.c (k : Int) = z at *
  generalize s.c[k] = p at *
  clear hpp hpc hK hc ht c0 c1 hx
  go_enter Tryz.func92, Tryz.ntmps92
  go_wp2_with fail
  rw [← hw1]
  clear hw1
  generalize w.heap.size = gb at *
  go_quiet ((go_at_call 119; exact Calls.quiet_of (unhide hP _ d0 d1 hx0)))
  obtain ⟨w2, hw2⟩ : ∃ w2, w2 = w1.drewN nq := ⟨_, rfl⟩
  have K2 := (unhide hK0).drewN nq
  have b2 := (unhide hb0).drewN nq
  have r2 : (w1.drewN nq).ownsRow base 3 1 (.slice (some ⟨gc, 0, none⟩) s.c.length cc) s.c.length (s.c.flatMap ivc) := unhide hc0
  have t2 : (w1.drewN nq).ownsRow base 5 1 (.slice (some ⟨gt, 0, none⟩) s.text.length ct) s.text.length (s.text.flatMap byc) := unhide ht0
  have B2 := (unhide hB0).drewN nq
  rw [← hw2] at K2 b2 r2 t2 B2 ⊢
  clear hw2 hK0 hb0 hc0 ht0 hB0 d0 d1 e0 e1 hx0
  have n1 : gb ≠ g := b2.ne_ K2 (by decide)
  have n2 : gb ≠ gt := fun e => own_not t2 (by decide : (5 : TypeId) ≠ 121) (e ▸ b2)
  have n3 : gb ≠ gc := fun e => own_not r2 (by decide : (3 : TypeId) ≠ 121) (e ▸ b2)
  have n4 : g ≠ gc := fun e => own_not r2 (by decide : (3 : TypeId) ≠ 125) (e ▸ K2)
  have n5 : g ≠ gt := fun e => own_not t2 (by decide : (5 : TypeId) ≠ 125) (e ▸ K2)
  have n6 : gt ≠ gc := fun e => by
    obtain ⟨_, cur, e1, _, hh⟩ := own_pos r2 (by omega)
    injection e1 with e1
    injection e1 with e1
    subst e1 e
    exact own_not t2 (by decide : (5 : TypeId) ≠ 3) hh
  have e1 : w2.cell? ⟨gb, 1, none⟩ = some (.bool false) := b2.cell 1
  replace K2 := hide K2; replace b2 := hide b2; replace r2 := hide r2; replace t2 := hide t2; replace B2 := hide B2
  replace n1 := hide n1; replace n2 := hide n2; replace n3 := hide n3; replace n4 := hide n4; replace n5 := hide n5; replace n6 := hide n6
  go_wp2_with fail
  generalize w2 = w3 at *
  have K3 := unhide K2; have r3 := unhide r2; have t3 := unhide t2; have b3 := unhide b2; have B3 := unhide B2
  have f1 : w3.cell? ⟨gb, 1, none⟩ = some (.bool false) := b3.cell 1
  have f0 : w3.cell? ⟨g, 0, none⟩ = some (.int .u32 s.span) := K3.cell 0
  have f2 := K3.frozen 0
  obtain ⟨T, hT⟩ : ∃ T, s.text = T := ⟨_, rfl⟩
  obtain ⟨L, hL⟩ : ∃ L, s.low = L := ⟨_, rfl⟩
  have hl1 : T.length = s.text.length := by rw [hT]
  rw [← hl1] at K3 t3
  rw [hL] at K3
  rw [hT] at t3
  clear e1 b2 r2 t2 K2 B2
  replace K3 := hide K3; replace b3 := hide b3; replace r3 := hide r3; replace t3 := hide t3; replace B3 := hide B3; replace hT := hide hT; replace hL := hide hL; replace hl1 := hide hl1
  simp only [Bool.false_eq_true, if_false] at hLf
  go_region_held3 (fun W => W.cell? ⟨gb, 1, none⟩ = some (.bool false)) (first | assumption | go_simp)
    (first
      | (go_at_call 121; refine (unhide hLf _ (by first | assumption | exact f0)).mono ?_; rintro e w1 ⟨rfl, rfl⟩))
  obtain ⟨w4, hw4⟩ : ∃ w4, w4 = (w3.setCell ⟨g, 0, none⟩ (.int .u32 z)).drew := ⟨_, rfl⟩
  have K4 := ((unhide K3).set 0 (.int .u32 z)).drew
  simp at K4
  have b4 := ((unhide b3).far (p := ⟨g, 0, none⟩) (unhide n1) (.int .u32 z)).drew
  have r4 := own_drew (own_far (unhide r3) (unhide K3) (by decide) 0 (.int .u32 z))
  have t4 := own_drew (own_far (unhide t3) (unhide K3) (by decide) 0 (.int .u32 z))
  have B4 := ((unhide B3).set (p := ⟨g, 0, none⟩) (by simp) (.int .u32 z)).drew
  rw [← hw4] at K4 b4 r4 t4 B4 ⊢
  clear hw4 K3 b3 r3 t3 B3 f0 f1 f2
  have g0 : w4.cell? ⟨gb, 0, none⟩ = some (.int .i64 k) := b4.cell 0
  have g1 : w4.cell? ⟨gb, 1, none⟩ = some (.bool false) := b4.cell 1
  have g2 : w4.cell? ⟨g, 1, none⟩ = some (.slice (some ⟨gc, 0, none⟩) s.c.length cc) := K4.cell 1
  replace K4 := hide K4; replace b4 := hide b4; replace r4 := hide r4; replace t4 := hide t4; replace B4 := hide B4
  obtain ⟨G, hG⟩ : ∃ G, z = G := ⟨_, rfl⟩
  rw [hG] at K4
  replace hG := hide hG
  go_wp2_with fail
  go_region_held3 (fun W => W.cell? ⟨gb, 0, none⟩ = some (.int .i64 k) ∧ W.cell? ⟨gb, 1, none⟩ = some (.bool false)) (first | exact ⟨by assumption, by assumption⟩ | exact ⟨by go_simp, by go_simp⟩)
    (first
      | (go_at_call 122; refine (unhide hLn w4.drew g2 (own_drew (unhide r4))).mono ?_; rintro e w5 ⟨rfl, r5, B5⟩
         have h0 : w5.cell? ⟨gb, 0, none⟩ = some (.int .i64 k) := ((unhide b4).drew.but B5 (by simp [unhide n3])).cell 0
         have h1 : w5.cell? ⟨gb, 1, none⟩ = some (.bool false) := ((unhide b4).drew.but B5 (by simp [unhide n3])).cell 1
         replace r5 := hide r5; replace B5 := hide B5))
  have K5 := (unhide K4).drew.but (unhide B5) (by simp [unhide n4])
  have t5 := own_but (own_drew (unhide t4)) (unhide B5) (fun q hq cs hcs => by
    simp only [List.mem_cons, List.not_mem_nil, or_false] at hq
    subst hq
    obtain ⟨_, cur, e1, _, hh⟩ := own_pos (unhide r4) (by omega)
    injection e1 with e1
    injection e1 with e1
    subst e1
    exact (Blk.ne_ (w := w4.drew) hh hcs (by decide)) rfl)
  have B6 : But [g, gc, gt] w w5 := (unhide B4).drew.trans ((unhide B5).mono (by simp))
  have hbase : base ≤ w5.heap.size := by
    obtain ⟨_, cur, e1, h2, hh⟩ := own_pos (unhide r5) (by omega)
    have := hh.lt
    omega
  clear K4 b4 r4 t4 B4 B5 g0 g1 g2 h0 h1
  replace K5 := hide K5; replace t5 := hide t5; replace B6 := hide B6; replace hbase := hide hbase
  have hL0 : 0 ≤ L ∧ L < 4294967296 := by have := unhide hL; omega
  have hG0 : 253952 ≤ G ∧ G < 4294967296 := by have := unhide hG; have := unhide hpo; omega
  have hT1 : T.length = s.text.length := unhide hl1
  have hput1 : put1 s ⟨k, false⟩ = ⟨stepA s.c ⟨k, false⟩, G, L, T⟩ := by
    unfold put1
    simp only [hz, unhide hG, Bool.false_eq_true, if_false, false_and, unhide hL, unhide hT]
  replace hput1 := hide hput1; replace hT1 := hide hT1
  clear hpo hG hL hT hLf hLn hP hl1
  obtain ⟨i5, hi5, iz0, iz1, iz2⟩ := info5'
  go_wp2_with fail
  go_loopg [] 1 (fun kk wr => ∃ (sp lo : Int) (tx : List Int) (gt' ct' : Nat), ((kk = 1 ∧ sp = G ∧ lo = L ∧ tx = T ∧ gt' = gt) ∨ (kk = 0 ∧ G < 16777216 ∧ sp = G * 256 ∧ lo = L % 16777216 * 256 ∧ tx = T ++ [L / 16777216])) ∧
    Hid (Blk wr g 125 #[.int .u32 sp, .slice (some ⟨gc, 0, none⟩) s.c.length cc, .slice (some ⟨gt', 0, none⟩) tx.length ct', .int .u32 lo]) ∧
    Hid (wr.ownsRow base 3 1 (.slice (some ⟨gc, 0, none⟩) s.c.length cc) s.c.length ((stepA s.c ⟨k, false⟩).flatMap ivc)) ∧ Hid (wr.ownsRow base 5 1 (.slice (some ⟨gt', 0, none⟩) tx.length ct') tx.length (tx.flatMap byc)) ∧ Hid (But [g, gc, gt] w wr) ∧ Hid (base ≤ wr.heap.size))
  case atStart => exact ⟨G, L, T, gt, ct, .inl ⟨rfl, rfl, rfl, rfl, rfl⟩, K5, r5, t5, B6, hbase⟩
  case round =>
    obtain ⟨sp, lo, tx, gt', ct', hcase, hK, hr, ht, hB, hbs⟩ := hrel
    have c0 : wr.cell? ⟨g, 0, none⟩ = some (.int .u32 sp) := (unhide hK).cell 0
    have c2 : wr.cell? ⟨g, 2, none⟩ = some (.slice (some ⟨gt', 0, none⟩) tx.length ct') := (unhide hK).cell 2
    have c3 : wr.cell? ⟨g, 3, none⟩ = some (.int .u32 lo) := (unhide hK).cell 3
    have f0 := (unhide hK).frozen 0
    have f2 := (unhide hK).frozen 2
    have f3 := (unhide hK).frozen 3
    have hgl' := (unhide hK).lt
    rcases hcase with ⟨rfl, rfl, rfl, rfl, rfl⟩ | ⟨rfl, hlt, rfl, rfl, rfl⟩
    · by_cases hlt : sp < 16777216
      · have j1 : IntKind.u8.wrap (lo / 16777216) = lo / 16777216 := IntWalk.u8_in _ (by omega)
        have j2 : IntKind.u32.wrap (lo * 256) = lo % 16777216 * 256 := by rw [IntKind.wrap_u32]; omega
        have j3 : IntKind.u32.wrap (sp * 256) = sp * 256 := IntWalk.u32_in _ (by omega)
        have oA := own_drew ((unhide ht).alloc (.cells #[.int .u8 (lo / 16777216)] 5))
        have KA := ((unhide hK).alloc (.cells #[.int .u8 (lo / 16777216)] 5)).drew
        have sA : SrcOk (wr.alloc (.cells #[.int .u8 (lo / 16777216)] 5)).drew (some ⟨wr.heap.size, 0, none⟩) 1 [.int .u8 (lo / 16777216)] := SrcOk.blk (cur := [.int .u8 (lo / 16777216)]) (Blk.drew (Blk.new rfl)) fun j u hu => by simpa using hu
        have s1 : ∀ u ∈ [Value.int .u8 (lo / 16777216)], u.oneCell' = true := by intro u hu; simp at hu; subst hu; rfl
        have b0 := unhide hT1
        have b1 : tx.length + 1 ≤ maxLen := by simp only [maxLen]; omega
        have b2 : (tx.length + 1) * 1 ≤ 140737488355328 := by omega
        have b3 : base ≤ (wr.alloc (.cells #[.int .u8 (lo / 16777216)] 5)).drew.heap.size := by simp; have := unhide hbs; omega
        replace b0 := hide b0; replace oA := hide oA; replace KA := hide KA; replace sA := hide sA; replace s1 := hide s1; replace b1 := hide b1; replace b2 := hide b2; replace b3 := hide b3
        go_wp2_with fail
        go_region_law (first
          | (refine step_app_at rfl (.tmp 54) (.tmp 61) 29 rfl base 5 i5 _ 1 1 Tryz.underlying29 hi5 iz0 iz1 iz2 rfl (Nat.succ_pos _) _ tx.length (tx.flatMap byc) rfl (unhide oA) (some ⟨wr.heap.size, 0, none⟩) 1 1 [.int .u8 (lo / 16777216)] rfl rfl (unhide sA) (unhide s1) (unhide b1) (unhide b2) (unhide b3) ?_
             intro v6 w6 o6 g6 l6
             obtain ⟨A6, ct6, rfl⟩ := ownsRow_form o6
             have K6 := Blk.grown (unhide KA) g6 (own_ne (unhide oA) (unhide KA) (by decide))
             have x6 := K6.frozen 2
             have y6 := K6.cell 2
             simp at y6
             replace K6 := hide K6; replace o6 := hide o6; replace g6 := hide g6; replace l6 := hide l6))
        all_goals
          clear c0 c2 c3 f0 f2 f3 x6 y6
          obtain ⟨g7, _, e7, _, _⟩ := own_pos (unhide o6) (by omega)
          subst e7
          have K7 := (unhide K6).set 2 (.slice (some ⟨g7, 0, none⟩) (tx.length + 1) ct6)
          have o7 := own_far (unhide o6) (unhide K6) (by decide) 2 (.slice (some ⟨g7, 0, none⟩) (tx.length + 1) ct6)
          have r6 := own_grown (own_drew ((unhide hr).alloc (.cells #[.int .u8 (lo / 16777216)] 5))) (unhide g6) (own_own (own_drew ((unhide hr).alloc (.cells #[.int .u8 (lo / 16777216)] 5))) (unhide oA) (by decide))
          have r7 := own_far r6 (unhide K6) (by decide) 2 (.slice (some ⟨g7, 0, none⟩) (tx.length + 1) ct6)
          have B7 := ((((unhide hB).alloc (.cells #[.int .u8 (lo / 16777216)] 5)).drew.grown (unhide g6) (fun q hq => .inl (by injection hq with hq; simp [← hq]))).set (p := ⟨g, 2, none⟩) (by simp) (.slice (some ⟨g7, 0, none⟩) (tx.length + 1) ct6))
          have hbs7 : base ≤ w6.heap.size := Nat.le_trans (unhide b3) (unhide g6).size
          clear r6 hK hr ht hB hbs oA KA sA s1 b1 b2 b3 K6 o6 g6 l6
          have z7 : w6.heap.size = (w6.setCell ⟨g, 2, none⟩ (.slice (some ⟨g7, 0, none⟩) (tx.length + 1) ct6)).heap.size := by simp
          rw [z7] at hbs7
          clear z7
          generalize w6.setCell ⟨g, 2, none⟩ (.slice (some ⟨g7, 0, none⟩) (tx.length + 1) ct6) = w7 at *
          simp at K7
          have c3 : w7.cell? ⟨g, 3, none⟩ = some (.int .u32 lo) := K7.cell 3
          have c0 : w7.cell? ⟨g, 0, none⟩ = some (.int .u32 sp) := K7.cell 0
          have f0 := K7.frozen 0
          have f3 := K7.frozen 3
          have K8 := K7.set 3 (.int .u32 (lo % 16777216 * 256))
          simp at K8
          have K9 := K8.set 0 (.int .u32 (sp * 256))
          simp at K9
          have o9 := own_far (own_far o7 K7 (by decide) 3 (.int .u32 (lo % 16777216 * 256))) K8 (by decide) 0 (.int .u32 (sp * 256))
          have r9 := own_far (own_far r7 K7 (by decide) 3 (.int .u32 (lo % 16777216 * 256))) K8 (by decide) 0 (.int .u32 (sp * 256))
          have B9 := ((B7.set (p := ⟨g, 3, none⟩) (by simp) (.int .u32 (lo % 16777216 * 256))).set (p := ⟨g, 0, none⟩) (by simp) (.int .u32 (sp * 256)))
          clear o7 r7 B7 K8 K7
          replace K9 := hide K9; replace o9 := hide o9; replace r9 := hide r9; replace B9 := hide B9; replace hbs7 := hide hbs7
          go_wp2_with fail
          clear j1 j2 j3
          go_roundg 0
          case measure => omega
          case rel =>
            refine ⟨sp * 256, lo % 16777216 * 256, tx ++ [lo / 16777216], g7, ct6, .inr ⟨rfl, hlt, rfl, rfl, rfl⟩, ?_, r9, ?_, B9, ?_⟩
            · rw [List.length_append]; exact K9
            · rw [List.length_append, List.flatMap_append]; exact o9
            · exact hide (by simp; exact unhide hbs7)
      · have hp : put s ⟨k, false⟩ = ⟨stepA s.c ⟨k, false⟩, sp, lo, tx⟩ := by
          unfold put
          rw [unhide hput1]
          exact if_neg hlt
        replace hp := hide hp
        clear hput1
        go_wp2_with fail
        refine bodyPost_end (results_none rfl _ _ _) rfl ?_
        rw [unhide hp]
        exact ⟨rfl, ⟨gt', ct', ⟨by rw [stepA_len]; exact unhide hK, by rw [stepA_len]; exact unhide hr, unhide ht⟩⟩, unhide hB⟩
    · have hp : put s ⟨k, false⟩ = ⟨stepA s.c ⟨k, false⟩, G * 256, L % 16777216 * 256, T ++ [L / 16777216]⟩ := by
        unfold put
        rw [unhide hput1]
        exact if_pos hlt
      replace hp := hide hp
      clear hput1
      go_wp2_with fail
      refine bodyPost_end (results_none rfl _ _ _) rfl ?_
      rw [unhide hp]
      exact ⟨rfl, gt', ct', ⟨by rw [stepA_len]; exact unhide hK, by rw [stepA_len]; exact unhide hr, unhide ht⟩, unhide hB⟩
end Go.Proofs.YthkccpemgmpadaaGreatDoor.P
