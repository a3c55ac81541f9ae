import Derived.Test.YthkccpemgmpadaaGreatDoorU12
namespace Go.Proofs.YthkccpemgmpadaaGreatDoor.P
set_option maxRecDepth 100000
open Go.RowKit
theorem be4_step {L : Int} {m : Nat} (hm : m ≤ 3) : (be4 L).take (m + 1) = L / 16777216 :: (be4 (L % 16777216 * 256)).take m := by
  rcases (by omega : m = 0 ∨ m = 1 ∨ m = 2 ∨ m = 3) with rfl | rfl | rfl | rfl
  · simp [be4]
  · simp [be4]; omega
  · simp [be4]; omega
  · simp [be4]; omega
set_option maxRecDepth 100000 in
set_option maxHeartbeats 8000000 in
theorem refEncode_good (n : Nat) (hn : n ≤ 1024) (lo : Nat) (v : Value) (bs : List Bit) (w : World) (h : Bts lo w.heap.size w v bs) (hl : bs.length ≤ 10000) (hin : bs.all (inB n) = true) :
    Calls Tryz.prog 65 #[.int .i64 n, v] w fun e w' => ∃ g c, e = .returned (.tuple #[.slice (some ⟨g, 0, none⟩) (endT (putAll (start0 n) bs)).length c, .int .i64 0]) ∧
      w'.ownsRow w.heap.size 5 1 (.slice (some ⟨g, 0, none⟩) (endT (putAll (start0 n) bs)).length c) (endT (putAll (start0 n) bs)).length ((endT (putAll (start0 n) bs)).flatMap byc) ∧ Below w.heap.size w w' := by
  generalize hTT : endT (putAll (start0 (n : Int)) bs) = T
  have hN := fun W => refNew_own n hn W
  have hx : ∀ x ∈ bs, inB n x = true := by simpa using hin
  obtain ⟨A, c, rfl, x1, x2, x3⟩ := h.open
  obtain ⟨i5, hi5, iz0, iz1, iz2⟩ := info5'
  have hL : ¬ (1048576 : Int) < (bs.length : Int) := by omega
  clear h hin
  replace hN := hide hN; replace x3 := hide x3; replace hx := hide hx; replace hTT := hide hTT
  go_enter Tryz.func65, Tryz.ntmps65
  go_wp2_with (first
    | (go_at_call 79; refine (unhide hN _).mono ?_; rintro e w1 ⟨Ap, cp, rfl, ho, hb1⟩; replace ho := hide ho; replace hb1 := hide hb1)
    | fail)
  clear hL
  go_loopw [30] (fun i wr => ∃ (k : Nat), k ≤ bs.length ∧ i = .int .i64 k ∧ Hid (wr.ownsRow w.heap.size 3 1 (.slice Ap n cp) n ((List.replicate n (1024 : Int)).flatMap ivc)) ∧ Hid (Below w.heap.size w wr)) (fun i _ => bs.length - (intOf i).toNat)
  case atStart => exact ⟨0, Nat.zero_le _, rfl, ho, hb1⟩
  case round =>
    obtain ⟨k, hk, rfl, hO, hB⟩ := hrel
    clear ho hb1
    by_cases hlt : k < bs.length
    · obtain ⟨b, off, rfl, g1, g2, q0, q1⟩ := unhide x3 k hlt
      have c0 := ((unhide hB).cell (p := ⟨b, off + k * 2, none⟩) g2).trans q0
      have c1 := ((unhide hB).cell (p := ⟨b, off + k * 2 + 1, none⟩) g2).trans q1
      have hs := unhide hx bs[k] (List.getElem_mem _)
      generalize bs[k] = x at *
      obtain ⟨xa, xb⟩ := x
      obtain ⟨d0, d1⟩ := inB_iff.1 hs
      simp only [] at c0 c1 d0 d1
      have e0 : decide (xa < 0) = false := by simpa using d0
      have e1 : decide ((n : Int) ≤ xa) = false := by simpa using d1
      have hBA := (unhide hB).alloc (unhide hB).size (.cells #[.int .i64 xa, .bool xb] 121)
      have hOA := (unhide hO).alloc (.cells #[.int .i64 xa, .bool xb] 121)
      have i1 : IntKind.i64.wrap ((k : Int) + 1) = (k : Int) + 1 := IntWalk.i64_in _ (by omega)
      have hk0 : (0 : Int) ≤ (k : Int) := by omega
      have hk1 : (k : Int) < (bs.length : Int) := by omega
      clear hs q0 q1 d0 d1
      replace hBA := hide hBA; replace hOA := hide hOA
      go_wp2_with fail
      clear i1
      go_roundw
      case rel => exact ⟨k + 1, by omega, by go_num, hOA, hBA⟩
      case measure => simp [intOf]; omega
    · obtain rfl : k = bs.length := by omega
      have o1 := own_text (base := w.heap.size) (Blk.new (w := wr) (t := 5) (cs := #[.int .u8 0]) rfl) (unhide hB).size
      have O1 := (unhide hO).alloc (.cells #[.int .u8 0] 5)
      have B1 := (unhide hB).alloc (unhide hB).size (.cells #[.int .u8 0] 5)
      replace o1 := hide o1; replace O1 := hide O1; replace B1 := hide B1
      go_wp2_with fail
      generalize wr.alloc (.cells #[.int .u8 0] 5) = w2 at *
      generalize wr.heap.size = gt0 at *
      clear hO hB
      go_loopg [10, 11, 12, 47] bs.length (fun kk sp lw tx i wx => ∃ (k gt ct : Nat) (s : Enc), kk + k = bs.length ∧ i = .int .i64 k ∧ sp = .int .u32 s.span ∧ lw = .int .u64 s.low ∧ tx = .slice (some ⟨gt, 0, none⟩) s.text.length ct ∧
        Hid (s = putAll (start0 n) (bs.take k)) ∧ Hid (InvE s) ∧ Hid (s.c.length = n) ∧ Hid (s.text.length ≤ 1 + k) ∧ Hid (wx.ownsRow w.heap.size 3 1 (.slice Ap n cp) n (s.c.flatMap ivc)) ∧
        Hid (wx.ownsRow w.heap.size 5 1 (.slice (some ⟨gt, 0, none⟩) s.text.length ct) s.text.length (s.text.flatMap byc)) ∧ Hid (Below w.heap.size w wx))
      case atStart => exact ⟨0, gt0, 1, start0 n, by omega, rfl, rfl, rfl, rfl, hide rfl, hide (start_ok (by omega)), hide (start_c n), hide (by simp [start0]), hide (by simpa [start0] using unhide O1), hide (by simpa [start0] using unhide o1), B1⟩
      case round =>
        obtain ⟨k, gt, ct, s, hk, rfl, rfl, rfl, rfl, hs, hI, hc, ht, hO, hT, hB⟩ := hrel
        clear o1 O1 B1
        generalize wr = wx at *
        by_cases hlt : k < bs.length
        · obtain ⟨b, off, rfl, g1, g2, q0, q1⟩ := unhide x3 k hlt
          have c0 := ((unhide hB).cell (p := ⟨b, off + k * 2, none⟩) g2).trans q0
          have c1 := ((unhide hB).cell (p := ⟨b, off + k * 2 + 1, none⟩) g2).trans q1
          have hxk := unhide hx bs[k] (List.getElem_mem _)
          have hsn : put s bs[k] = putAll (start0 n) (bs.take (k + 1)) := by rw [putAll_snoc _ hlt, ← unhide hs]
          generalize bs[k] = x at *
          obtain ⟨xa, xb⟩ := x
          obtain ⟨d0, d1⟩ := inB_iff.1 hxk
          simp only [] at c0 c1 d0 d1
          obtain ⟨m, rfl⟩ : ∃ m : Nat, xa = (m : Int) := ⟨xa.toNat, by omega⟩
          have hmn : m < n := by omega
          have hmc : m < s.c.length := by rw [unhide hc]; exact hmn
          obtain ⟨gp, _, rfl, _, _⟩ := own_pos (unhide hO) (by omega)
          have ok1 := put1_ok (x := ⟨m, xb⟩) (unhide hI) (by rw [unhide hc]; exact hxk)
          have hpo := part_ok (unhide hI).c (i := (m : Int)) (by omega) (by omega) (unhide hI).span
          have hpc := (okC_iff.1 (unhide hI).c).2 _ (List.getElem_mem hmc)
          have hpp : partP s.span s.c (m : Int) = s.span / 2048 * s.c[m] := by unfold partP; rw [Int.toNat_natCast, getD_get hmc]
          have hS := fun W => refSplit_any s.span s.c[m] W (by have := (unhide hI).span; omega)
          rw [show splR s.span s.c[m] = s.span / 2048 * s.c[m] by simp [splR, hpc, (unhide hI).span.1], show splE s.span s.c[m] = 0 by simp [splE, hpc, (unhide hI).span.1], ← hpp] at hS
          have hLn := fun W => refLearn_any s.c[m] xb W
          rw [lrnR_ok xb hpc, hpc, badE_t] at hLn
          have hstep := stepA_nat hmc xb
          obtain ⟨q, hq⟩ : ∃ q, q = lrn s.c[m] xb := ⟨_, rfl⟩
          rw [← hq] at hLn hstep
          have hget := ivc_at s.c m hmc
          generalize s.c[m] = p at *
          obtain ⟨S1, hS1⟩ : ∃ S1, S1 = (put1 s ⟨m, xb⟩).span := ⟨_, rfl⟩
          obtain ⟨L1, hL1⟩ : ∃ L1, L1 = (put1 s ⟨m, xb⟩).low := ⟨_, rfl⟩
          obtain ⟨T1, hT1⟩ : ∃ T1, T1 = (put1 s ⟨m, xb⟩).text := ⟨_, rfl⟩
          have hC1 : (put1 s ⟨m, xb⟩).c = stepA s.c ⟨m, xb⟩ := rfl
          have wA1 : (wx.alloc (.cells #[.int .i64 m, .bool xb] 121)).cell? ⟨gp, m, none⟩ = some (.int .i64 p) := (own_cell ((unhide hO).alloc _) m hmn).trans hget
          have hBA := (unhide hB).alloc (unhide hB).size (.cells #[.int .i64 m, .bool xb] 121)
          have hOA := (unhide hO).alloc (.cells #[.int .i64 m, .bool xb] 121)
          have hTA := (unhide hT).alloc (.cells #[.int .i64 m, .bool xb] 121)
          have hKA : Blk (wx.alloc (.cells #[.int .i64 m, .bool xb] 121)) wx.heap.size 121 #[.int .i64 m, .bool xb] := Blk.new rfl
          have hgx := (unhide hB).size
          clear q0 q1 d1 hpc hpp hO hB hT d0
          replace hBA := hide hBA; replace hOA := hide hOA; replace hTA := hide hTA; replace hKA := hide hKA; replace ok1 := hide ok1; replace hpo := hide hpo; replace hS := hide hS; replace hLn := hide hLn; replace hstep := hide hstep
          replace hq := hide hq; replace hget := hide hget; replace hxk := hide hxk; replace hS1 := hide hS1; replace hL1 := hide hL1; replace hT1 := hide hT1; replace hC1 := hide hC1; replace hsn := hide hsn; replace hmc := hide hmc; replace hgx := hide hgx; replace hmn := hide hmn
          go_upto_region 18 with fail
          generalize wx.alloc (.cells #[.int .i64 m, .bool xb] 121) = wA at *
          have b0 : wA.cell? ⟨wx.heap.size, 0, none⟩ = some (.int .i64 m) := (unhide hKA).cell 0
          have b1 : wA.cell? ⟨wx.heap.size, 1, none⟩ = some (.bool xb) := (unhide hKA).cell 1
          have bl := (unhide hKA).lt
          have pl := (own_lt (unhide hOA)).1
          generalize wx.heap.size = gx at *
          obtain ⟨P, hP⟩ : ∃ P, P = partP s.span s.c (m : Int) := ⟨_, rfl⟩
          obtain ⟨L0, hL0⟩ : ∃ L0, L0 = if xb then s.low + P else s.low := ⟨_, rfl⟩
          rw [← hP] at hS hpo
          have hspan := (unhide hI).span
          have hlow := (unhide hI).low
          replace hP := hide hP; replace hL0 := hide hL0; replace hspan := hide hspan; replace hlow := hide hlow
          go_upto_if 62 with (first
            | (go_at_call 101; refine (unhide hS _).mono ?_; rintro e w4 ⟨rfl, rfl⟩)
            | fail)
          clear wA1
          go_cut [10, 11] (fun sp lw wc => sp = .int .u32 S1 ∧ lw = .int .u64 L0 ∧ wA = wc)
          case first =>
            have e1 := unhide hS1; have e2 := unhide hL0; have e3 := unhide hP; have e4 := unhide hpo; have e5 := unhide hspan; have e6 := unhide hlow
            simp only [put1, ← e3] at e1
            have j0 : IntKind.u64.wrap P = P := IntWalk.u64_in _ (by omega)
            have j1 : IntKind.u64.wrap (s.low + P) = s.low + P := IntWalk.u64_in _ (by omega)
            have j2 : IntKind.u32.wrap (s.span - P) = s.span - P := IntWalk.u32_in _ (by omega)
            replace e1 := hide e1; replace e2 := hide e2
            clear e3 e4 e5 e6
            cases xb
            · go_wp2_with fail
              go_meet
              exact ⟨by rw [unhide e1]; rfl, by rw [unhide e2]; rfl, rfl⟩
            · go_wp2_with fail
              go_meet
              exact ⟨by rw [unhide e1]; rfl, by rw [unhide e2]; rfl, rfl⟩
          case rest =>
            obtain ⟨rfl, rfl, rfl⟩ := hcut
            go_upto_if 72 with fail
            go_cut [11] (fun lw wc => lw = .int .u64 L1 ∧ Hid (wc.ownsRow w.heap.size 3 1 (.slice (some ⟨gp, 0, none⟩) n cp) n (s.c.flatMap ivc)) ∧
              Hid (wc.ownsRow w.heap.size 5 1 (.slice (some ⟨gt, 0, none⟩) s.text.length ct) s.text.length (T1.flatMap byc)) ∧ Hid (Blk wc gx 121 #[.int .i64 m, .bool xb]) ∧ Hid (Below w.heap.size w wc))
            case first =>
              have hM := fun W hW => more_any gt ct w.heap.size s.text W hW (unhide hI).text (by have := unhide ht; omega)
              have e1 := unhide hL1; have e2 := unhide hL0; have e3 := unhide hP; have e4 := unhide hpo; have e5 := unhide hspan; have e6 := unhide hlow; have e7 := unhide hT1
              simp only [put1, ← e3] at e1 e7
              replace hM := hide hM
              by_cases hcar : 4294967296 ≤ L0
              · have hd : decide (4294967296 ≤ L0) = true := by simpa using hcar
                have hxb : xb = true := by cases xb; (· simp at e2; omega); rfl
                rw [hxb] at e1 e2 e7
                simp only [if_true] at e1 e2 e7
                rw [if_pos ⟨trivial, by omega⟩] at e7
                have j1 : IntKind.u64.wrap (L0 - 4294967296) = L0 - 4294967296 := IntWalk.u64_in _ (by omega)
                have e8 : L0 - 4294967296 = L1 := by omega
                replace e7 := hide e7; replace e8 := hide e8
                clear e1 e2 e3 e4 e5 e6 hxb
                go_wp2_with (first
                  | (go_at_call 102; refine (unhide hM _ (unhide hTA)).mono ?_; rintro e w5 ⟨rfl, o5, hb5⟩
                     have p5 := own_but (unhide hOA) hb5 (fun q hq cs hcs => by
                       simp only [List.mem_cons, List.not_mem_nil, or_false] at hq
                       subst hq
                       exact own_not (unhide hTA) (by decide : (5 : TypeId) ≠ 3) hcs)
                     have k5 := (unhide hKA).but hb5 (fun hq => by
                       simp only [List.mem_cons, List.not_mem_nil, or_false] at hq
                       subst hq
                       exact own_not (unhide hTA) (by decide : (5 : TypeId) ≠ 121) (unhide hKA))
                     have B5 : Below w.heap.size w w5 := (unhide hBA).trans (hb5.below (by
                       have := (own_lt (unhide hTA)).2
                       simp only [List.mem_cons, List.not_mem_nil, or_false]
                       rintro q rfl; exact this) (unhide hBA).size)
                     replace o5 := hide o5; replace p5 := hide p5; replace k5 := hide k5; replace B5 := hide B5
                     clear hb5)
                  | fail)
                go_meet
                exact ⟨by rw [unhide e8], p5, hide (by rw [unhide e7]; exact unhide o5), k5, B5⟩
              · have hd : decide (4294967296 ≤ L0) = false := by simpa using hcar
                have e8 : L0 = L1 := by rw [e1, e2]; cases xb; (· rfl); (· simp only [if_true] at e2 ⊢; omega)
                have e9 : s.text = T1 := by rw [e7, if_neg]; rintro ⟨hx1, hx2⟩; subst hx1; simp only [if_true] at e2; omega
                replace e9 := hide e9; replace e8 := hide e8
                clear e1 e2 e3 e4 e5 e6 e7
                go_wp2_with fail
                go_meet
                exact ⟨by rw [unhide e8], hOA, hide (by rw [← unhide e9]; exact unhide hTA), hKA, hBA⟩
            case rest =>
              clear hOA hTA hKA hBA b0 b1 bl pl
              obtain ⟨rfl, hOA, hTA, hKA, hBA⟩ := hcut
              generalize wc = wA at *
              have u0 : wA.cell? ⟨gx, 0, none⟩ = some (.int .i64 m) := (unhide hKA).cell 0
              have u1 : wA.cell? ⟨gx, 1, none⟩ = some (.bool xb) := (unhide hKA).cell 1
              have ul := (unhide hKA).lt
              have ux : wA.cell? ⟨gp, m, none⟩ = some (.int .i64 p) := (own_cell (unhide hOA) m (unhide hmn)).trans (unhide hget)
              obtain ⟨_, cur, e9, _, hcur⟩ := own_pos (unhide hOA) (by have := unhide hmn; omega)
              injection e9 with e9
              injection e9 with e9
              subst e9
              have fx := hcur.frozen m
              have ngA : gx ≠ gp := fun e => own_not (unhide hOA) (by decide : (3 : TypeId) ≠ 121) (e ▸ unhide hKA)
              have oTf := own_far (unhide hTA) hcur (by decide : (5 : TypeId) ≠ 3) m (.int .i64 q)
              have hgA := (own_lt (unhide hOA)).2
              have pl := (own_lt (unhide hOA)).1
              have mm0 : (0 : Int) ≤ (m : Int) := by omega
              have mm1 : (m : Int) < (n : Int) := by have := unhide hmn; omega
              clear hcur
              replace ngA := hide ngA; replace oTf := hide oTf; replace hgA := hide hgA
              go_upto_region 26 with fail
              go_cut [14] (fun s14 wc => s14 = .pointer (some ⟨gx, 0, none⟩) ∧ Hid (wc.ownsRow w.heap.size 3 1 (.slice (some ⟨gp, 0, none⟩) n cp) n ((stepA s.c ⟨m, xb⟩).flatMap ivc)) ∧
                Hid (wc.ownsRow w.heap.size 5 1 (.slice (some ⟨gt, 0, none⟩) s.text.length ct) s.text.length (T1.flatMap byc)) ∧ Hid (Below w.heap.size w wc))
              case first =>
                go_region_with
                  (first
                    | (go_at_call 103; refine (unhide hLn _).mono ?_; rintro e w1 ⟨rfl, rfl⟩))
                all_goals
                  go_wp2_with fail
                  go_meet
                  refine ⟨rfl, hide ?_, hide ?_, hide ?_⟩
                  · have := own_put (k := m) (unhide hOA) (.int .i64 q)
                    rw [ivc_set, ← unhide hstep] at this
                    exact own_drew this
                  · exact own_drew (unhide oTf)
                  · exact Below.drew ((unhide hBA).setCell (p := ⟨gp, m, none⟩) (unhide hgA) _)
              case rest =>
                obtain ⟨rfl, hOC, hTC, hBC⟩ := hcut
                clear hOA hTA hKA hBA u0 u1 ul ux fx pl mm0 mm1 oTf ngA hgA
                have hT1l : T1.length = s.text.length := by rw [unhide hT1]; exact put1_len _ _
                have k1 := (unhide ok1).2.1
                rw [← unhide hS1] at k1
                have k2 := (unhide ok1).2.2.2.1
                rw [← unhide hL1] at k2
                rw [← hT1l] at hTC ⊢
                replace hT1l := hide hT1l
                go_wp2_with fail
                go_loopg [10, 11, 12] 1 (fun kk sp lw tx wr => ∃ (gt ct : Nat) (S L : Int) (T : List Int), ((kk = 1 ∧ S = S1 ∧ L = L1 ∧ T = T1) ∨ (kk = 0 ∧ S1 < 16777216 ∧ S = S1 * 256 ∧ L = L1 % 16777216 * 256 ∧ T = T1 ++ [L1 / 16777216])) ∧
                  sp = .int .u32 S ∧ lw = .int .u64 L ∧ tx = .slice (some ⟨gt, 0, none⟩) T.length ct ∧ Hid (wr.ownsRow w.heap.size 3 1 (.slice (some ⟨gp, 0, none⟩) n cp) n ((stepA s.c ⟨m, xb⟩).flatMap ivc)) ∧
                  Hid (wr.ownsRow w.heap.size 5 1 (.slice (some ⟨gt, 0, none⟩) T.length ct) T.length (T.flatMap byc)) ∧ Hid (Below w.heap.size w wr))
                case atStart => exact ⟨gt, ct, S1, L1, T1, .inl ⟨rfl, rfl, rfl, rfl⟩, rfl, rfl, rfl, hOC, hTC, hBC⟩
                case round =>
                  clear hOC hTC hBC
                  obtain ⟨gt', ct', S, L, T, hcase, rfl, rfl, rfl, hOC, hTC, hBC⟩ := hrel
                  rcases hcase with ⟨rfl, rfl, rfl, rfl⟩ | ⟨rfl, hlt4, rfl, rfl, rfl⟩
                  · by_cases hlt4 : S < 16777216
                    · have j1 : IntKind.u8.wrap (L / 16777216) = L / 16777216 := IntWalk.u8_in _ (by omega)
                      have j2 : IntKind.u64.wrap (L / 16777216) = L / 16777216 := IntWalk.u64_in _ (by omega)
                      have j3 : IntKind.u64.wrap (L % 16777216) = L % 16777216 := IntWalk.u64_in _ (by omega)
                      have j4 : IntKind.u64.wrap (L % 16777216 * 256) = L % 16777216 * 256 := IntWalk.u64_in _ (by omega)
                      have j5 : IntKind.u32.wrap (S * 256) = S * 256 := IntWalk.u32_in _ (by omega)
                      have j6 : L.tdiv 16777216 = L / 16777216 := Int.tdiv_eq_ediv_of_nonneg (by omega)
                      have j7 : L.tmod 16777216 = L % 16777216 := Int.tmod_eq_emod_of_nonneg (by omega)
                      have b1 : T.length + 1 ≤ maxLen := by have := unhide hT1l; have := unhide ht; simp only [maxLen]; omega
                      have b2 : (T.length + 1) * 1 ≤ 140737488355328 := by have := unhide hT1l; have := unhide ht; omega
                      have s1 : ∀ u ∈ [Value.int .u8 (L / 16777216)], u.oneCell' = true := by intro u hu; simp at hu; subst hu; rfl
                      have OA := (unhide hOC).alloc (.cells #[.int .u8 (L / 16777216)] 5)
                      have TA := (unhide hTC).alloc (.cells #[.int .u8 (L / 16777216)] 5)
                      have BA := (unhide hBC).alloc (unhide hBC).size (.cells #[.int .u8 (L / 16777216)] 5)
                      have S8 : SrcOk (wr.alloc (.cells #[.int .u8 (L / 16777216)] 5)) (some ⟨wr.heap.size, 0, none⟩) 1 [.int .u8 (L / 16777216)] := SrcOk.blk (cur := [.int .u8 (L / 16777216)]) (Blk.new rfl) fun j u hu => by simpa using hu
                      replace b1 := hide b1; replace b2 := hide b2; replace s1 := hide s1; replace OA := hide OA; replace TA := hide TA; replace BA := hide BA; replace S8 := hide S8
                      go_wp2_with (first
                        | (at_builtin
                           refine wpList_app _ rfl (.tmp 94) (.tmp 98) 29 rfl w.heap.size 5 i5 _ 1 1 Tryz.underlying29 hi5 iz0 iz1 iz2 rfl (Nat.succ_pos _) _ T.length (T.flatMap byc) rfl (unhide TA) (some ⟨wr.heap.size, 0, none⟩) 1 1 [.int .u8 (L / 16777216)] rfl rfl (unhide S8) (unhide s1) (unhide b1) (unhide b2) (unhide BA).size ?_
                           intro v6 w6 o6 g6
                           obtain ⟨A6, c6, rfl⟩ := ownsRow_form o6
                           obtain ⟨g7, _, rfl, _, _⟩ := own_pos o6 (by omega)
                           have B6 : Below w.heap.size w w6 := bl_grown (unhide BA) g6 (own_base (unhide TA))
                           have P6 := own_grown (unhide OA) g6 (own_own (unhide OA) (unhide TA) (by decide))
                           replace o6 := hide o6; replace B6 := hide B6; replace P6 := hide P6
                           clear g6)
                        | fail)
                      clear j1 j2 j3 j4 j5 j6 j7
                      go_roundg 0
                      case measure => omega
                      case rel => exact ⟨g7, c6, S * 256, L % 16777216 * 256, T ++ [L / 16777216], .inr ⟨rfl, hlt4, rfl, rfl, rfl⟩, rfl, rfl, by rw [List.length_append]; rfl, P6, hide (by rw [List.length_append, List.flatMap_append]; exact unhide o6), B6⟩
                    · have d4 : decide (S < 16777216) = false := by simpa using hlt4
                      have ep : put s ⟨m, xb⟩ = put1 s ⟨m, xb⟩ := by unfold put; rw [if_neg (by rw [← unhide hS1]; exact hlt4)]
                      have eI := (put_ok (x := ⟨m, xb⟩) (unhide hI) (by rw [unhide hc]; exact unhide hxk)).1
                      have ec := put_c s ⟨m, xb⟩
                      have et := put_len s ⟨m, xb⟩
                      rw [unhide hc] at ec
                      have et' : (put s ⟨m, xb⟩).text.length ≤ 1 + (k + 1) := by have := unhide ht; omega
                      have f1 : (put s ⟨m, xb⟩).span = S := by rw [ep]; rw [unhide hS1]
                      have f2 : (put s ⟨m, xb⟩).low = L := by rw [ep]; rw [unhide hL1]
                      have f3 : (put s ⟨m, xb⟩).text = T := by rw [ep]; rw [unhide hT1]
                      have f4 : (put s ⟨m, xb⟩).c = stepA s.c ⟨m, xb⟩ := by rw [ep]; rfl
                      have f5 := unhide hsn
                      generalize put s ⟨m, xb⟩ = s' at *
                      rw [← f3] at hTC
                      replace eI := hide eI; replace ec := hide ec; replace et' := hide et'; replace f1 := hide f1; replace f2 := hide f2; replace f3 := hide f3; replace f4 := hide f4; replace f5 := hide f5
                      clear ep et
                      have i3 : IntKind.i64.wrap ((k : Int) + 1) = (k : Int) + 1 := IntWalk.i64_in _ (by omega)
                      go_wp2_with fail
                      clear i3
                      go_roundg (bs.length - (k + 1))
                      case measure => omega
                      case rel => exact ⟨k + 1, gt', ct', s', by omega, by go_num, by rw [unhide f1], by rw [unhide f2], by first | (rw [unhide f3]; done) | (rw [unhide f3, List.length_append]; rfl), f5, eI, ec, et', hide (by rw [unhide f4]; exact unhide hOC), hTC, hBC⟩
                  · have d4 : decide (S1 * 256 < 16777216) = false := by simp; omega
                    have d5 : ¬ S1 * 256 < 16777216 := by omega
                    have ep : put s ⟨m, xb⟩ = shf (put1 s ⟨m, xb⟩) := by unfold put; rw [if_pos (by rw [← unhide hS1]; exact hlt4)]
                    have eI := (put_ok (x := ⟨m, xb⟩) (unhide hI) (by rw [unhide hc]; exact unhide hxk)).1
                    have ec := put_c s ⟨m, xb⟩
                    have et := put_len s ⟨m, xb⟩
                    rw [unhide hc] at ec
                    have et' : (put s ⟨m, xb⟩).text.length ≤ 1 + (k + 1) := by have := unhide ht; omega
                    have f1 : (put s ⟨m, xb⟩).span = S1 * 256 := by rw [ep]; simp only [shf]; rw [unhide hS1]
                    have f2 : (put s ⟨m, xb⟩).low = L1 % 16777216 * 256 := by rw [ep]; simp only [shf]; rw [unhide hL1]
                    have f3 : (put s ⟨m, xb⟩).text = T1 ++ [L1 / 16777216] := by rw [ep]; simp only [shf]; rw [unhide hT1, unhide hL1]
                    have f4 : (put s ⟨m, xb⟩).c = stepA s.c ⟨m, xb⟩ := by rw [ep]; rfl
                    have f5 := unhide hsn
                    generalize put s ⟨m, xb⟩ = s' at *
                    rw [← f3] at hTC
                    replace eI := hide eI; replace ec := hide ec; replace et' := hide et'; replace f1 := hide f1; replace f2 := hide f2; replace f3 := hide f3; replace f4 := hide f4; replace f5 := hide f5
                    clear ep et
                    have i3 : IntKind.i64.wrap ((k : Int) + 1) = (k : Int) + 1 := IntWalk.i64_in _ (by omega)
                    go_wp2_with fail
                    clear i3
                    go_roundg (bs.length - (k + 1))
                    case measure => omega
                    case rel => exact ⟨k + 1, gt', ct', s', by omega, by go_num, by rw [unhide f1], by rw [unhide f2], by first | (rw [unhide f3]; done) | (rw [unhide f3, List.length_append]; rfl), f5, eI, ec, et', hide (by rw [unhide f4]; exact unhide hOC), hTC, hBC⟩
        · obtain rfl : k = bs.length := by omega
          have hTs : endT s = T := by rw [← unhide hTT, unhide hs, List.take_length]
          have hlow := (unhide hI).low
          have htl : s.text.length ≤ 1 + bs.length := unhide ht
          have hend : s.text ++ (be4 s.low).take 4 = T := by rw [← hTs]; rfl
          generalize s.low = L0 at *
          generalize s.text = T0 at *
          replace hend := hide hend; replace hlow := hide hlow; replace htl := hide htl
          clear hs hI hc ht hTs hTT
          go_wp2_with fail
          go_loopg [11, 12, 106] 4 (fun kk lw tx i wr => ∃ (j gt ct : Nat) (L : Int) (T1 : List Int), kk + j = 4 ∧ i = .int .i64 j ∧ lw = .int .u64 L ∧ tx = .slice (some ⟨gt, 0, none⟩) T1.length ct ∧ Hid (0 ≤ L ∧ L < 4294967296) ∧ Hid (T1.length = T0.length + j) ∧ Hid (T1 ++ (be4 L).take (4 - j) = T) ∧
            Hid (wr.ownsRow w.heap.size 5 1 (.slice (some ⟨gt, 0, none⟩) T1.length ct) T1.length (T1.flatMap byc)) ∧ Hid (Below w.heap.size w wr))
          case atStart => exact ⟨0, gt, ct, L0, T0, rfl, rfl, rfl, rfl, hlow, hide rfl, hend, hT, hB⟩
          case round =>
            clear hT hB hO hlow hend
            obtain ⟨j, gt', ct', L, T1, hj, rfl, rfl, rfl, hL, hl1, hE, hT, hB⟩ := hrel
            have hL' := unhide hL
            by_cases hlt4 : j < 4
            · have j1 : IntKind.u8.wrap (L / 16777216) = L / 16777216 := IntWalk.u8_in _ (by omega)
              have j2 : IntKind.u64.wrap (L / 16777216) = L / 16777216 := IntWalk.u64_in _ (by omega)
              have j3 : IntKind.u64.wrap (L % 16777216) = L % 16777216 := IntWalk.u64_in _ (by omega)
              have j4 : IntKind.u64.wrap (L % 16777216 * 256) = L % 16777216 * 256 := IntWalk.u64_in _ (by omega)
              have j5 : IntKind.i64.wrap ((j : Int) + 1) = (j : Int) + 1 := IntWalk.i64_in _ (by omega)
              have j6 : L.tdiv 16777216 = L / 16777216 := Int.tdiv_eq_ediv_of_nonneg (by omega)
              have j7 : L.tmod 16777216 = L % 16777216 := Int.tmod_eq_emod_of_nonneg (by omega)
              have hE2 := unhide hE
              rw [show 4 - j = (3 - j) + 1 by omega, be4_step (by omega)] at hE2
              have hL2 : 0 ≤ L % 16777216 * 256 ∧ L % 16777216 * 256 < 4294967296 := by omega
              have b1 : T1.length + 1 ≤ maxLen := by have := unhide hl1; have := unhide htl; simp only [maxLen]; omega
              have b2 : (T1.length + 1) * 1 ≤ 140737488355328 := by have := unhide hl1; have := unhide htl; omega
              have s1 : ∀ u ∈ [Value.int .u8 (L / 16777216)], u.oneCell' = true := by intro u hu; simp at hu; subst hu; rfl
              have TA := (unhide hT).alloc (.cells #[.int .u8 (L / 16777216)] 5)
              have BA := (unhide hB).alloc (unhide hB).size (.cells #[.int .u8 (L / 16777216)] 5)
              have S8 : SrcOk (wr.alloc (.cells #[.int .u8 (L / 16777216)] 5)) (some ⟨wr.heap.size, 0, none⟩) 1 [.int .u8 (L / 16777216)] := SrcOk.blk (cur := [.int .u8 (L / 16777216)]) (Blk.new rfl) fun j u hu => by simpa using hu
              have d4 : decide ((j : Int) < 4) = true := by simp; omega
              replace b1 := hide b1; replace b2 := hide b2; replace s1 := hide s1; replace TA := hide TA; replace BA := hide BA; replace S8 := hide S8; replace hE2 := hide hE2; replace hL2 := hide hL2
              clear hL'
              go_wp2_with (first
                | (at_builtin
                   refine wpList_app _ rfl (.tmp 108) (.tmp 112) 29 rfl w.heap.size 5 i5 _ 1 1 Tryz.underlying29 hi5 iz0 iz1 iz2 rfl (Nat.succ_pos _) _ T1.length (T1.flatMap byc) rfl (unhide TA) (some ⟨wr.heap.size, 0, none⟩) 1 1 [.int .u8 (L / 16777216)] rfl rfl (unhide S8) (unhide s1) (unhide b1) (unhide b2) (unhide BA).size ?_
                   intro v6 w6 o6 g6
                   obtain ⟨A6, c6, rfl⟩ := ownsRow_form o6
                   obtain ⟨g7, _, rfl, _, _⟩ := own_pos o6 (by omega)
                   have B6 : Below w.heap.size w w6 := bl_grown (unhide BA) g6 (own_base (unhide TA))
                   replace o6 := hide o6; replace B6 := hide B6
                   clear g6)
                | fail)
              clear j1 j2 j3 j4 j5 j6 j7 d4
              go_roundg (4 - (j + 1))
              case measure => omega
              case rel => exact ⟨j + 1, g7, c6, L % 16777216 * 256, T1 ++ [L / 16777216], by omega, by go_num, rfl, by rw [List.length_append]; rfl, hL2, hide (by rw [List.length_append, unhide hl1]; rfl), hide (by rw [List.append_assoc, show 4 - (j + 1) = 3 - j by omega]; exact unhide hE2), hide (by rw [List.length_append, List.flatMap_append]; exact unhide o6), B6⟩
            · obtain rfl : j = 4 := by omega
              have hE2 := unhide hE
              rw [Nat.sub_self, List.take_zero, List.append_nil] at hE2
              subst hE2
              go_wp2_with fail
              go_ret2
              exact ⟨gt', ct', rfl, unhide hT, unhide hB⟩
theorem refEncode_any (n : Int) (lo : Nat) (v : Value) (bs : List Bit) (w : World) (h : Bts lo w.heap.size w v bs) (hl : bs.length ≤ 10000) :
    Calls Tryz.prog 65 #[.int .i64 n, v] w fun e w' => ∃ A c, e = .returned (.tuple #[.slice A (encT n bs).length c, .int .i64 (encE n bs)]) ∧
      w'.ownsRow w.heap.size 5 1 (.slice A (encT n bs).length c) (encT n bs).length ((encT n bs).flatMap byc) ∧ Below w.heap.size w w' := by
  cases hn : newN n
  · have e : encE n bs = 1 := by unfold encE; rw [if_pos hn]
    have e2 : encT n bs = [] := by unfold encT; rw [if_neg (by rw [e]; decide)]
    rw [e, e2]
    exact (refEncode_bad n hn v w).mono fun e w' ⟨h1, h2⟩ => ⟨none, 0, h1, World.ownsRow_nil _ _ _ _, h2⟩
  · obtain ⟨n0, n1⟩ := newN_iff.1 hn
    obtain ⟨m, rfl⟩ : ∃ m : Nat, n = (m : Int) := ⟨n.toNat, by omega⟩
    cases hin : bs.all (inB m)
    · have e : encE m bs = 4 := by unfold encE; rw [if_neg (by rw [hn]; decide), if_neg (by omega), if_pos (by simpa using hin)]
      have e2 : encT m bs = [] := by unfold encT; rw [if_neg (by rw [e]; decide)]
      rw [e, e2]
      exact (refEncode_none m (by omega) lo v bs w h hl hin).mono fun e w' ⟨h1, h2⟩ => ⟨none, 0, h1, World.ownsRow_nil _ _ _ _, h2⟩
    · have e : encE m bs = 0 := by unfold encE; rw [if_neg (by rw [hn]; decide), if_neg (by omega), if_neg (by simpa using hin)]
      rw [e, encT_ok e]
      exact (refEncode_good m (by omega) lo v bs w h hl hin).mono fun e w' ⟨g, c, h1, h2, h3⟩ => ⟨some ⟨g, 0, none⟩, c, h1, h2, h3⟩
end Go.Proofs.YthkccpemgmpadaaGreatDoor.P
