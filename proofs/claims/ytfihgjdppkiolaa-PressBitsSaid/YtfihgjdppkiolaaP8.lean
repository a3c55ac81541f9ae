import Derived.Test.YtfihgjdppkiolaaP6
namespace Go.Proofs.Ytfihgjdppkiolaa
set_option maxRecDepth 100000
open Go.RowKit

set_option maxHeartbeats 2000000 in
theorem pbits_ok (lo : Nat) (v : Value) (l : List Tok) (w : World) (h : M.Tks lo w.heap.size w v l) (hl : l.length ≤ 100) (ho : M.okB l = true) :
    Calls Try.prog 7 #[v] w fun e w' => e = .returned (.bool true) ∧ Below w.heap.size w w' := by
  have hL := fun W => live_any W
  have hB := fun (v : Value) (W : World) (k : M.Tks lo W.heap.size W v l) => Bits_good lo v l W k ho
  obtain ⟨_, hok⟩ := M.okB_iff.1 ho
  have hin := bitsF_in l
  have hcnt : (bitsF (l.take l.length)).length = (bitsF l).length := by rw [List.take_length]
  have hb9 : (bitsF l).length ≤ 1300 := by
    have := bitsF_take_len hok (by omega) l.length
    rw [List.take_length] at this
    have h2 : ∀ m : List Tok, (m.map fun t => 9 + (if 0 < t.len then 4 else 0)).sum ≤ 13 * m.length := by
      intro m
      induction m with
      | nil => simp
      | cons t r ih => simp; split <;> omega
    have := h2 l
    rw [bitsF_cnt hok]; omega
  have hT := h
  obtain ⟨A, c, rfl, h1, h2, h3⟩ := h.open
  clear h
  replace hL := hide hL; replace hB := hide hB; replace h3 := hide h3; replace hok := hide hok; replace hT := hide hT
  generalize hbl : bitsF l = bits at *
  replace hin := hide hin; replace hcnt := hide hcnt; replace hb9 := hide hb9; replace hbl := hide hbl
  clear ho
  obtain ⟨nb, hnb⟩ : ∃ nb, nb = bits.length := ⟨_, rfl⟩
  rw [← hnb] at hB hcnt hb9
  replace hnb := hide hnb
  go_enter Try.func7, Try.ntmps7
  go_wp2_with (first
    | (go_at_call 9; refine (unhide hL _).mono ?_; rintro e w1 ⟨rfl, hb1⟩; have T1 := hide ((unhide hT).grow hb1); replace hb1 := hide hb1)
    | (go_at_call 10; refine (unhide hB _ _ (unhide T1)).mono ?_; rintro e w2 ⟨A2, c2, rfl, o2, hb2⟩; replace hb2 := hide (bl_call (unhide hb1) hb2); have t2 := hide (Rd.of_own btc_len (by omega) o2); clear o2)
    | fail)
  clear T1 hb1
  go_loopw [6, 36] (fun s6 i wr => ∃ (k n : Nat), k ≤ l.length ∧ s6 = .int .i64 n ∧ i = .int .i64 k ∧ n ≤ 1300 ∧ Hid (n = (bitsF (l.take k)).length) ∧ Hid (Below w2.heap.size w2 wr)) (fun _ i _ => l.length - (intOf i).toNat)
  case atStart => exact ⟨0, 0, by omega, rfl, rfl, by omega, hide (by simp [bitsF]), hide (Below.refl _ _)⟩
  case round =>
    obtain ⟨k, n, hk, rfl, rfl, hn1, hn, hB2⟩ := hrel
    by_cases hlt : k < l.length
    · have hx : ∃ b off, A = some ⟨b, off, none⟩ ∧ b < w.heap.size ∧ w.cell? ⟨b, off + k * 3, none⟩ = some (.int .u8 (M.n8 l[k].lit)) ∧ w.cell? ⟨b, off + k * 3 + 1, none⟩ = some (.int .i64 l[k].len) ∧ w.cell? ⟨b, off + k * 3 + 2, none⟩ = some (.int .i64 l[k].dist) := by
        obtain ⟨b, off, e, g1, g2, q⟩ := unhide h3 k hlt
        exact ⟨b, off, e, g2, q⟩
      obtain ⟨b, off, rfl, g2, q0, q1, q2⟩ := hx
      have hBw := bb_call (unhide hb2) (unhide hB2) (Nat.le_refl _)
      have c0 := (hBw.cell (p := ⟨b, off + k * 3, none⟩) g2).trans q0
      have c1 := (hBw.cell (p := ⟨b, off + k * 3 + 1, none⟩) g2).trans q1
      have c2 := (hBw.cell (p := ⟨b, off + k * 3 + 2, none⟩) g2).trans q2
      have hs := bitsF_snoc hlt
      obtain ⟨hot, _⟩ := okL_get hlt (unhide hok)
      have hlen := tokB_len hot
      have hn2 : (bitsF (l.take (k + 1))).length = n + (9 + if 0 < l[k].len then 4 else 0) := by rw [hs, List.length_append, hlen, ← unhide hn]
      have hn3 := bitsF_take_len (unhide hok) (by omega) (k + 1)
      have hn4 : (bitsF (l.take (k + 1))).length ≤ 1300 := by
        have h1 : bitsF l = bitsF (l.take (k + 1)) ++ bitsF (l.drop (k + 1)) := by rw [← bitsF_append, List.take_append_drop]
        have h2 : (bitsF l).length ≤ 1300 := by rw [unhide hbl, ← unhide hnb]; exact unhide hb9
        rw [h1, List.length_append] at h2; omega
      generalize l[k] = t at *
      obtain ⟨x, tl, td⟩ := t
      simp only [] at c0 c1 c2 hn2
      have y0 : b < wr.heap.size := World.block_lt_of_cell? wr _ c0
      obtain ⟨n2, hn5⟩ : ∃ n2, n2 = (bitsF (l.take (k + 1))).length := ⟨_, rfl⟩
      rw [← hn5] at hn2 hn4
      replace hn5 := hide hn5; replace hn2 := hide hn2
      clear q0 q1 q2 hs hot hlen hn3 hn hBw g2
      by_cases h0 : 0 < tl
      · go_wp2_with fail
        go_roundw
        case rel => exact ⟨k + 1, n2, by omega, by have := unhide hn2; rw [if_pos h0] at this; rw [this]; go_num, by go_num, hn4, hn5, hide (bl_alloc (unhide hB2) _)⟩
        case measure => simp [intOf]; omega
      · go_wp2_with fail
        go_roundw
        case rel => exact ⟨k + 1, n2, by omega, by have := unhide hn2; rw [if_neg h0] at this; rw [this]; go_num, by go_num, hn4, hn5, hide (bl_alloc (unhide hB2) _)⟩
        case measure => simp [intOf]; omega
    · obtain rfl : k = l.length := by omega
      have hn2 : n = nb := by rw [unhide hn]; exact unhide hcnt
      subst hn2
      have t3 := (unhide t2).below (unhide hB2) (Nat.le_refl _)
      obtain ⟨A3, c3, e3, x1, x2, x3⟩ := Bts.open t3
      rw [← unhide hnb] at e3 x1 
      injection e3 with e4 e5 e6
      subst e4 e6
      have hsz2 := (unhide hB2).size
      replace x3 := hide x3; replace hsz2 := hide hsz2
      clear t3 t2 hlt hn e5 hk x1
      generalize wr = wq at *
      go_wp2_with fail
      go_loopw [50] (fun i wx => ∃ (j : Nat), j ≤ n ∧ i = .int .i64 j ∧ Hid (Below w2.heap.size w2 wx) ∧ Hid (Below wq.heap.size wq wx)) (fun i _ => n - (intOf i).toNat)
      case atStart => exact ⟨0, by omega, rfl, hB2, hide (Below.refl _ _)⟩
      case round =>
        obtain ⟨j, hj, rfl, hB3, hB4⟩ := hrel
        by_cases hlt : j < n
        · have hj2 : j < bits.length := by rw [← unhide hnb]; exact hlt
          have hx : ∃ b off, A2 = some ⟨b, off, none⟩ ∧ b < wq.heap.size ∧ wq.cell? ⟨b, off + j * 2, none⟩ = some (.int .i64 bits[j].at_) ∧ wq.cell? ⟨b, off + j * 2 + 1, none⟩ = some (.bool bits[j].b) := by
            obtain ⟨b, off, e, g1, g2, q⟩ := unhide x3 j hj2
            exact ⟨b, off, e, by have := unhide hsz2; omega, q⟩
          obtain ⟨b, off, rfl, g2, q0, q1⟩ := hx
          have c0 := ((unhide hB4).cell (p := ⟨b, off + j * 2, none⟩) g2).trans q0
          have c1 := ((unhide hB4).cell (p := ⟨b, off + j * 2 + 1, none⟩) g2).trans q1
          have y0 : b < wr.heap.size := World.block_lt_of_cell? wr _ c0
          obtain ⟨i0, i1⟩ := inB_iff.1 (unhide hin bits[j] (List.getElem_mem hj2))
          generalize bits[j] = x at *
          obtain ⟨xa, xb⟩ := x
          simp only [] at c0 c1 i0 i1
          clear q0 q1 g2
          go_wp2_with fail
          go_roundw
          case rel => exact ⟨j + 1, by omega, by go_num, hide (bl_alloc (unhide hB3) _), hide (bl_alloc (unhide hB4) _)⟩
          case measure => simp [intOf]; omega
        · obtain rfl : j = n := by omega
          go_wp2_with fail
          go_ret
          exact ⟨rfl, bb_call (unhide hb2) (unhide hB3) (Nat.le_refl _)⟩

set_option maxHeartbeats 1000000 in
theorem pbits_gate (v : Value) (A : Option Addr) (n c : Nat) (hv : v = .slice A n c) (hn : 100 < n) (w : World) :
    Calls Try.prog 7 #[v] w fun e w' => e = .returned (.bool true) ∧ Below w.heap.size w w' := by
  subst hv
  have hL := fun W => live_any W
  replace hL := hide hL
  have h1 : (100 : Int) < (n : Int) := by omega
  go_enter Try.func7, Try.ntmps7
  go_wp2_with (first
    | (go_at_call 9; refine (unhide hL _).mono ?_; rintro e w1 ⟨rfl, hb1⟩)
    | fail)
  go_ret
  exact ⟨rfl, hb1⟩

set_option maxHeartbeats 1000000 in
theorem pbits_bad (lo : Nat) (v : Value) (l : List Tok) (w : World) (h : M.Tks lo w.heap.size w v l) (hl : l.length ≤ 100) (ho : M.okB l = false) :
    Calls Try.prog 7 #[v] w fun e w' => e = .returned (.bool true) ∧ Below w.heap.size w w' := by
  have hL := fun W => live_any W
  have hB := fun (v : Value) (W : World) (k : M.Tks lo W.heap.size W v l) => Bits_bad lo v l W k ho
  have hC := fun (v : Value) (W : World) (k : M.Tks lo W.heap.size W v l) => M.Check_any lo v l W k
  rw [ho] at hC
  replace hC : ∀ (v : Value) (W : World) (k : M.Tks lo W.heap.size W v l), Calls Try.prog 20 #[v] W fun e w' => e = .returned (.int .i64 1) ∧ Below W.heap.size W w' := hC
  have hT := h
  obtain ⟨A, c, rfl, h1, h2, _⟩ := h.open
  clear h ho
  replace hL := hide hL; replace hB := hide hB; replace hC := hide hC; replace hT := hide hT
  go_enter Try.func7, Try.ntmps7
  go_wp2_with (first
    | (go_at_call 9; refine (unhide hL _).mono ?_; rintro e w1 ⟨rfl, hb1⟩; have T1 := hide ((unhide hT).grow hb1); replace hb1 := hide hb1)
    | (go_at_call 10; refine (unhide hB _ _ (unhide T1)).mono ?_; rintro e w2 ⟨rfl, hb2⟩; have T2 := hide ((unhide T1).grow hb2); replace hb2 := hide (bl_call (unhide hb1) hb2))
    | (go_at_call 20; refine (unhide hC _ _ (unhide T2)).mono ?_; rintro e w3 ⟨rfl, hb3⟩)
    | fail)
  go_ret
  exact ⟨rfl, bl_call (unhide hb2) hb3⟩

theorem pbits_any (lo : Nat) (v : Value) (l : List Tok) (w : World) (h : M.Tks lo w.heap.size w v l) :
    Calls Try.prog 7 #[v] w fun e w' => e = .returned (.bool true) ∧ Below w.heap.size w w' := by
  by_cases hl : l.length ≤ 100
  · cases ho : M.okB l with
    | true => exact pbits_ok lo v l w h hl ho
    | false => exact pbits_bad lo v l w h hl ho
  · obtain ⟨A, c, e, _⟩ := h
    exact pbits_gate v A l.length c e (by omega) w
end Go.Proofs.Ytfihgjdppkiolaa
