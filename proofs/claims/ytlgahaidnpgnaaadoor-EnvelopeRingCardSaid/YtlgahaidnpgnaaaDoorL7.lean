import Derived.Test.YtlgahaidnpgnaaaDoorL4b
import Derived.Test.YtlgahaidnpgnaaaDoorN18
namespace Go.Proofs.YtlgahaidnpgnaaaDoor
open Go.RowKit

/-- The second block is written whole. -/
theorem Fx.row1 {w0 V : World} {p0 : Nat × TypeId × Array Value} {g : Nat} {t : TypeId} {cs : Array Value} (h : Fx w0 V [p0, (g, t, cs)] [] []) (hg : w0.heap.size ≤ g) (hne : p0.1 ≠ g) (C : Array Value) : Fx w0 (V.setRow g C) [p0, (g, t, C)] [] [] :=
  ⟨bl_row h.bl C hg, fun p hp => by
    simp only [List.mem_cons, List.not_mem_nil, or_false] at hp
    rcases hp with rfl | rfl
    · exact (h.get 0 rfl).row_other C hne
    · exact (h.get 1 rfl).row C, fun _ hp => (nomatch hp), fun _ hp => (nomatch hp)⟩
set_option maxRecDepth 100000 in
set_option maxHeartbeats 1000000 in
theorem ring_gate0 (s : St) (n : Nx) (v : Value) (l : List (List UInt8)) (w : World) (ht : Tab w) (h : Bss w.heap.size w v l) (hg : 20 < l.length) :
    Calls Tryd.prog 7 #[rgV s n, v] w fun e w' => e = .returned (.bool true) ∧ Below w.heap.size w w' := by
  obtain ⟨A, c, rfl, _⟩ := h
  have X0 : Fx w (w.alloc (.cells (rgC s n) 27)) [(w.heap.size, 27, rgC s n)] [] [] := (Fx.nil w).newB w.heap.size rfl (rgC s n) 27
  have hl := fun W (hb : Below w.heap.size w W) => live_any W (ht.below hb (Nat.le_refl _))
  replace X0 := hide X0; replace hl := hide hl
  have k1 : (20 : Int) < (l.length : Int) := by omega
  clear hg ht
  go_enter Tryd.func7, Tryd.ntmps7
  go_upto_region 1 with (fail)
  generalize hW : World.alloc w _ = W at *
  clear hW
  go_wp2_with (first
    | (go_at_call 9; refine (unhide hl _ (unhide X0).bl).mono ?_; rintro e w1 ⟨rfl, hb1⟩
       have X1 : Fx w w1 [(w.heap.size, 27, rgC s n)] [] [] := (unhide X0).call hb1
       have c4 : w1.cell? ⟨w.heap.size, 4, none⟩ = some (u64v n) := (X1.get 0 rfl).cell 4
       replace X1 := hide X1)
    | fail)
  go_ret
  exact ⟨rfl, (unhide X1).bl⟩
set_option maxRecDepth 100000 in
set_option maxHeartbeats 1000000 in
theorem ring_gate1 (s : St) (n : Nx) (v : Value) (l : List (List UInt8)) (w : World) (ht : Tab w) (h : Bss w.heap.size w v l) (hg1 : l.length ≤ 20) (hg : 4611686018427387904 < n64 n) :
    Calls Tryd.prog 7 #[rgV s n, v] w fun e w' => e = .returned (.bool true) ∧ Below w.heap.size w w' := by
  obtain ⟨A, c, rfl, _⟩ := h
  have X0 : Fx w (w.alloc (.cells (rgC s n) 27)) [(w.heap.size, 27, rgC s n)] [] [] := (Fx.nil w).newB w.heap.size rfl (rgC s n) 27
  have hl := fun W (hb : Below w.heap.size w W) => live_any W (ht.below hb (Nat.le_refl _))
  replace X0 := hide X0; replace hl := hide hl
  have k1 : ¬ (20 : Int) < (l.length : Int) := by omega
  have k2 : (4611686018427387904 : Int) < n64 n := hg
  clear hg hg1 ht
  go_enter Tryd.func7, Tryd.ntmps7
  go_upto_region 1 with (fail)
  generalize hW : World.alloc w _ = W at *
  clear hW
  go_wp2_with (first
    | (go_at_call 9; refine (unhide hl _ (unhide X0).bl).mono ?_; rintro e w1 ⟨rfl, hb1⟩
       have X1 : Fx w w1 [(w.heap.size, 27, rgC s n)] [] [] := (unhide X0).call hb1
       have c4 : w1.cell? ⟨w.heap.size, 4, none⟩ = some (u64v n) := (X1.get 0 rfl).cell 4
       replace X1 := hide X1)
    | fail)
  go_ret
  exact ⟨rfl, (unhide X1).bl⟩
section
attribute [local go_sem] guard24
set_option maxRecDepth 100000 in
set_option maxHeartbeats 4000000 in
theorem ring_main (s : St) (n : Nx) (v : Value) (l : List (List UInt8)) (w : World) (ht : Tab w) (h : Bss w.heap.size w v l) (hg1 : l.length ≤ 20) (hg2 : n64 n ≤ 4611686018427387904) :
    Calls Tryd.prog 7 #[rgV s n, v] w fun e w' => e = .returned (.bool true) ∧ Below w.heap.size w w' := by
  obtain ⟨A, c, rfl, hels⟩ := h
  have hn0 : 0 ≤ n64 n := by unfold n64; omega
  have X0 : Fx w (w.alloc (.cells (rgC s n) 27)) [(w.heap.size, 27, rgC s n)] [] [] := (Fx.nil w).newB w.heap.size rfl (rgC s n) 27
  have hl := fun W (hb : Below w.heap.size w W) => live_any W (ht.below hb (Nat.le_refl _))
  have hS := fun (k : Nat) (hk : k ≤ 20) v x W (hb : Below w.heap.size w W) (hx : Bs 0 w.heap.size w v x) (h60 : x.length ≤ 60) => Seal_good s (upN n k) v x W (ht.below hb (Nat.le_refl _)) (hx.to hb) (by omega) (upN_ne n k hg2 hk)
  have hO := fun (k : Nat) v x W (hb : Below w.heap.size w W) (h2 : Bs 0 W.heap.size W v (hidF s (upN n k) x)) (h60 : x.length ≤ 60) => Open_any s (upN n k) v (hidF s (upN n k) x) (tagF s (upN n k) (hidF s (upN n k) x)) W (ht.below hb (Nat.le_refl _)) h2 (by rw [hid_len]; omega)
  simp only [sameS_self, hid_hid, hid_len, if_true] at hO
  have hQ := fun v u x W (hb : Below w.heap.size w W) (h2 : Bs 0 W.heap.size W v x) (hx : Bs 0 w.heap.size w u x) => same_true _ _ _ _ v u x x W h2 (hx.to hb) rfl
  have hcell : ∀ W, Below w.heap.size w W → ∀ b o, b < w.heap.size → W.cell? ⟨b, o, none⟩ = w.cell? ⟨b, o, none⟩ := fun W hb b o hlt => hb.cell (p := ⟨b, o, none⟩) hlt
  have E : ∀ W, (binOp .eql 24 (stV s) (stV s)).run Tryd.prog W = .ok (.bool true) W := fun W => by rw [eql_st, sameS_self]
  have k1 : ¬ (20 : Int) < (l.length : Int) := by omega
  have k2 : ¬ (4611686018427387904 : Int) < n64 n := by omega
  have hz := upN_zero n
  have hm20 : l.length ≤ 20 := hg1
  have hget : ∀ k, k < l.length → ∃ x, l[k]? = some x := fun k hk => ⟨_, List.getElem?_eq_getElem hk⟩
  generalize l.length = m at *
  replace X0 := hide X0; replace hl := hide hl; replace hS := hide hS; replace hO := hide hO; replace hQ := hide hQ; replace hcell := hide hcell; replace hels := hide hels; replace hz := hide hz; replace hget := hide hget
  clear hg1 ht hg2
  go_enter Tryd.func7, Tryd.ntmps7
  go_upto_region 1 with (fail)
  generalize hW : World.alloc w _ = W at *
  clear hW
  go_upto_region 5 with (first
    | (go_at_call 9; refine (unhide hl _ (unhide X0).bl).mono ?_; rintro e w1 ⟨rfl, hb1⟩
       have X1 : Fx w w1 [(w.heap.size, 27, rgC s n)] [] [] := (unhide X0).call hb1
       have p0 : w1.cell? ⟨w.heap.size, 0, none⟩ = some (u32v s.a) := (X1.get 0 rfl).cell 0
       have p1 : w1.cell? ⟨w.heap.size, 1, none⟩ = some (u32v s.b) := (X1.get 0 rfl).cell 1
       have p2 : w1.cell? ⟨w.heap.size, 2, none⟩ = some (u32v s.c) := (X1.get 0 rfl).cell 2
       have p3 : w1.cell? ⟨w.heap.size, 3, none⟩ = some (u32v s.d) := (X1.get 0 rfl).cell 3
       have p4 : w1.cell? ⟨w.heap.size, 4, none⟩ = some (u64v n) := (X1.get 0 rfl).cell 4
       have l1 : w.heap.size < w1.heap.size := (X1.get 0 rfl).lt
       replace X1 := hide X1
       clear hb1)
    | fail)
  have X2 : Fx w (w1.alloc (.cells (rgC s n) 27)) [(w.heap.size, 27, rgC s n), (w1.heap.size, 27, rgC s n)] [] [] := (unhide X1).newB w1.heap.size rfl (rgC s n) 27
  obtain ⟨g6, hg6⟩ : ∃ g6, g6 = w1.heap.size := ⟨_, rfl⟩
  rw [← hg6] at X2 l1 ⊢
  replace X2 := hide X2
  generalize World.alloc w1 _ = W2 at *
  clear hg6 X1 p0 p1 p2 p3 p4
  go_wp2_with (fail)
  go_loopw [7, 8, 9, 10, 11, 12, 13, 27] (fun _ _ _ _ _ _ _ i wr => ∃ k : Nat, k ≤ m ∧ i = .int .i64 k ∧ Hid (Fx w wr [(w.heap.size, 27, rgC s n), (g6, 27, rgC s (upN n k))] [] [])) (fun _ _ _ _ _ _ _ i _ => m - (intOf i).toNat)
  case atStart => exact ⟨0, by omega, rfl, hide (by rw [unhide hz]; exact unhide X2)⟩
  case round =>
    obtain ⟨k, hkm, rfl, X⟩ := hrel
    by_cases hlt : k < m
    · have y1 : (k : Int) < (m : Int) := by omega
      have y0 : (0 : Int) ≤ (k : Int) := by omega
      have hk20 : k ≤ 20 := by omega
      obtain ⟨x, hx⟩ := unhide hget k hlt
      obtain ⟨b, off, Ai, ci, rfl, hbl, hc, hb⟩ := unhide hels k x hx
      have hc' : wr.cell? ⟨b, off + k, none⟩ = some (.slice Ai x.length ci) := (unhide hcell wr (unhide X).bl b (off + k) hbl).trans hc
      have lb : b < wr.heap.size := Nat.lt_of_lt_of_le hbl (unhide X).bl.size
      have wk := upN_wrap n k (by omega)
      have wk' := upN_mod n k (by omega)
      have uk : (k : Int) % 18446744073709551616 = (k : Int) := by omega
      have uk2 : IntKind.u64.wrap (k : Int) = (k : Int) := by rw [IntKind.wrap_u64]; omega
      have us := upN_succ n k
      clear hx hc
      by_cases h60 : x.length ≤ 60
      · have k60 : ¬ (60 : Int) < (x.length : Int) := by omega
        have q1 := fun W hb' => unhide hS k hk20 _ x W hb' hb h60
        have q2 := fun v W hb' h2 => unhide hO k v x W hb' h2 h60
        have q3 := fun v W hb' h2 => unhide hQ v _ x W hb' h2 hb
        rw [us] at q1
        generalize tagF s (upN n k) (hidF s (upN n k) x) = T at *
        generalize hidF s (upN n k) x = Hx at *
        generalize x.length = mx at *
        obtain ⟨N, hN⟩ : ∃ N, N = upN n k := ⟨_, rfl⟩
        obtain ⟨N', hN'⟩ : ∃ N', N' = upN n (k + 1) := ⟨_, rfl⟩
        rw [← hN'] at q1
        rw [← hN] at q1 q2 X wk wk'
        replace hN := hide hN; replace hN' := hide hN'; replace q1 := hide q1; replace q2 := hide q2; replace q3 := hide q3
        clear us h60 hb
        have p0 : wr.cell? ⟨w.heap.size, 0, none⟩ = some (u32v s.a) := ((unhide X).get 0 rfl).cell 0
        have p1 : wr.cell? ⟨w.heap.size, 1, none⟩ = some (u32v s.b) := ((unhide X).get 0 rfl).cell 1
        have p2 : wr.cell? ⟨w.heap.size, 2, none⟩ = some (u32v s.c) := ((unhide X).get 0 rfl).cell 2
        have p3 : wr.cell? ⟨w.heap.size, 3, none⟩ = some (u32v s.d) := ((unhide X).get 0 rfl).cell 3
        have p4 : wr.cell? ⟨w.heap.size, 4, none⟩ = some (u64v n) := ((unhide X).get 0 rfl).cell 4
        have nx0 : wr.cell? ⟨g6, 0, none⟩ = some (u32v s.a) := ((unhide X).get 1 rfl).cell 0
        have nx1 : wr.cell? ⟨g6, 1, none⟩ = some (u32v s.b) := ((unhide X).get 1 rfl).cell 1
        have nx2 : wr.cell? ⟨g6, 2, none⟩ = some (u32v s.c) := ((unhide X).get 1 rfl).cell 2
        have nx3 : wr.cell? ⟨g6, 3, none⟩ = some (u32v s.d) := ((unhide X).get 1 rfl).cell 3
        have nx4 : wr.cell? ⟨g6, 4, none⟩ = some (u64v N) := ((unhide X).get 1 rfl).cell 4
        have l0 : w.heap.size < wr.heap.size := ((unhide X).get 0 rfl).lt
        have l6 : g6 < wr.heap.size := ((unhide X).get 1 rfl).lt
        go_wp2_with (first
          | (go_at_call 10; refine (unhide q1 _ (unhide X).bl).mono ?_; rintro e w3 ⟨A3, c3, rfl, o3, hb3⟩
             have X3' : Fx w w3 [(w.heap.size, 27, rgC s n), (g6, 27, rgC s (N))] [] [(.slice A3 mx c3, Hx)] := Fx.addZ ((unhide X).call hb3) (Bs.of_own0 o3)
             have X3 : Fx w ((w3.alloc (.cells (bxC N (.slice A3 mx c3) T) 30)).alloc (.cells (rgC s N') 27)) ([(w.heap.size, 27, rgC s n), (g6, 27, rgC s N), (w3.heap.size, 30, bxC N (.slice A3 mx c3) T), (w3.heap.size + 1, 27, rgC s N')]) [] [(.slice A3 mx c3, Hx)] := (X3'.newB w3.heap.size rfl (bxC N (.slice A3 mx c3) T) 30).newB (w3.heap.size + 1) (by simp) (rgC s N') 27
             have l3 : w.heap.size < w3.heap.size := (X3'.get 0 rfl).lt
             have l36 : g6 < w3.heap.size := (X3'.get 1 rfl).lt
             have r0 : w3.cell? ⟨w.heap.size, 0, none⟩ = some (u32v s.a) := (X3'.get 0 rfl).cell 0
             have r1 : w3.cell? ⟨w.heap.size, 1, none⟩ = some (u32v s.b) := (X3'.get 0 rfl).cell 1
             have r2 : w3.cell? ⟨w.heap.size, 2, none⟩ = some (u32v s.c) := (X3'.get 0 rfl).cell 2
             have r3 : w3.cell? ⟨w.heap.size, 3, none⟩ = some (u32v s.d) := (X3'.get 0 rfl).cell 3
             have r4 : w3.cell? ⟨w.heap.size, 4, none⟩ = some (u64v n) := (X3'.get 0 rfl).cell 4
             have s0 : w3.cell? ⟨g6, 0, none⟩ = some (u32v s.a) := (X3'.get 1 rfl).cell 0
             have s1 : w3.cell? ⟨g6, 1, none⟩ = some (u32v s.b) := (X3'.get 1 rfl).cell 1
             have s2 : w3.cell? ⟨g6, 2, none⟩ = some (u32v s.c) := (X3'.get 1 rfl).cell 2
             have s3 : w3.cell? ⟨g6, 3, none⟩ = some (u32v s.d) := (X3'.get 1 rfl).cell 3
             have s4 : w3.cell? ⟨g6, 4, none⟩ = some (u64v N) := (X3'.get 1 rfl).cell 4
             replace X3 := hide X3
             clear o3 hb3 X3')
          | (go_at_call 12; refine (unhide q2 _ _ (unhide X3).bl ((unhide X3).rd 0 rfl)).mono ?_; rintro e w4 ⟨⟨A4, c4, rfl, o4⟩, hb4⟩
             have X4 : Fx w w4 ([(w.heap.size, 27, rgC s n), (g6, 27, rgC s N), (w3.heap.size, 30, bxC N (.slice A3 mx c3) T), (w3.heap.size + 1, 27, rgC s N')]) [] [(.slice A3 mx c3, Hx), (.slice A4 mx c4, x)] := Fx.addZ ((unhide X3).call hb4) (Bs.of_own0 o4)
             have t0 : w4.cell? ⟨w.heap.size, 0, none⟩ = some (u32v s.a) := (X4.get 0 rfl).cell 0
             have t1 : w4.cell? ⟨w.heap.size, 1, none⟩ = some (u32v s.b) := (X4.get 0 rfl).cell 1
             have t2 : w4.cell? ⟨w.heap.size, 2, none⟩ = some (u32v s.c) := (X4.get 0 rfl).cell 2
             have t3 : w4.cell? ⟨w.heap.size, 3, none⟩ = some (u32v s.d) := (X4.get 0 rfl).cell 3
             have t4 : w4.cell? ⟨w.heap.size, 4, none⟩ = some (u64v n) := (X4.get 0 rfl).cell 4
             have u0 : w4.cell? ⟨g6, 0, none⟩ = some (u32v s.a) := (X4.get 1 rfl).cell 0
             have u1 : w4.cell? ⟨g6, 1, none⟩ = some (u32v s.b) := (X4.get 1 rfl).cell 1
             have u2 : w4.cell? ⟨g6, 2, none⟩ = some (u32v s.c) := (X4.get 1 rfl).cell 2
             have u3 : w4.cell? ⟨g6, 3, none⟩ = some (u32v s.d) := (X4.get 1 rfl).cell 3
             have u4 : w4.cell? ⟨g6, 4, none⟩ = some (u64v N) := (X4.get 1 rfl).cell 4
             have v0 : w4.cell? ⟨w3.heap.size, 0, none⟩ = some (u64v N) := (X4.get 2 rfl).cell 0
             have v1 : w4.cell? ⟨w3.heap.size, 1, none⟩ = some (.slice A3 mx c3) := (X4.get 2 rfl).cell 1
             have v2 : w4.cell? ⟨w3.heap.size, 2, none⟩ = some (u32v T.a) := (X4.get 2 rfl).cell 2
             have v3 : w4.cell? ⟨w3.heap.size, 3, none⟩ = some (u32v T.b) := (X4.get 2 rfl).cell 3
             have v4 : w4.cell? ⟨w3.heap.size, 4, none⟩ = some (u32v T.c) := (X4.get 2 rfl).cell 4
             have v5 : w4.cell? ⟨w3.heap.size, 5, none⟩ = some (u32v T.d) := (X4.get 2 rfl).cell 5
             have y0 : w4.cell? ⟨w3.heap.size + 1, 0, none⟩ = some (u32v s.a) := (X4.get 3 rfl).cell 0
             have y1 : w4.cell? ⟨w3.heap.size + 1, 1, none⟩ = some (u32v s.b) := (X4.get 3 rfl).cell 1
             have y2 : w4.cell? ⟨w3.heap.size + 1, 2, none⟩ = some (u32v s.c) := (X4.get 3 rfl).cell 2
             have y3 : w4.cell? ⟨w3.heap.size + 1, 3, none⟩ = some (u32v s.d) := (X4.get 3 rfl).cell 3
             have y4 : w4.cell? ⟨w3.heap.size + 1, 4, none⟩ = some (u64v N') := (X4.get 3 rfl).cell 4
             have B6 : Blk w4 g6 27 (rgC s N) := X4.get 1 rfl
             replace B6 := hide B6
             replace X4 := hide X4
             clear o4 hb4)
          | (go_at_call 23; refine (unhide q3 _ _ (unhide X4).bl ((unhide X4).rd 1 rfl)).mono ?_; rintro e wz ⟨rfl, rfl⟩)
          | (refine wpList_store_row rfl 27 (.tmp 6) (.tmp 70) rfl g6 (rgC s N') rfl rfl 27 (rgC s N) (unhide B6) size27 rfl rg_one ?_)
          | fail)
        have X5 : Fx w w4 [(w.heap.size, 27, rgC s n), (g6, 27, rgC s (N))] [] [] := Fx.sub (unhide X4) (by simp) (by simp) (by simp)
        have X6 : Fx w (w4.setRow g6 (rgC s N')) [(w.heap.size, 27, rgC s n), (g6, 27, rgC s (N'))] [] [] := Fx.row1 X5 (Nat.le_of_lt l1) (Nat.ne_of_lt l1) _
        go_roundw
        case rel => exact ⟨k + 1, by omega, by go_num, hide (by rw [← unhide hN']; exact X6)⟩
        case measure => simp [intOf]; omega
      · have k60 : (60 : Int) < (x.length : Int) := by omega
        clear us h60 hb
        go_wp2_with (fail)
        go_ret
        exact ⟨rfl, (unhide X).bl⟩
    · obtain rfl : k = m := by omega
      have wk := upN_wrap n k (by omega)
      have wk' := upN_mod n k (by omega)
      have uk : (k : Int) % 18446744073709551616 = (k : Int) := by omega
      have uk2 : IntKind.u64.wrap (k : Int) = (k : Int) := by rw [IntKind.wrap_u64]; omega
      generalize upN n k = N at *
      have p0 : wr.cell? ⟨w.heap.size, 0, none⟩ = some (u32v s.a) := ((unhide X).get 0 rfl).cell 0
      have p1 : wr.cell? ⟨w.heap.size, 1, none⟩ = some (u32v s.b) := ((unhide X).get 0 rfl).cell 1
      have p2 : wr.cell? ⟨w.heap.size, 2, none⟩ = some (u32v s.c) := ((unhide X).get 0 rfl).cell 2
      have p3 : wr.cell? ⟨w.heap.size, 3, none⟩ = some (u32v s.d) := ((unhide X).get 0 rfl).cell 3
      have p4 : wr.cell? ⟨w.heap.size, 4, none⟩ = some (u64v n) := ((unhide X).get 0 rfl).cell 4
      have nx0 : wr.cell? ⟨g6, 0, none⟩ = some (u32v s.a) := ((unhide X).get 1 rfl).cell 0
      have nx1 : wr.cell? ⟨g6, 1, none⟩ = some (u32v s.b) := ((unhide X).get 1 rfl).cell 1
      have nx2 : wr.cell? ⟨g6, 2, none⟩ = some (u32v s.c) := ((unhide X).get 1 rfl).cell 2
      have nx3 : wr.cell? ⟨g6, 3, none⟩ = some (u32v s.d) := ((unhide X).get 1 rfl).cell 3
      have nx4 : wr.cell? ⟨g6, 4, none⟩ = some (u64v N) := ((unhide X).get 1 rfl).cell 4
      go_wp2_with (fail)
      go_ret
      exact ⟨rfl, (unhide X).bl⟩
end
theorem ring_law (s : St) (n : Nx) (v : Value) (l : List (List UInt8)) (w : World) (ht : Tab w) (h : Bss w.heap.size w v l) :
    Calls Tryd.prog 7 #[rgV s n, v] w fun e w' => e = .returned (.bool true) ∧ Below w.heap.size w w' := by
  by_cases h1 : 20 < l.length
  · exact ring_gate0 s n v l w ht h h1
  · by_cases h2 : 4611686018427387904 < n64 n
    · exact ring_gate1 s n v l w ht h (by omega) h2
    · exact ring_main s n v l w ht h (by omega) (by omega)
end Go.Proofs.YtlgahaidnpgnaaaDoor
