import Derived.Test.YtommlgdolahfbaaDoorRI
namespace Go.Proofs.YtommlgdolahfbaaDoor
set_option maxRecDepth 100000
open Go.RowKit

/-- The best of the roots in the first k sectors. -/
def bestR (d : Dk) : Nat → Rt
  | 0 => noRt
  | k + 1 => if (bestR d k).gen < (atR d k).gen then atR d k else bestR d k
/-- What Find answers. -/
def fdR (d : Dk) : Rt × Int := if holdB d then (if (bestR d 2).gen = 0 then (noRt, 4) else (bestR d 2, 0)) else (noRt, 1)
theorem bestR_okT (d : Dk) (k : Nat) : OkT (bestR d k) := by
  induction k with
  | zero => exact (show OkT noRt from ⟨by decide, by decide, by decide, by decide⟩)
  | succ k ih =>
    rw [bestR]
    split
    · exact atR_okT d k
    · exact ih
theorem fdR_okT (d : Dk) : OkT (fdR d).1 := by
  unfold fdR
  split
  · split
    · exact ⟨by decide, by decide, by decide, by decide⟩
    · exact bestR_okT d 2
  · exact ⟨by decide, by decide, by decide, by decide⟩
set_option maxHeartbeats 2000000 in
theorem Find_bad (lo : Nat) (v : Value) (d : Dk) (w : World) (h : Dsk lo w.heap.size w v d) (hd : holdB d = false) :
    Calls Tryd.prog 17 #[v] w fun e w' => e = .returned (.tuple #[(.agg #[.int .u64 (noRt.gen : Nat), .int .i64 noRt.at_, .int .i64 noRt.len, .int .i64 noRt.long, .int .u32 (noRt.sum : Nat), .int .u64 (noRt.next : Nat)]), .int .i64 1]) ∧ Below w.heap.size w w' := by
  have hH := fun W (hB : Below w.heap.size w W) => holds_any lo v d W (h.grow hB)
  rw [hd] at hH
  obtain ⟨A, c, A', c', rfl⟩ := h.form
  clear h hd
  generalize d.dry.length = n at *
  generalize d.wet.length = m at *
  generalize d.left = l at *
  have X0 : Gx w ((w.alloc (.cells #[.slice A n c, .slice A' m c', .int .i64 l] 31)).alloc (.cells zR 27)) [(w.heap.size, 31, #[.slice A n c, .slice A' m c', .int .i64 l]), (w.heap.size + 1, 27, zR)] [] [] := ((Gx.nil w).newB w.heap.size rfl 31 #[.slice A n c, .slice A' m c', .int .i64 l]).newB (w.heap.size + 1) (by simp) 27 zR
  replace X0 := hide X0; replace hH := hide hH
  go_enter Tryd.func17, Tryd.ntmps17
  go_upto_region 1 with (fail)
  generalize hW : World.alloc (World.alloc w _) _ = W at *
  clear hW
  have a0 : W.cell? ⟨w.heap.size, 0, none⟩ = some (.slice A n c) := ((unhide X0).get 0 rfl).cell 0
  have a1 : W.cell? ⟨w.heap.size, 1, none⟩ = some (.slice A' m c') := ((unhide X0).get 0 rfl).cell 1
  have a2 : W.cell? ⟨w.heap.size, 2, none⟩ = some (.int .i64 l) := ((unhide X0).get 0 rfl).cell 2
  go_wp2_with (first
    | (go_at_call 35; refine (unhide hH _ (unhide X0).bl).mono ?_; rintro e w1 ⟨rfl, b1⟩
       have X1 := (unhide X0).call b1
       have ca0 : w1.cell? ⟨w.heap.size + 1, 0, none⟩ = some (.int .u64 0) := (X1.get 1 rfl).cell 0
       have ca1 : w1.cell? ⟨w.heap.size + 1, 1, none⟩ = some (.int .i64 0) := (X1.get 1 rfl).cell 1
       have ca2 : w1.cell? ⟨w.heap.size + 1, 2, none⟩ = some (.int .i64 0) := (X1.get 1 rfl).cell 2
       have ca3 : w1.cell? ⟨w.heap.size + 1, 3, none⟩ = some (.int .i64 0) := (X1.get 1 rfl).cell 3
       have ca4 : w1.cell? ⟨w.heap.size + 1, 4, none⟩ = some (.int .u32 0) := (X1.get 1 rfl).cell 4
       have ca5 : w1.cell? ⟨w.heap.size + 1, 5, none⟩ = some (.int .u64 0) := (X1.get 1 rfl).cell 5
       have fa0 : w1.frozen? ⟨w.heap.size + 1, 0, none⟩ = false := (X1.get 1 rfl).frozen 0
       have fa1 : w1.frozen? ⟨w.heap.size + 1, 1, none⟩ = false := (X1.get 1 rfl).frozen 1
       have fa2 : w1.frozen? ⟨w.heap.size + 1, 2, none⟩ = false := (X1.get 1 rfl).frozen 2
       have fa3 : w1.frozen? ⟨w.heap.size + 1, 3, none⟩ = false := (X1.get 1 rfl).frozen 3
       have fa4 : w1.frozen? ⟨w.heap.size + 1, 4, none⟩ = false := (X1.get 1 rfl).frozen 4
       have fa5 : w1.frozen? ⟨w.heap.size + 1, 5, none⟩ = false := (X1.get 1 rfl).frozen 5
       replace X1 := hide X1
       clear b1)
    | fail)
  exact ret_r2 rfl (w.heap.size + 1) _ rfl _ rfl rfl (Blk.set6 ((unhide X1).get 1 rfl) _ _ _ _ _ _) rfl ⟨rfl, bl_set6 (unhide X1).bl (by omega) _ _ _ _ _ _⟩
set_option maxHeartbeats 4000000 in
theorem Find_good (lo : Nat) (v : Value) (d : Dk) (w : World) (ht : Tab w) (h : Dsk lo w.heap.size w v d) (hL : d.dry.length ≤ 1000000) (hW : d.wet.length ≤ 1000) (hd : holdB d = true) :
    Calls Tryd.prog 17 #[v] w fun e w' => e = .returned (.tuple #[(.agg #[.int .u64 ((fdR d).1.gen : Nat), .int .i64 (fdR d).1.at_, .int .i64 (fdR d).1.len, .int .i64 (fdR d).1.long, .int .u32 ((fdR d).1.sum : Nat), .int .u64 ((fdR d).1.next : Nat)]), .int .i64 (fdR d).2]) ∧ Below w.heap.size w w' := by
  have hH := fun W (hB : Below w.heap.size w W) => holds_any lo v d W (h.grow hB)
  rw [hd] at hH
  have hR := fun i W (hB : Below w.heap.size w W) => rootAt_any lo v d i W (ht.below hB (Nat.le_refl _)) (h.grow hB) hL hW
  have hf : fdR d = if (bestR d 2).gen = 0 then (noRt, 4) else (bestR d 2, 0) := by unfold fdR; rw [hd]; rfl
  obtain ⟨A, c, A', c', rfl⟩ := h.form
  clear h hL hW ht hd
  generalize d.dry.length = n at *
  generalize d.wet.length = m at *
  generalize d.left = l at *
  have X0 : Gx w ((w.alloc (.cells #[.slice A n c, .slice A' m c', .int .i64 l] 31)).alloc (.cells zR 27)) [(w.heap.size, 31, #[.slice A n c, .slice A' m c', .int .i64 l]), (w.heap.size + 1, 27, zR)] [] [] := ((Gx.nil w).newB w.heap.size rfl 31 #[.slice A n c, .slice A' m c', .int .i64 l]).newB (w.heap.size + 1) (by simp) 27 zR
  replace X0 := hide X0; replace hH := hide hH; replace hf := hide hf; replace hR := hide hR
  go_enter Tryd.func17, Tryd.ntmps17
  go_upto_region 1 with (fail)
  generalize hW : World.alloc (World.alloc w _) _ = W at *
  clear hW
  have a0 : W.cell? ⟨w.heap.size, 0, none⟩ = some (.slice A n c) := ((unhide X0).get 0 rfl).cell 0
  have a1 : W.cell? ⟨w.heap.size, 1, none⟩ = some (.slice A' m c') := ((unhide X0).get 0 rfl).cell 1
  have a2 : W.cell? ⟨w.heap.size, 2, none⟩ = some (.int .i64 l) := ((unhide X0).get 0 rfl).cell 2
  go_wp2_with (first
    | (go_at_call 35; refine (unhide hH _ (unhide X0).bl).mono ?_; rintro e w1 ⟨rfl, b1⟩
       have X1 := (unhide X0).call b1
       have X2 : Gx w (w1.alloc (.cells zR 27)) [(w.heap.size, 31, #[.slice A n c, .slice A' m c', .int .i64 l]), (w.heap.size + 1, 27, zR), (w1.heap.size, 27, #[.int .u64 ((bestR d 0).gen : Nat), .int .i64 (bestR d 0).at_, .int .i64 (bestR d 0).len, .int .i64 (bestR d 0).long, .int .u32 ((bestR d 0).sum : Nat), .int .u64 ((bestR d 0).next : Nat)])] [] [] := X1.newB w1.heap.size rfl 27 zR
       have hgw : w.heap.size ≤ w1.heap.size := X1.bl.size
       have hg1 : w.heap.size + 1 < w1.heap.size := (X1.get 1 rfl).lt
       replace X2 := hide X2
       clear b1 X1)
    | fail)
  generalize w1.heap.size = g at *
  clear hH X0 a0 a1 a2
  go_loopw [11] (fun i wr => ∃ k : Nat, k ≤ 2 ∧ i = .int .i64 k ∧ Hid (Gx w wr [(w.heap.size, 31, #[.slice A n c, .slice A' m c', .int .i64 l]), (w.heap.size + 1, 27, zR), (g, 27, #[.int .u64 ((bestR d k).gen : Nat), .int .i64 (bestR d k).at_, .int .i64 (bestR d k).len, .int .i64 (bestR d k).long, .int .u32 ((bestR d k).sum : Nat), .int .u64 ((bestR d k).next : Nat)])] [] [])) (fun i _ => 2 - (intOf i).toNat)
  case atStart => exact ⟨0, by omega, rfl, X2⟩
  case round =>
    obtain ⟨k, hk, rfl, X3⟩ := hrel
    clear X2
    by_cases hlt : k < 2
    · have k1 : (k : Int) < 2 := by omega
      have hb : bestR d (k + 1) = if (bestR d k).gen < (atR d k).gen then atR d k else bestR d k := rfl
      have hRk := unhide hR k
      obtain ⟨q, hq⟩ : ∃ q, q = atR d k := ⟨_, rfl⟩
      rw [← hq] at hRk hb
      clear hq
      replace hRk := hide hRk
      have a0 : wr.cell? ⟨w.heap.size, 0, none⟩ = some (.slice A n c) := ((unhide X3).get 0 rfl).cell 0
      have a1 : wr.cell? ⟨w.heap.size, 1, none⟩ = some (.slice A' m c') := ((unhide X3).get 0 rfl).cell 1
      have a2 : wr.cell? ⟨w.heap.size, 2, none⟩ = some (.int .i64 l) := ((unhide X3).get 0 rfl).cell 2
      by_cases hgt : (bestR d k).gen < q.gen
      · rw [if_pos hgt] at hb
        have hgi : ((bestR d k).gen : Int) < (q.gen : Int) := by omega
        clear hR
        replace hb := hide hb
        go_upto_region 9 with (first
          | (go_at_call 41; refine (unhide hRk _ (unhide X3).bl).mono ?_; rintro e w5 ⟨rfl, b5⟩
             have X5 : Gx w w5 [(w.heap.size, 31, #[.slice A n c, .slice A' m c', .int .i64 l]), (w.heap.size + 1, 27, zR), (g, 27, #[.int .u64 ((bestR d k).gen : Nat), .int .i64 (bestR d k).at_, .int .i64 (bestR d k).len, .int .i64 (bestR d k).long, .int .u32 ((bestR d k).sum : Nat), .int .u64 ((bestR d k).next : Nat)])] [] [] := (unhide X3).call b5
             have y5 : w.heap.size < w5.heap.size := (X5.get 0 rfl).lt
             have y6 : w.heap.size + 1 < w5.heap.size := (X5.get 1 rfl).lt
             have y7 : g < w5.heap.size := (X5.get 2 rfl).lt
             have cb0 : w5.cell? ⟨g, 0, none⟩ = some (.int .u64 ((bestR d k).gen : Nat)) := (X5.get 2 rfl).cell 0
             have cb1 : w5.cell? ⟨g, 1, none⟩ = some (.int .i64 (bestR d k).at_) := (X5.get 2 rfl).cell 1
             have cb2 : w5.cell? ⟨g, 2, none⟩ = some (.int .i64 (bestR d k).len) := (X5.get 2 rfl).cell 2
             have cb3 : w5.cell? ⟨g, 3, none⟩ = some (.int .i64 (bestR d k).long) := (X5.get 2 rfl).cell 3
             have cb4 : w5.cell? ⟨g, 4, none⟩ = some (.int .u32 ((bestR d k).sum : Nat)) := (X5.get 2 rfl).cell 4
             have cb5 : w5.cell? ⟨g, 5, none⟩ = some (.int .u64 ((bestR d k).next : Nat)) := (X5.get 2 rfl).cell 5
             have X6 := hide (X5.newB w5.heap.size rfl 27 #[.int .u64 (q.gen : Nat), .int .i64 q.at_, .int .i64 q.len, .int .i64 q.long, .int .u32 (q.sum : Nat), .int .u64 (q.next : Nat)])
             clear b5 X5)
          | fail)
        have X7 := unhide X6
        clear X6 cb0 cb1 cb2 cb3 cb4 cb5
        generalize w5.alloc (.cells #[.int .u64 (q.gen : Nat), .int .i64 q.at_, .int .i64 q.len, .int .i64 q.long, .int .u32 (q.sum : Nat), .int .u64 (q.next : Nat)] 27) = V at *
        generalize w5.heap.size = g6 at *
        have cc0 : V.cell? ⟨g6, 0, none⟩ = some (.int .u64 (q.gen : Nat)) := (X7.get 3 rfl).cell 0
        have cc1 : V.cell? ⟨g6, 1, none⟩ = some (.int .i64 q.at_) := (X7.get 3 rfl).cell 1
        have cc2 : V.cell? ⟨g6, 2, none⟩ = some (.int .i64 q.len) := (X7.get 3 rfl).cell 2
        have cc3 : V.cell? ⟨g6, 3, none⟩ = some (.int .i64 q.long) := (X7.get 3 rfl).cell 3
        have cc4 : V.cell? ⟨g6, 4, none⟩ = some (.int .u32 (q.sum : Nat)) := (X7.get 3 rfl).cell 4
        have cc5 : V.cell? ⟨g6, 5, none⟩ = some (.int .u64 (q.next : Nat)) := (X7.get 3 rfl).cell 5
        have cd0 : V.cell? ⟨g, 0, none⟩ = some (.int .u64 ((bestR d k).gen : Nat)) := (X7.get 2 rfl).cell 0
        have cd1 : V.cell? ⟨g, 1, none⟩ = some (.int .i64 (bestR d k).at_) := (X7.get 2 rfl).cell 1
        have cd2 : V.cell? ⟨g, 2, none⟩ = some (.int .i64 (bestR d k).len) := (X7.get 2 rfl).cell 2
        have cd3 : V.cell? ⟨g, 3, none⟩ = some (.int .i64 (bestR d k).long) := (X7.get 2 rfl).cell 3
        have cd4 : V.cell? ⟨g, 4, none⟩ = some (.int .u32 ((bestR d k).sum : Nat)) := (X7.get 2 rfl).cell 4
        have cd5 : V.cell? ⟨g, 5, none⟩ = some (.int .u64 ((bestR d k).next : Nat)) := (X7.get 2 rfl).cell 5
        have fd0 : V.frozen? ⟨g, 0, none⟩ = false := (X7.get 2 rfl).frozen 0
        have fd1 : V.frozen? ⟨g, 1, none⟩ = false := (X7.get 2 rfl).frozen 1
        have fd2 : V.frozen? ⟨g, 2, none⟩ = false := (X7.get 2 rfl).frozen 2
        have fd3 : V.frozen? ⟨g, 3, none⟩ = false := (X7.get 2 rfl).frozen 3
        have fd4 : V.frozen? ⟨g, 4, none⟩ = false := (X7.get 2 rfl).frozen 4
        have fd5 : V.frozen? ⟨g, 5, none⟩ = false := (X7.get 2 rfl).frozen 5
        have X8 := hide ((X7.sub (L' := [(w.heap.size, 31, #[.slice A n c, .slice A' m c', .int .i64 l]), (w.heap.size + 1, 27, zR)]) (by simp) (fun _ h => h) (fun _ h => h)).set6 (X7.get 2 rfl) hgw (by simp; omega) (.int .u64 (q.gen : Nat)) (.int .i64 q.at_) (.int .i64 q.len) (.int .i64 q.long) (.int .u32 (q.sum : Nat)) (.int .u64 (q.next : Nat)))
        clear X7
        go_wp2_with fail
        go_roundw
        case rel => exact ⟨k + 1, by omega, by go_num, by rw [unhide hb]; exact X8⟩
        case measure => simp [intOf]; omega
      · rw [if_neg hgt] at hb
        have hgi : ¬ ((bestR d k).gen : Int) < (q.gen : Int) := by omega
        clear hR
        replace hb := hide hb
        go_upto_region 10 with (first
          | (go_at_call 41; refine (unhide hRk _ (unhide X3).bl).mono ?_; rintro e w5 ⟨rfl, b5⟩
             have X5 : Gx w w5 [(w.heap.size, 31, #[.slice A n c, .slice A' m c', .int .i64 l]), (w.heap.size + 1, 27, zR), (g, 27, #[.int .u64 ((bestR d k).gen : Nat), .int .i64 (bestR d k).at_, .int .i64 (bestR d k).len, .int .i64 (bestR d k).long, .int .u32 ((bestR d k).sum : Nat), .int .u64 ((bestR d k).next : Nat)])] [] [] := (unhide X3).call b5
             have y5 : w.heap.size < w5.heap.size := (X5.get 0 rfl).lt
             have y6 : w.heap.size + 1 < w5.heap.size := (X5.get 1 rfl).lt
             have y7 : g < w5.heap.size := (X5.get 2 rfl).lt
             have cb0 : w5.cell? ⟨g, 0, none⟩ = some (.int .u64 ((bestR d k).gen : Nat)) := (X5.get 2 rfl).cell 0
             have cb1 : w5.cell? ⟨g, 1, none⟩ = some (.int .i64 (bestR d k).at_) := (X5.get 2 rfl).cell 1
             have cb2 : w5.cell? ⟨g, 2, none⟩ = some (.int .i64 (bestR d k).len) := (X5.get 2 rfl).cell 2
             have cb3 : w5.cell? ⟨g, 3, none⟩ = some (.int .i64 (bestR d k).long) := (X5.get 2 rfl).cell 3
             have cb4 : w5.cell? ⟨g, 4, none⟩ = some (.int .u32 ((bestR d k).sum : Nat)) := (X5.get 2 rfl).cell 4
             have cb5 : w5.cell? ⟨g, 5, none⟩ = some (.int .u64 ((bestR d k).next : Nat)) := (X5.get 2 rfl).cell 5
             have X6 := hide (X5.newB w5.heap.size rfl 27 #[.int .u64 (q.gen : Nat), .int .i64 q.at_, .int .i64 q.len, .int .i64 q.long, .int .u32 (q.sum : Nat), .int .u64 (q.next : Nat)])
             clear b5 X5)
          | fail)
        have X7 := unhide X6
        clear X6 cb0 cb1 cb2 cb3 cb4 cb5
        generalize w5.alloc (.cells #[.int .u64 (q.gen : Nat), .int .i64 q.at_, .int .i64 q.len, .int .i64 q.long, .int .u32 (q.sum : Nat), .int .u64 (q.next : Nat)] 27) = V at *
        generalize w5.heap.size = g6 at *
        have X8 := hide (X7.sub (L' := [(w.heap.size, 31, #[.slice A n c, .slice A' m c', .int .i64 l]), (w.heap.size + 1, 27, zR), (g, 27, #[.int .u64 ((bestR d k).gen : Nat), .int .i64 (bestR d k).at_, .int .i64 (bestR d k).len, .int .i64 (bestR d k).long, .int .u32 ((bestR d k).sum : Nat), .int .u64 ((bestR d k).next : Nat)])]) (by simp) (fun _ h => h) (fun _ h => h))
        clear X7
        go_wp2_with fail
        go_roundw
        case rel => exact ⟨k + 1, by omega, by go_num, by rw [unhide hb]; exact X8⟩
        case measure => simp [intOf]; omega
    · obtain rfl : k = 2 := by omega
      have X4 := unhide X3
      clear X3 hR
      obtain ⟨q, hq⟩ : ∃ q, q = bestR d 2 := ⟨_, rfl⟩
      rw [← hq] at X4 hf
      have cc0 : wr.cell? ⟨g, 0, none⟩ = some (.int .u64 (q.gen : Nat)) := (X4.get 2 rfl).cell 0
      have cc1 : wr.cell? ⟨g, 1, none⟩ = some (.int .i64 q.at_) := (X4.get 2 rfl).cell 1
      have cc2 : wr.cell? ⟨g, 2, none⟩ = some (.int .i64 q.len) := (X4.get 2 rfl).cell 2
      have cc3 : wr.cell? ⟨g, 3, none⟩ = some (.int .i64 q.long) := (X4.get 2 rfl).cell 3
      have cc4 : wr.cell? ⟨g, 4, none⟩ = some (.int .u32 (q.sum : Nat)) := (X4.get 2 rfl).cell 4
      have cc5 : wr.cell? ⟨g, 5, none⟩ = some (.int .u64 (q.next : Nat)) := (X4.get 2 rfl).cell 5
      have ca0 : wr.cell? ⟨w.heap.size + 1, 0, none⟩ = some (.int .u64 0) := (X4.get 1 rfl).cell 0
      have ca1 : wr.cell? ⟨w.heap.size + 1, 1, none⟩ = some (.int .i64 0) := (X4.get 1 rfl).cell 1
      have ca2 : wr.cell? ⟨w.heap.size + 1, 2, none⟩ = some (.int .i64 0) := (X4.get 1 rfl).cell 2
      have ca3 : wr.cell? ⟨w.heap.size + 1, 3, none⟩ = some (.int .i64 0) := (X4.get 1 rfl).cell 3
      have ca4 : wr.cell? ⟨w.heap.size + 1, 4, none⟩ = some (.int .u32 0) := (X4.get 1 rfl).cell 4
      have ca5 : wr.cell? ⟨w.heap.size + 1, 5, none⟩ = some (.int .u64 0) := (X4.get 1 rfl).cell 5
      have fa0 : wr.frozen? ⟨w.heap.size + 1, 0, none⟩ = false := (X4.get 1 rfl).frozen 0
      have fa1 : wr.frozen? ⟨w.heap.size + 1, 1, none⟩ = false := (X4.get 1 rfl).frozen 1
      have fa2 : wr.frozen? ⟨w.heap.size + 1, 2, none⟩ = false := (X4.get 1 rfl).frozen 2
      have fa3 : wr.frozen? ⟨w.heap.size + 1, 3, none⟩ = false := (X4.get 1 rfl).frozen 3
      have fa4 : wr.frozen? ⟨w.heap.size + 1, 4, none⟩ = false := (X4.get 1 rfl).frozen 4
      have fa5 : wr.frozen? ⟨w.heap.size + 1, 5, none⟩ = false := (X4.get 1 rfl).frozen 5
      replace X4 := hide X4; replace hq := hide hq
      by_cases hz : q.gen = 0
      · have hf' := unhide hf
        rw [if_pos hz] at hf'
        replace hf' := hide hf'
        have hz' : (((q.gen : Nat) : Int) == 0) = true := by simp [hz]
        clear hf hz
        go_wp2_with fail
        exact ret_r2 rfl (w.heap.size + 1) zR rfl (.int .i64 4) rfl rfl (Blk.set6 ((unhide X4).get 1 rfl) _ _ _ _ _ _) rfl ⟨by rw [unhide hf']; rfl, bl_set6 (unhide X4).bl (by omega) _ _ _ _ _ _⟩
      · have hf' := unhide hf
        rw [if_neg hz] at hf'
        replace hf' := hide hf'
        have hz' : (((q.gen : Nat) : Int) == 0) = false := by simp; omega
        clear hf hz
        go_wp2_with fail
        exact ret_r2 rfl (w.heap.size + 1) #[.int .u64 (q.gen : Nat), .int .i64 q.at_, .int .i64 q.len, .int .i64 q.long, .int .u32 (q.sum : Nat), .int .u64 (q.next : Nat)] rfl (.int .i64 0) rfl rfl (Blk.set6 ((unhide X4).get 1 rfl) _ _ _ _ _ _) rfl ⟨by rw [unhide hf'], bl_set6 (unhide X4).bl (by omega) _ _ _ _ _ _⟩
theorem Find_any (lo : Nat) (v : Value) (d : Dk) (w : World) (ht : Tab w) (h : Dsk lo w.heap.size w v d) (hL : d.dry.length ≤ 1000000) (hW : d.wet.length ≤ 1000) :
    Calls Tryd.prog 17 #[v] w fun e w' => e = .returned (.tuple #[(.agg #[.int .u64 ((fdR d).1.gen : Nat), .int .i64 (fdR d).1.at_, .int .i64 (fdR d).1.len, .int .i64 (fdR d).1.long, .int .u32 ((fdR d).1.sum : Nat), .int .u64 ((fdR d).1.next : Nat)]), .int .i64 (fdR d).2]) ∧ Below w.heap.size w w' := by
  cases hd : holdB d with
  | false =>
    have e : fdR d = (noRt, 1) := by unfold fdR; rw [hd]; rfl
    rw [e]
    exact Find_bad lo v d w h hd
  | true => exact Find_good lo v d w ht h hL hW hd
end Go.Proofs.YtommlgdolahfbaaDoor
