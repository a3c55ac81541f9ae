import Derived.Test.YtommlgdolahfbaaDoorRV
import Derived.Test.YtommlgdolahfbaaDoorRP
import Derived.Test.YtommlgdolahfbaaDoorS54
namespace Go.Proofs.YtommlgdolahfbaaDoor
set_option maxRecDepth 100000
open Go.RowKit

theorem refRead_form (lo : Nat) (v : Value) (d : Dk) (i : Nat) (w : World) (h : Dsk lo w.heap.size w v d) (hL : d.dry.length ≤ 1000000) (hW : d.wet.length ≤ 1000) (z : List UInt8) (hz : rdD d i = (z, 0)) :
    Calls Tryd.prog 42 #[v, .int .i64 (i : Nat)] w fun e w' => ∃ A c, e = .returned (.tuple #[.slice A z.length c, .int .i64 0]) ∧ Bs w.heap.size w'.heap.size w' (.slice A z.length c) z ∧ Below w.heap.size w w' := by
  refine (refread_any lo v d i w h hL hW).mono fun e w' ⟨v', E, he, hx, hE, hb⟩ => ?_
  rw [hz] at hx hE
  have hx' := hx
  obtain ⟨A, c, rfl, _⟩ := hx'
  exact ⟨A, c, by rw [he, hE], hx, hb⟩
set_option maxHeartbeats 2000000 in
theorem refFind_bad (lo : Nat) (v : Value) (d : Dk) (w : World) (h : Dsk lo w.heap.size w v d) (hd : okD d = false) :
    Calls Tryd.prog 18 #[v] w fun e w' => e = .returned (.tuple #[(.agg #[.int .u64 (noRt.gen : Nat), .int .i64 noRt.at_, .int .i64 noRt.len, .int .i64 noRt.long, .int .u32 (noRt.sum : Nat), .int .u64 (noRt.next : Nat)]), .int .i64 1]) ∧ Below w.heap.size w w' := by
  have hC := fun W (hB : Below w.heap.size w W) => refcheck_any lo v d W (h.grow hB)
  rw [hd, show badE false = 1 from rfl] at hC
  clear hd
  obtain ⟨A, c, A', c', rfl⟩ := h.form
  clear h
  generalize d.dry.length = n at *
  generalize d.wet.length = m at *
  generalize d.left = l at *
  have X0 : Gx w ((w.alloc (.cells #[.slice A n c, .slice A' m c', .int .i64 l] 31)).alloc (.cells zR 27)) [(w.heap.size, 31, #[.slice A n c, .slice A' m c', .int .i64 l]), (w.heap.size + 1, 27, #[.int .u64 0, .int .i64 0, .int .i64 0, .int .i64 0, .int .u32 0, .int .u64 0])] [] [] := ((Gx.nil w).newB w.heap.size rfl 31 #[.slice A n c, .slice A' m c', .int .i64 l]).newB (w.heap.size + 1) (by simp) 27 zR
  replace X0 := hide X0; replace hC := hide hC
  go_enter Tryd.func18, Tryd.ntmps18
  go_upto_region 1 with (fail)
  generalize hW : World.alloc (World.alloc w _) _ = W at *
  clear hW
  obtain ⟨a0, a1, a2⟩ := ck3 ((unhide X0).get 0 rfl)
  go_wp2_with (first
    | (go_at_call 38; refine (unhide hC _ (unhide X0).bl).mono ?_; rintro e w1 ⟨rfl, b1⟩
       have X1 := (unhide X0).call b1
       obtain ⟨cb0, cb1, cb2⟩ := ck3 (X1.get 0 rfl)
       have ca0 : w1.cell? ⟨w.heap.size + 1, 0, none⟩ = some (.int .u64 0) := (X1.get 1 rfl).cell 0
       have ca1 : w1.cell? ⟨w.heap.size + 1, 1, none⟩ = some (.int .i64 0) := (X1.get 1 rfl).cell 1
       have ca2 : w1.cell? ⟨w.heap.size + 1, 2, none⟩ = some (.int .i64 0) := (X1.get 1 rfl).cell 2
       have ca3 : w1.cell? ⟨w.heap.size + 1, 3, none⟩ = some (.int .i64 0) := (X1.get 1 rfl).cell 3
       have ca4 : w1.cell? ⟨w.heap.size + 1, 4, none⟩ = some (.int .u32 0) := (X1.get 1 rfl).cell 4
       have ca5 : w1.cell? ⟨w.heap.size + 1, 5, none⟩ = some (.int .u64 0) := (X1.get 1 rfl).cell 5
       have fa0 : w1.frozen? ⟨w.heap.size + 1, 0, none⟩ = false := (X1.get 1 rfl).frozen 0
       have fa1 : w1.frozen? ⟨w.heap.size + 1, 1, none⟩ = false := (X1.get 1 rfl).frozen 1
       have fa2 : w1.frozen? ⟨w.heap.size + 1, 2, none⟩ = false := (X1.get 1 rfl).frozen 2
       have fa3 : w1.frozen? ⟨w.heap.size + 1, 3, none⟩ = false := (X1.get 1 rfl).frozen 3
       have fa4 : w1.frozen? ⟨w.heap.size + 1, 4, none⟩ = false := (X1.get 1 rfl).frozen 4
       have fa5 : w1.frozen? ⟨w.heap.size + 1, 5, none⟩ = false := (X1.get 1 rfl).frozen 5
       replace X1 := hide X1
       clear b1)
    | fail)
  exact ret_r2 rfl (w.heap.size + 1) zR rfl (.int .i64 1) rfl rfl (Blk.set6 ((unhide X1).get 1 rfl) _ _ _ _ _ _) rfl ⟨rfl, bl_set6 (unhide X1).bl (by omega) _ _ _ _ _ _⟩
set_option maxHeartbeats 2000000 in
theorem refFind_small (lo : Nat) (v : Value) (d : Dk) (w : World) (h : Dsk lo w.heap.size w v d) (hd : okD d = true) (hn : d.dry.length < 96) :
    Calls Tryd.prog 18 #[v] w fun e w' => e = .returned (.tuple #[(.agg #[.int .u64 (noRt.gen : Nat), .int .i64 noRt.at_, .int .i64 noRt.len, .int .i64 noRt.long, .int .u32 (noRt.sum : Nat), .int .u64 (noRt.next : Nat)]), .int .i64 1]) ∧ Below w.heap.size w w' := by
  have hC := fun W (hB : Below w.heap.size w W) => refcheck_any lo v d W (h.grow hB)
  rw [hd, show badE true = 0 from rfl] at hC
  have hn1 : ((d.dry.length : Nat) : Int) < 96 := by omega
  clear hd hn
  obtain ⟨A, c, A', c', rfl⟩ := h.form
  clear h
  generalize d.dry.length = n at *
  generalize d.wet.length = m at *
  generalize d.left = l at *
  have X0 : Gx w ((w.alloc (.cells #[.slice A n c, .slice A' m c', .int .i64 l] 31)).alloc (.cells zR 27)) [(w.heap.size, 31, #[.slice A n c, .slice A' m c', .int .i64 l]), (w.heap.size + 1, 27, #[.int .u64 0, .int .i64 0, .int .i64 0, .int .i64 0, .int .u32 0, .int .u64 0])] [] [] := ((Gx.nil w).newB w.heap.size rfl 31 #[.slice A n c, .slice A' m c', .int .i64 l]).newB (w.heap.size + 1) (by simp) 27 zR
  replace X0 := hide X0; replace hC := hide hC
  go_enter Tryd.func18, Tryd.ntmps18
  go_upto_region 1 with (fail)
  generalize hW : World.alloc (World.alloc w _) _ = W at *
  clear hW
  obtain ⟨a0, a1, a2⟩ := ck3 ((unhide X0).get 0 rfl)
  go_wp2_with (first
    | (go_at_call 38; refine (unhide hC _ (unhide X0).bl).mono ?_; rintro e w1 ⟨rfl, b1⟩
       have X1 := (unhide X0).call b1
       obtain ⟨cb0, cb1, cb2⟩ := ck3 (X1.get 0 rfl)
       have ca0 : w1.cell? ⟨w.heap.size + 1, 0, none⟩ = some (.int .u64 0) := (X1.get 1 rfl).cell 0
       have ca1 : w1.cell? ⟨w.heap.size + 1, 1, none⟩ = some (.int .i64 0) := (X1.get 1 rfl).cell 1
       have ca2 : w1.cell? ⟨w.heap.size + 1, 2, none⟩ = some (.int .i64 0) := (X1.get 1 rfl).cell 2
       have ca3 : w1.cell? ⟨w.heap.size + 1, 3, none⟩ = some (.int .i64 0) := (X1.get 1 rfl).cell 3
       have ca4 : w1.cell? ⟨w.heap.size + 1, 4, none⟩ = some (.int .u32 0) := (X1.get 1 rfl).cell 4
       have ca5 : w1.cell? ⟨w.heap.size + 1, 5, none⟩ = some (.int .u64 0) := (X1.get 1 rfl).cell 5
       have fa0 : w1.frozen? ⟨w.heap.size + 1, 0, none⟩ = false := (X1.get 1 rfl).frozen 0
       have fa1 : w1.frozen? ⟨w.heap.size + 1, 1, none⟩ = false := (X1.get 1 rfl).frozen 1
       have fa2 : w1.frozen? ⟨w.heap.size + 1, 2, none⟩ = false := (X1.get 1 rfl).frozen 2
       have fa3 : w1.frozen? ⟨w.heap.size + 1, 3, none⟩ = false := (X1.get 1 rfl).frozen 3
       have fa4 : w1.frozen? ⟨w.heap.size + 1, 4, none⟩ = false := (X1.get 1 rfl).frozen 4
       have fa5 : w1.frozen? ⟨w.heap.size + 1, 5, none⟩ = false := (X1.get 1 rfl).frozen 5
       replace X1 := hide X1
       clear b1)
    | fail)
  exact ret_r2 rfl (w.heap.size + 1) zR rfl (.int .i64 1) rfl rfl (Blk.set6 ((unhide X1).get 1 rfl) _ _ _ _ _ _) rfl ⟨rfl, bl_set6 (unhide X1).bl (by omega) _ _ _ _ _ _⟩
set_option maxHeartbeats 8000000 in
theorem refFind_good (lo : Nat) (v : Value) (d : Dk) (w : World) (h : Dsk lo w.heap.size w v d) (hL : d.dry.length ≤ 1000000) (hW : d.wet.length ≤ 1000) (hd : holdB d = true) :
    Calls Tryd.prog 18 #[v] w fun e w' => e = .returned (.tuple #[(.agg #[.int .u64 ((fdR d).1.gen : Nat), .int .i64 (fdR d).1.at_, .int .i64 (fdR d).1.len, .int .i64 (fdR d).1.long, .int .u32 ((fdR d).1.sum : Nat), .int .u64 ((fdR d).1.next : Nat)]), .int .i64 (fdR d).2]) ∧ Below w.heap.size w w' := by
  obtain ⟨hok, h64⟩ := hold_parts hd
  have hC := fun W (hB : Below w.heap.size w W) => refcheck_any lo v d W (h.grow hB)
  rw [hok, show badE true = 0 from rfl] at hC
  have hn1 : ¬ ((d.dry.length : Nat) : Int) < 96 := by have := (okD_parts hok).1; omega
  have hR := fun i (hi : i < 2) W (hB : Below w.heap.size w W) => refRead_form lo v d i W (h.grow hB) hL hW _ (hold_rd hd hi)
  have hO := fun (i : Nat) v1 W (_ : Below w.heap.size w W) (hx : Bs 0 W.heap.size W v1 (sectorOf d i)) => refOf_any v1 0 (sectorOf d i) W hx
  have hat : ∀ i : Nat, i < 2 → atR d i = if ofB (sectorOf d i) = true ∧ (ofR (sectorOf d i)).gen % 2 = i then ofR (sectorOf d i) else noRt := fun i hi => by
    unfold atR
    rw [hold_rd hd hi]
    simp
  have hf : fdR d = if (bestR d 2).gen = 0 then (noRt, 4) else (bestR d 2, 0) := by unfold fdR; rw [hd]; rfl
  clear hL hW hd hok h64
  obtain ⟨A, c, A', c', rfl⟩ := h.form
  clear h
  generalize d.dry.length = n at *
  generalize d.wet.length = m at *
  generalize d.left = l at *
  have X0 : Gx w ((w.alloc (.cells #[.slice A n c, .slice A' m c', .int .i64 l] 31)).alloc (.cells zR 27)) [(w.heap.size, 31, #[.slice A n c, .slice A' m c', .int .i64 l]), (w.heap.size + 1, 27, #[.int .u64 0, .int .i64 0, .int .i64 0, .int .i64 0, .int .u32 0, .int .u64 0])] [] [] := ((Gx.nil w).newB w.heap.size rfl 31 #[.slice A n c, .slice A' m c', .int .i64 l]).newB (w.heap.size + 1) (by simp) 27 zR
  replace hf := hide hf; replace hR := hide hR; replace hO := hide hO; replace hat := hide hat
  replace X0 := hide X0; replace hC := hide hC
  go_enter Tryd.func18, Tryd.ntmps18
  go_upto_region 1 with (fail)
  generalize hW : World.alloc (World.alloc w _) _ = W at *
  clear hW
  obtain ⟨a0, a1, a2⟩ := ck3 ((unhide X0).get 0 rfl)
  go_wp2_with (first
    | (go_at_call 38; refine (unhide hC _ (unhide X0).bl).mono ?_; rintro e w1 ⟨rfl, b1⟩
       have X1 := (unhide X0).call b1
       obtain ⟨cb0, cb1, cb2⟩ := ck3 (X1.get 0 rfl)
       have ca0 : w1.cell? ⟨w.heap.size + 1, 0, none⟩ = some (.int .u64 0) := (X1.get 1 rfl).cell 0
       have ca1 : w1.cell? ⟨w.heap.size + 1, 1, none⟩ = some (.int .i64 0) := (X1.get 1 rfl).cell 1
       have ca2 : w1.cell? ⟨w.heap.size + 1, 2, none⟩ = some (.int .i64 0) := (X1.get 1 rfl).cell 2
       have ca3 : w1.cell? ⟨w.heap.size + 1, 3, none⟩ = some (.int .i64 0) := (X1.get 1 rfl).cell 3
       have ca4 : w1.cell? ⟨w.heap.size + 1, 4, none⟩ = some (.int .u32 0) := (X1.get 1 rfl).cell 4
       have ca5 : w1.cell? ⟨w.heap.size + 1, 5, none⟩ = some (.int .u64 0) := (X1.get 1 rfl).cell 5
       have fa0 : w1.frozen? ⟨w.heap.size + 1, 0, none⟩ = false := (X1.get 1 rfl).frozen 0
       have fa1 : w1.frozen? ⟨w.heap.size + 1, 1, none⟩ = false := (X1.get 1 rfl).frozen 1
       have fa2 : w1.frozen? ⟨w.heap.size + 1, 2, none⟩ = false := (X1.get 1 rfl).frozen 2
       have fa3 : w1.frozen? ⟨w.heap.size + 1, 3, none⟩ = false := (X1.get 1 rfl).frozen 3
       have fa4 : w1.frozen? ⟨w.heap.size + 1, 4, none⟩ = false := (X1.get 1 rfl).frozen 4
       have fa5 : w1.frozen? ⟨w.heap.size + 1, 5, none⟩ = false := (X1.get 1 rfl).frozen 5
       have X2 : Gx w (w1.alloc (.cells zR 27)) [(w.heap.size, 31, #[.slice A n c, .slice A' m c', .int .i64 l]), (w.heap.size + 1, 27, #[.int .u64 0, .int .i64 0, .int .i64 0, .int .i64 0, .int .u32 0, .int .u64 0]), (w1.heap.size, 27, #[.int .u64 ((bestR d 0).gen : Nat), .int .i64 (bestR d 0).at_, .int .i64 (bestR d 0).len, .int .i64 (bestR d 0).long, .int .u32 ((bestR d 0).sum : Nat), .int .u64 ((bestR d 0).next : Nat)])] [] [] := X1.newB w1.heap.size rfl 27 zR
       have hgw : w.heap.size ≤ w1.heap.size := X1.bl.size
       have hg1 : w.heap.size + 1 < w1.heap.size := (X1.get 1 rfl).lt
       replace X2 := hide X2
       clear b1 X1)
    | fail)
  generalize w1.heap.size = g at *
  clear hC X0 a0 a1 a2 ca0 ca1 ca2 ca3 ca4 ca5 fa0 fa1 fa2 fa3 fa4 fa5 cb0 cb1 cb2
  go_loopw [21] (fun i wr => ∃ k : Nat, k ≤ 2 ∧ i = .int .i64 k ∧ Hid (Gx w wr [(w.heap.size, 31, #[.slice A n c, .slice A' m c', .int .i64 l]), (w.heap.size + 1, 27, #[.int .u64 0, .int .i64 0, .int .i64 0, .int .i64 0, .int .u32 0, .int .u64 0]), (g, 27, #[.int .u64 ((bestR d k).gen : Nat), .int .i64 (bestR d k).at_, .int .i64 (bestR d k).len, .int .i64 (bestR d k).long, .int .u32 ((bestR d k).sum : Nat), .int .u64 ((bestR d k).next : Nat)])] [] [])) (fun i _ => 2 - (intOf i).toNat)
  case atStart => exact ⟨0, by omega, rfl, X2⟩
  case round =>
    obtain ⟨k, hk, rfl, X3⟩ := hrel
    clear X2
    by_cases hlt : k < 2
    · have k1 : (k : Int) < 2 := by omega
      have hb : bestR d (k + 1) = if (bestR d k).gen < (atR d k).gen then atR d k else bestR d k := rfl
      rw [unhide hat k hlt] at hb
      have hRk := unhide hR k hlt
      have hOk := unhide hO k
      obtain ⟨w3, rfl⟩ : ∃ w3 : World, w3 = wr := ⟨_, rfl⟩
      obtain ⟨z, hz⟩ : ∃ z, z = sectorOf d k := ⟨_, rfl⟩
      rw [← hz] at hRk hOk hb
      obtain ⟨q, hq⟩ : ∃ q, q = ofR z := ⟨_, rfl⟩
      rw [← hq] at hOk hb
      clear hz hq hR hO hat
      obtain ⟨a0, a1, a2⟩ := ck3 ((unhide X3).get 0 rfl)
      cases ho : ofB z with
      | false =>
        rw [ho] at hb
        rw [show ofE z = 2 by unfold ofE; rw [ho]; rfl] at hOk
        rw [if_neg (show ¬ (false = true ∧ q.gen % 2 = k) by simp), if_neg (show ¬ (bestR d k).gen < noRt.gen from Nat.not_lt_zero _)] at hb
        replace hb := hide hb; replace hRk := hide hRk; replace hOk := hide hOk
        clear ho
        go_upto_region 11 with (first
          | (go_at_call 42; refine (unhide hRk _ (unhide X3).bl).mono ?_; rintro e w5 ⟨A5, c5, rfl, y5, b5⟩
             have X5 : Gx w w5 [(w.heap.size, 31, #[.slice A n c, .slice A' m c', .int .i64 l]), (w.heap.size + 1, 27, #[.int .u64 0, .int .i64 0, .int .i64 0, .int .i64 0, .int .u32 0, .int .u64 0]), (g, 27, #[.int .u64 ((bestR d k).gen : Nat), .int .i64 (bestR d k).at_, .int .i64 (bestR d k).len, .int .i64 (bestR d k).long, .int .u32 ((bestR d k).sum : Nat), .int .u64 ((bestR d k).next : Nat)])] [] [(w3.heap.size, w5.heap.size, .slice A5 z.length c5, z)] := ((unhide X3).call b5).addZ y5
             clear b5 y5)
          | (go_at_call 14; refine (unhide hOk _ _ X5.bl (X5.rd 0 rfl)).mono ?_; rintro e w6 ⟨rfl, b6⟩
             have X6 : Gx w w6 [(w.heap.size, 31, #[.slice A n c, .slice A' m c', .int .i64 l]), (w.heap.size + 1, 27, #[.int .u64 0, .int .i64 0, .int .i64 0, .int .i64 0, .int .u32 0, .int .u64 0]), (g, 27, #[.int .u64 ((bestR d k).gen : Nat), .int .i64 (bestR d k).at_, .int .i64 (bestR d k).len, .int .i64 (bestR d k).long, .int .u32 ((bestR d k).sum : Nat), .int .u64 ((bestR d k).next : Nat)])] [] [] := (X5.call b6).sub (fun _ h => h) (fun _ h => h) (fun _ h => (nomatch h))
             have y7 : g < w6.heap.size := (X6.get 2 rfl).lt
             have y8 : w.heap.size + 1 < w6.heap.size := (X6.get 1 rfl).lt
             have cb0 : w6.cell? ⟨g, 0, none⟩ = some (.int .u64 ((bestR d k).gen : Nat)) := (X6.get 2 rfl).cell 0
             have cb1 : w6.cell? ⟨g, 1, none⟩ = some (.int .i64 (bestR d k).at_) := (X6.get 2 rfl).cell 1
             have cb2 : w6.cell? ⟨g, 2, none⟩ = some (.int .i64 (bestR d k).len) := (X6.get 2 rfl).cell 2
             have cb3 : w6.cell? ⟨g, 3, none⟩ = some (.int .i64 (bestR d k).long) := (X6.get 2 rfl).cell 3
             have cb4 : w6.cell? ⟨g, 4, none⟩ = some (.int .u32 ((bestR d k).sum : Nat)) := (X6.get 2 rfl).cell 4
             have cb5 : w6.cell? ⟨g, 5, none⟩ = some (.int .u64 ((bestR d k).next : Nat)) := (X6.get 2 rfl).cell 5
             have X7 := hide (X6.newB w6.heap.size rfl 27 #[.int .u64 (q.gen : Nat), .int .i64 q.at_, .int .i64 q.len, .int .i64 q.long, .int .u32 (q.sum : Nat), .int .u64 (q.next : Nat)])
             clear b6 X6)
          | fail)
        have X8 := unhide X7
        clear X7 X5 cb0 cb1 cb2 cb3 cb4 cb5
        generalize w6.alloc (.cells #[.int .u64 (q.gen : Nat), .int .i64 q.at_, .int .i64 q.len, .int .i64 q.long, .int .u32 (q.sum : Nat), .int .u64 (q.next : Nat)] 27) = V at *
        generalize w6.heap.size = g6 at *
        have X9 := hide (X8.sub (L' := [(w.heap.size, 31, #[.slice A n c, .slice A' m c', .int .i64 l]), (w.heap.size + 1, 27, #[.int .u64 0, .int .i64 0, .int .i64 0, .int .i64 0, .int .u32 0, .int .u64 0]), (g, 27, #[.int .u64 ((bestR d k).gen : Nat), .int .i64 (bestR d k).at_, .int .i64 (bestR d k).len, .int .i64 (bestR d k).long, .int .u32 ((bestR d k).sum : Nat), .int .u64 ((bestR d k).next : Nat)])]) (by simp) (fun _ h => h) (fun _ h => h))
        clear X8
        go_wp2_with fail
        go_roundw
        case rel => exact ⟨k + 1, by omega, by go_num, by rw [unhide hb]; exact X9⟩
        case measure => simp [intOf]; omega
      | true =>
        rw [ho] at hb
        rw [show ofE z = 0 by unfold ofE; rw [ho]; rfl] at hOk
        clear ho
        replace hRk := hide hRk; replace hOk := hide hOk
        by_cases hi : q.gen % 2 = k
        · rw [show (if true = true ∧ q.gen % 2 = k then q else noRt) = q from if_pos ⟨rfl, hi⟩] at hb
          have hi1 : (((q.gen : Nat) : Int) % 2 == (k : Int)) = true := by simp; omega
          by_cases hgt : (bestR d k).gen < q.gen
          · rw [if_pos hgt] at hb
            have hgi : ((bestR d k).gen : Int) < (q.gen : Int) := by omega
            replace hb := hide hb
            clear hi
            go_upto_region 10 with (first
              | (go_at_call 42; refine (unhide hRk _ (unhide X3).bl).mono ?_; rintro e w5 ⟨A5, c5, rfl, y5, b5⟩
                 have X5 : Gx w w5 [(w.heap.size, 31, #[.slice A n c, .slice A' m c', .int .i64 l]), (w.heap.size + 1, 27, #[.int .u64 0, .int .i64 0, .int .i64 0, .int .i64 0, .int .u32 0, .int .u64 0]), (g, 27, #[.int .u64 ((bestR d k).gen : Nat), .int .i64 (bestR d k).at_, .int .i64 (bestR d k).len, .int .i64 (bestR d k).long, .int .u32 ((bestR d k).sum : Nat), .int .u64 ((bestR d k).next : Nat)])] [] [(w3.heap.size, w5.heap.size, .slice A5 z.length c5, z)] := ((unhide X3).call b5).addZ y5
                 clear b5 y5)
              | (go_at_call 14; refine (unhide hOk _ _ X5.bl (X5.rd 0 rfl)).mono ?_; rintro e w6 ⟨rfl, b6⟩
                 have X6 : Gx w w6 [(w.heap.size, 31, #[.slice A n c, .slice A' m c', .int .i64 l]), (w.heap.size + 1, 27, #[.int .u64 0, .int .i64 0, .int .i64 0, .int .i64 0, .int .u32 0, .int .u64 0]), (g, 27, #[.int .u64 ((bestR d k).gen : Nat), .int .i64 (bestR d k).at_, .int .i64 (bestR d k).len, .int .i64 (bestR d k).long, .int .u32 ((bestR d k).sum : Nat), .int .u64 ((bestR d k).next : Nat)])] [] [] := (X5.call b6).sub (fun _ h => h) (fun _ h => h) (fun _ h => (nomatch h))
                 have y7 : g < w6.heap.size := (X6.get 2 rfl).lt
                 have y8 : w.heap.size + 1 < w6.heap.size := (X6.get 1 rfl).lt
                 have cb0 : w6.cell? ⟨g, 0, none⟩ = some (.int .u64 ((bestR d k).gen : Nat)) := (X6.get 2 rfl).cell 0
                 have cb1 : w6.cell? ⟨g, 1, none⟩ = some (.int .i64 (bestR d k).at_) := (X6.get 2 rfl).cell 1
                 have cb2 : w6.cell? ⟨g, 2, none⟩ = some (.int .i64 (bestR d k).len) := (X6.get 2 rfl).cell 2
                 have cb3 : w6.cell? ⟨g, 3, none⟩ = some (.int .i64 (bestR d k).long) := (X6.get 2 rfl).cell 3
                 have cb4 : w6.cell? ⟨g, 4, none⟩ = some (.int .u32 ((bestR d k).sum : Nat)) := (X6.get 2 rfl).cell 4
                 have cb5 : w6.cell? ⟨g, 5, none⟩ = some (.int .u64 ((bestR d k).next : Nat)) := (X6.get 2 rfl).cell 5
                 have X7 := hide (X6.newB w6.heap.size rfl 27 #[.int .u64 (q.gen : Nat), .int .i64 q.at_, .int .i64 q.len, .int .i64 q.long, .int .u32 (q.sum : Nat), .int .u64 (q.next : Nat)])
                 clear b6 X6)
              | fail)
            have X8 := unhide X7
            clear X7 X5 cb0 cb1 cb2 cb3 cb4 cb5
            generalize w6.alloc (.cells #[.int .u64 (q.gen : Nat), .int .i64 q.at_, .int .i64 q.len, .int .i64 q.long, .int .u32 (q.sum : Nat), .int .u64 (q.next : Nat)] 27) = V at *
            generalize w6.heap.size = g6 at *
            have cc0 : V.cell? ⟨g6, 0, none⟩ = some (.int .u64 (q.gen : Nat)) := (X8.get 3 rfl).cell 0
            have cc1 : V.cell? ⟨g6, 1, none⟩ = some (.int .i64 q.at_) := (X8.get 3 rfl).cell 1
            have cc2 : V.cell? ⟨g6, 2, none⟩ = some (.int .i64 q.len) := (X8.get 3 rfl).cell 2
            have cc3 : V.cell? ⟨g6, 3, none⟩ = some (.int .i64 q.long) := (X8.get 3 rfl).cell 3
            have cc4 : V.cell? ⟨g6, 4, none⟩ = some (.int .u32 (q.sum : Nat)) := (X8.get 3 rfl).cell 4
            have cc5 : V.cell? ⟨g6, 5, none⟩ = some (.int .u64 (q.next : Nat)) := (X8.get 3 rfl).cell 5
            have cd0 : V.cell? ⟨g, 0, none⟩ = some (.int .u64 ((bestR d k).gen : Nat)) := (X8.get 2 rfl).cell 0
            have cd1 : V.cell? ⟨g, 1, none⟩ = some (.int .i64 (bestR d k).at_) := (X8.get 2 rfl).cell 1
            have cd2 : V.cell? ⟨g, 2, none⟩ = some (.int .i64 (bestR d k).len) := (X8.get 2 rfl).cell 2
            have cd3 : V.cell? ⟨g, 3, none⟩ = some (.int .i64 (bestR d k).long) := (X8.get 2 rfl).cell 3
            have cd4 : V.cell? ⟨g, 4, none⟩ = some (.int .u32 ((bestR d k).sum : Nat)) := (X8.get 2 rfl).cell 4
            have cd5 : V.cell? ⟨g, 5, none⟩ = some (.int .u64 ((bestR d k).next : Nat)) := (X8.get 2 rfl).cell 5
            have fd0 : V.frozen? ⟨g, 0, none⟩ = false := (X8.get 2 rfl).frozen 0
            have fd1 : V.frozen? ⟨g, 1, none⟩ = false := (X8.get 2 rfl).frozen 1
            have fd2 : V.frozen? ⟨g, 2, none⟩ = false := (X8.get 2 rfl).frozen 2
            have fd3 : V.frozen? ⟨g, 3, none⟩ = false := (X8.get 2 rfl).frozen 3
            have fd4 : V.frozen? ⟨g, 4, none⟩ = false := (X8.get 2 rfl).frozen 4
            have fd5 : V.frozen? ⟨g, 5, none⟩ = false := (X8.get 2 rfl).frozen 5
            have X9 := hide ((X8.sub (L' := [(w.heap.size, 31, #[.slice A n c, .slice A' m c', .int .i64 l]), (w.heap.size + 1, 27, #[.int .u64 0, .int .i64 0, .int .i64 0, .int .i64 0, .int .u32 0, .int .u64 0])]) (by simp) (fun _ h => h) (fun _ h => h)).set6 (X8.get 2 rfl) hgw (by simp; omega) (.int .u64 (q.gen : Nat)) (.int .i64 q.at_) (.int .i64 q.len) (.int .i64 q.long) (.int .u32 (q.sum : Nat)) (.int .u64 (q.next : Nat)))
            clear X8
            go_wp2_with fail
            go_roundw
            case rel => exact ⟨k + 1, by omega, by go_num, by rw [unhide hb]; exact X9⟩
            case measure => simp [intOf]; omega
          · rw [if_neg hgt] at hb
            have hgi : ¬ ((bestR d k).gen : Int) < (q.gen : Int) := by omega
            replace hb := hide hb
            clear hi
            go_upto_region 11 with (first
              | (go_at_call 42; refine (unhide hRk _ (unhide X3).bl).mono ?_; rintro e w5 ⟨A5, c5, rfl, y5, b5⟩
                 have X5 : Gx w w5 [(w.heap.size, 31, #[.slice A n c, .slice A' m c', .int .i64 l]), (w.heap.size + 1, 27, #[.int .u64 0, .int .i64 0, .int .i64 0, .int .i64 0, .int .u32 0, .int .u64 0]), (g, 27, #[.int .u64 ((bestR d k).gen : Nat), .int .i64 (bestR d k).at_, .int .i64 (bestR d k).len, .int .i64 (bestR d k).long, .int .u32 ((bestR d k).sum : Nat), .int .u64 ((bestR d k).next : Nat)])] [] [(w3.heap.size, w5.heap.size, .slice A5 z.length c5, z)] := ((unhide X3).call b5).addZ y5
                 clear b5 y5)
              | (go_at_call 14; refine (unhide hOk _ _ X5.bl (X5.rd 0 rfl)).mono ?_; rintro e w6 ⟨rfl, b6⟩
                 have X6 : Gx w w6 [(w.heap.size, 31, #[.slice A n c, .slice A' m c', .int .i64 l]), (w.heap.size + 1, 27, #[.int .u64 0, .int .i64 0, .int .i64 0, .int .i64 0, .int .u32 0, .int .u64 0]), (g, 27, #[.int .u64 ((bestR d k).gen : Nat), .int .i64 (bestR d k).at_, .int .i64 (bestR d k).len, .int .i64 (bestR d k).long, .int .u32 ((bestR d k).sum : Nat), .int .u64 ((bestR d k).next : Nat)])] [] [] := (X5.call b6).sub (fun _ h => h) (fun _ h => h) (fun _ h => (nomatch h))
                 have y7 : g < w6.heap.size := (X6.get 2 rfl).lt
                 have y8 : w.heap.size + 1 < w6.heap.size := (X6.get 1 rfl).lt
                 have cb0 : w6.cell? ⟨g, 0, none⟩ = some (.int .u64 ((bestR d k).gen : Nat)) := (X6.get 2 rfl).cell 0
                 have cb1 : w6.cell? ⟨g, 1, none⟩ = some (.int .i64 (bestR d k).at_) := (X6.get 2 rfl).cell 1
                 have cb2 : w6.cell? ⟨g, 2, none⟩ = some (.int .i64 (bestR d k).len) := (X6.get 2 rfl).cell 2
                 have cb3 : w6.cell? ⟨g, 3, none⟩ = some (.int .i64 (bestR d k).long) := (X6.get 2 rfl).cell 3
                 have cb4 : w6.cell? ⟨g, 4, none⟩ = some (.int .u32 ((bestR d k).sum : Nat)) := (X6.get 2 rfl).cell 4
                 have cb5 : w6.cell? ⟨g, 5, none⟩ = some (.int .u64 ((bestR d k).next : Nat)) := (X6.get 2 rfl).cell 5
                 have X7 := hide (X6.newB w6.heap.size rfl 27 #[.int .u64 (q.gen : Nat), .int .i64 q.at_, .int .i64 q.len, .int .i64 q.long, .int .u32 (q.sum : Nat), .int .u64 (q.next : Nat)])
                 clear b6 X6)
              | fail)
            have X8 := unhide X7
            clear X7 X5 cb0 cb1 cb2 cb3 cb4 cb5
            generalize w6.alloc (.cells #[.int .u64 (q.gen : Nat), .int .i64 q.at_, .int .i64 q.len, .int .i64 q.long, .int .u32 (q.sum : Nat), .int .u64 (q.next : Nat)] 27) = V at *
            generalize w6.heap.size = g6 at *
            have X9 := hide (X8.sub (L' := [(w.heap.size, 31, #[.slice A n c, .slice A' m c', .int .i64 l]), (w.heap.size + 1, 27, #[.int .u64 0, .int .i64 0, .int .i64 0, .int .i64 0, .int .u32 0, .int .u64 0]), (g, 27, #[.int .u64 ((bestR d k).gen : Nat), .int .i64 (bestR d k).at_, .int .i64 (bestR d k).len, .int .i64 (bestR d k).long, .int .u32 ((bestR d k).sum : Nat), .int .u64 ((bestR d k).next : Nat)])]) (by simp) (fun _ h => h) (fun _ h => h))
            clear X8
            go_wp2_with fail
            go_roundw
            case rel => exact ⟨k + 1, by omega, by go_num, by rw [unhide hb]; exact X9⟩
            case measure => simp [intOf]; omega
        · rw [show (if true = true ∧ q.gen % 2 = k then q else noRt) = noRt from if_neg (fun hh => hi hh.2), if_neg (show ¬ (bestR d k).gen < noRt.gen from Nat.not_lt_zero _)] at hb
          have hi1 : (((q.gen : Nat) : Int) % 2 == (k : Int)) = false := by simp; omega
          replace hb := hide hb
          clear hi
          go_upto_region 11 with (first
            | (go_at_call 42; refine (unhide hRk _ (unhide X3).bl).mono ?_; rintro e w5 ⟨A5, c5, rfl, y5, b5⟩
               have X5 : Gx w w5 [(w.heap.size, 31, #[.slice A n c, .slice A' m c', .int .i64 l]), (w.heap.size + 1, 27, #[.int .u64 0, .int .i64 0, .int .i64 0, .int .i64 0, .int .u32 0, .int .u64 0]), (g, 27, #[.int .u64 ((bestR d k).gen : Nat), .int .i64 (bestR d k).at_, .int .i64 (bestR d k).len, .int .i64 (bestR d k).long, .int .u32 ((bestR d k).sum : Nat), .int .u64 ((bestR d k).next : Nat)])] [] [(w3.heap.size, w5.heap.size, .slice A5 z.length c5, z)] := ((unhide X3).call b5).addZ y5
               clear b5 y5)
            | (go_at_call 14; refine (unhide hOk _ _ X5.bl (X5.rd 0 rfl)).mono ?_; rintro e w6 ⟨rfl, b6⟩
               have X6 : Gx w w6 [(w.heap.size, 31, #[.slice A n c, .slice A' m c', .int .i64 l]), (w.heap.size + 1, 27, #[.int .u64 0, .int .i64 0, .int .i64 0, .int .i64 0, .int .u32 0, .int .u64 0]), (g, 27, #[.int .u64 ((bestR d k).gen : Nat), .int .i64 (bestR d k).at_, .int .i64 (bestR d k).len, .int .i64 (bestR d k).long, .int .u32 ((bestR d k).sum : Nat), .int .u64 ((bestR d k).next : Nat)])] [] [] := (X5.call b6).sub (fun _ h => h) (fun _ h => h) (fun _ h => (nomatch h))
               have y7 : g < w6.heap.size := (X6.get 2 rfl).lt
               have y8 : w.heap.size + 1 < w6.heap.size := (X6.get 1 rfl).lt
               have cb0 : w6.cell? ⟨g, 0, none⟩ = some (.int .u64 ((bestR d k).gen : Nat)) := (X6.get 2 rfl).cell 0
               have cb1 : w6.cell? ⟨g, 1, none⟩ = some (.int .i64 (bestR d k).at_) := (X6.get 2 rfl).cell 1
               have cb2 : w6.cell? ⟨g, 2, none⟩ = some (.int .i64 (bestR d k).len) := (X6.get 2 rfl).cell 2
               have cb3 : w6.cell? ⟨g, 3, none⟩ = some (.int .i64 (bestR d k).long) := (X6.get 2 rfl).cell 3
               have cb4 : w6.cell? ⟨g, 4, none⟩ = some (.int .u32 ((bestR d k).sum : Nat)) := (X6.get 2 rfl).cell 4
               have cb5 : w6.cell? ⟨g, 5, none⟩ = some (.int .u64 ((bestR d k).next : Nat)) := (X6.get 2 rfl).cell 5
               have X7 := hide (X6.newB w6.heap.size rfl 27 #[.int .u64 (q.gen : Nat), .int .i64 q.at_, .int .i64 q.len, .int .i64 q.long, .int .u32 (q.sum : Nat), .int .u64 (q.next : Nat)])
               clear b6 X6)
            | fail)
          have X8 := unhide X7
          clear X7 X5 cb0 cb1 cb2 cb3 cb4 cb5
          generalize w6.alloc (.cells #[.int .u64 (q.gen : Nat), .int .i64 q.at_, .int .i64 q.len, .int .i64 q.long, .int .u32 (q.sum : Nat), .int .u64 (q.next : Nat)] 27) = V at *
          generalize w6.heap.size = g6 at *
          have X9 := hide (X8.sub (L' := [(w.heap.size, 31, #[.slice A n c, .slice A' m c', .int .i64 l]), (w.heap.size + 1, 27, #[.int .u64 0, .int .i64 0, .int .i64 0, .int .i64 0, .int .u32 0, .int .u64 0]), (g, 27, #[.int .u64 ((bestR d k).gen : Nat), .int .i64 (bestR d k).at_, .int .i64 (bestR d k).len, .int .i64 (bestR d k).long, .int .u32 ((bestR d k).sum : Nat), .int .u64 ((bestR d k).next : Nat)])]) (by simp) (fun _ h => h) (fun _ h => h))
          clear X8
          go_wp2_with fail
          go_roundw
          case rel => exact ⟨k + 1, by omega, by go_num, by rw [unhide hb]; exact X9⟩
          case measure => simp [intOf]; omega
    · obtain rfl : k = 2 := by omega
      have X4 := unhide X3
      clear X3 hR hO hat
      obtain ⟨q, hq⟩ : ∃ q, q = bestR d 2 := ⟨_, rfl⟩
      rw [← hq] at X4 hf
      have cc0 : wr.cell? ⟨g, 0, none⟩ = some (.int .u64 (q.gen : Nat)) := (X4.get 2 rfl).cell 0
      have cc1 : wr.cell? ⟨g, 1, none⟩ = some (.int .i64 q.at_) := (X4.get 2 rfl).cell 1
      have cc2 : wr.cell? ⟨g, 2, none⟩ = some (.int .i64 q.len) := (X4.get 2 rfl).cell 2
      have cc3 : wr.cell? ⟨g, 3, none⟩ = some (.int .i64 q.long) := (X4.get 2 rfl).cell 3
      have cc4 : wr.cell? ⟨g, 4, none⟩ = some (.int .u32 (q.sum : Nat)) := (X4.get 2 rfl).cell 4
      have cc5 : wr.cell? ⟨g, 5, none⟩ = some (.int .u64 (q.next : Nat)) := (X4.get 2 rfl).cell 5
      have ca0 : wr.cell? ⟨w.heap.size + 1, 0, none⟩ = some (.int .u64 0) := (X4.get 1 rfl).cell 0
      have ca1 : wr.cell? ⟨w.heap.size + 1, 1, none⟩ = some (.int .i64 0) := (X4.get 1 rfl).cell 1
      have ca2 : wr.cell? ⟨w.heap.size + 1, 2, none⟩ = some (.int .i64 0) := (X4.get 1 rfl).cell 2
      have ca3 : wr.cell? ⟨w.heap.size + 1, 3, none⟩ = some (.int .i64 0) := (X4.get 1 rfl).cell 3
      have ca4 : wr.cell? ⟨w.heap.size + 1, 4, none⟩ = some (.int .u32 0) := (X4.get 1 rfl).cell 4
      have ca5 : wr.cell? ⟨w.heap.size + 1, 5, none⟩ = some (.int .u64 0) := (X4.get 1 rfl).cell 5
      have fa0 : wr.frozen? ⟨w.heap.size + 1, 0, none⟩ = false := (X4.get 1 rfl).frozen 0
      have fa1 : wr.frozen? ⟨w.heap.size + 1, 1, none⟩ = false := (X4.get 1 rfl).frozen 1
      have fa2 : wr.frozen? ⟨w.heap.size + 1, 2, none⟩ = false := (X4.get 1 rfl).frozen 2
      have fa3 : wr.frozen? ⟨w.heap.size + 1, 3, none⟩ = false := (X4.get 1 rfl).frozen 3
      have fa4 : wr.frozen? ⟨w.heap.size + 1, 4, none⟩ = false := (X4.get 1 rfl).frozen 4
      have fa5 : wr.frozen? ⟨w.heap.size + 1, 5, none⟩ = false := (X4.get 1 rfl).frozen 5
      replace X4 := hide X4; replace hq := hide hq
      by_cases hz : q.gen = 0
      · have hf' := unhide hf
        rw [if_pos hz] at hf'
        replace hf' := hide hf'
        have hz' : (((q.gen : Nat) : Int) == 0) = true := by simp [hz]
        clear hf hz
        go_wp2_with fail
        exact ret_r2 rfl (w.heap.size + 1) zR rfl (.int .i64 4) rfl rfl (Blk.set6 ((unhide X4).get 1 rfl) _ _ _ _ _ _) rfl ⟨by rw [unhide hf']; rfl, bl_set6 (unhide X4).bl (by omega) _ _ _ _ _ _⟩
      · have hf' := unhide hf
        rw [if_neg hz] at hf'
        replace hf' := hide hf'
        have hz' : (((q.gen : Nat) : Int) == 0) = false := by simp; omega
        clear hf hz
        go_wp2_with fail
        exact ret_r2 rfl (w.heap.size + 1) #[.int .u64 (q.gen : Nat), .int .i64 q.at_, .int .i64 q.len, .int .i64 q.long, .int .u32 (q.sum : Nat), .int .u64 (q.next : Nat)] rfl (.int .i64 0) rfl rfl (Blk.set6 ((unhide X4).get 1 rfl) _ _ _ _ _ _) rfl ⟨by rw [unhide hf'], bl_set6 (unhide X4).bl (by omega) _ _ _ _ _ _⟩
theorem refFind_any (lo : Nat) (v : Value) (d : Dk) (w : World) (h : Dsk lo w.heap.size w v d) (hL : d.dry.length ≤ 1000000) (hW : d.wet.length ≤ 1000) :
    Calls Tryd.prog 18 #[v] w fun e w' => e = .returned (.tuple #[(.agg #[.int .u64 ((fdR d).1.gen : Nat), .int .i64 (fdR d).1.at_, .int .i64 (fdR d).1.len, .int .i64 (fdR d).1.long, .int .u32 ((fdR d).1.sum : Nat), .int .u64 ((fdR d).1.next : Nat)]), .int .i64 (fdR d).2]) ∧ Below w.heap.size w w' := by
  cases hd : holdB d with
  | true => exact refFind_good lo v d w h hL hW hd
  | false =>
    have e : fdR d = (noRt, 1) := by unfold fdR; rw [hd]; rfl
    rw [e]
    cases hk : okD d with
    | false => exact refFind_bad lo v d w h hk
    | true =>
      refine refFind_small lo v d w h hk ?_
      unfold holdB at hd
      rw [hk, Bool.true_and] at hd
      have := of_decide_eq_false hd
      have := (okD_parts hk).1
      omega
end Go.Proofs.YtommlgdolahfbaaDoor
