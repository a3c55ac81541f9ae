import Derived.Test.YthmhhgodjpgjnaaW27
namespace Go.Proofs.Ythmhhgodjpgjnaa
open Go.RowKit

theorem mk1 (W : World) : (Instr.makeSlice 23 (.int .i64 1) (.int .i64 1)).run Try.prog W = .ok (.slice (some ⟨W.heap.size, 0, none⟩) 1 1) (W.alloc (.cells #[.int .u8 0] 5)) := by
  obtain ⟨i5, hi5, iz0, iz1, iz2⟩ := info5'
  have := run_mk (P := Try.prog) 23 5 i5 _ 1 Try.underlying23 hi5 iz0 iz1 1 (by rw [iz2]; omega) (by omega) W
  have hz : (madeCells (Value.int .u8 0).cells (1 * 1)).toList = List.replicate (1 * 1) (.int .u8 0) := toList_madeCells_one _ _
  have hz' : madeCells (Value.int .u8 0).cells (1 * 1) = #[.int .u8 0] := by rw [← Array.toArray_toList (xs := madeCells (Value.int .u8 0).cells (1 * 1)), hz]; rfl
  rw [hz'] at this
  exact this
theorem own_text {w : World} {base g : Nat} (h : Blk w g 5 #[.int .u8 0]) (hb : base ≤ g) : w.ownsRow base 5 1 (.slice (some ⟨g, 0, none⟩) 1 1) 1 (([0] : List Int).flatMap byc) :=
  ⟨rfl, .inr ⟨g, 1, _, rfl, hb, h, Nat.le_refl _, by simp [maxLen], rfl, rfl⟩⟩
theorem wrA {w : World} {base gc n : Nat} (h : w.ownsRow base 3 1 (.slice (some ⟨gc, 0, none⟩) n n) n ((List.replicate n (1024 : Int)).flatMap ivc)) (hs : base ≤ w.heap.size) :
    Wrt base (w.heap.size + 1) gc n w.heap.size 1 ((w.alloc (.cells #[.int .u8 0] 5)).alloc (.cells #[.int .u32 4294967295, .slice (some ⟨gc, 0, none⟩) n n, .slice (some ⟨w.heap.size, 0, none⟩) 1 1, .int .u32 0] 64)).drew (start0 n).c (start0 n).span (start0 n).low (start0 n).text := by
  have e : (start0 (n : Int)).c = List.replicate n 1024 := by simp [start0]
  refine ⟨?_, ?_, ?_⟩
  · rw [e, List.length_replicate]
    exact (Blk.new (by simp)).drew
  · rw [e, List.length_replicate]
    exact own_drew ((h.alloc _).alloc _)
  · exact own_drew ((own_text (Blk.new rfl) hs).alloc _)
theorem wrB {w : World} {base gc n : Nat} (h : w.ownsRow base 3 1 (.slice (some ⟨gc, 0, none⟩) n n) n ((List.replicate n (1024 : Int)).flatMap ivc)) (hs : base ≤ w.heap.size) :
    Wrt base w.heap.size gc n (w.heap.size + 1) 1 ((w.alloc (.cells #[.int .u32 4294967295, .slice (some ⟨gc, 0, none⟩) n n, .slice (some ⟨w.heap.size + 1, 0, none⟩) 1 1, .int .u32 0] 64)).alloc (.cells #[.int .u8 0] 5)).drew (start0 n).c (start0 n).span (start0 n).low (start0 n).text := by
  have e : (start0 (n : Int)).c = List.replicate n 1024 := by simp [start0]
  refine ⟨?_, ?_, ?_⟩
  · rw [e, List.length_replicate]
    exact ((Blk.new rfl).alloc _).drew
  · rw [e, List.length_replicate]
    exact own_drew ((h.alloc _).alloc _)
  · exact own_drew (own_text (Blk.new (by simp)) (by omega))

set_option maxHeartbeats 4000000 in
theorem Encode_good (n : Nat) (hn : n ≤ 1024) (lo : Nat) (v : Value) (bs : List Bit) (w : World) (h : Bts lo w.heap.size w v bs) (hl : bs.length ≤ 1000) (hin : bs.all (inB n) = true) :
    Calls Try.prog 10 #[.int .i64 n, v] w fun e w' => ∃ g c, e = .returned (.tuple #[.slice (some ⟨g, 0, none⟩) (endT (putAll (start0 n) bs)).length c, .int .i64 0]) ∧
      w'.ownsRow w.heap.size 5 1 (.slice (some ⟨g, 0, none⟩) (endT (putAll (start0 n) bs)).length c) (endT (putAll (start0 n) bs)).length ((endT (putAll (start0 n) bs)).flatMap byc) ∧ Below w.heap.size w w' := by
  generalize hTT : endT (putAll (start0 (n : Int)) bs) = T
  replace hTT := hide hTT
  have hS := fun W => start_good n hn W
  have hf := fun g sv A c W (hb : Below w.heap.size w W) hg => contains23_any g sv A n c lo v bs W (h.grow hb) hg
  have hx : ∀ x ∈ bs, inB n x = true := by simpa using hin
  obtain ⟨A, c, rfl, x1, x2, x3⟩ := h.open
  clear h
  replace hS := hide hS; replace hf := hide hf; replace hin := hide hin; replace x3 := hide x3; replace hx := hide hx
  go_enter Try.func10, Try.ntmps10
  go_wp2_with (first
    | (go_at_call 22; refine (unhide hS _).mono ?_; rintro e w1 ⟨gc, rfl, ho, hb1⟩; replace ho := hide ho)
    | (go_at_call 23; refine (unhide hf w1.heap.size (.int .u32 4294967295) (some ⟨gc, 0, none⟩) n _ (by (repeat (first | with_reducible exact Below.refl _ _ | with_reducible assumption | with_reducible refine Below.drew ?_ | with_reducible refine bl_alloc ?_ _ | with_reducible refine bl_call ?_ (by assumption) | (focus (with_reducible refine Below.setCell ?_ ?_ _; rotate_left; focus (first | omega | (simp <;> omega)))) | fail))) (Blk.new rfl)).mono ?_; rintro e w2 ⟨rfl, hb2⟩; rw [unhide hin])
    | fail)
  have hK6 := (Blk.new (w := w1) (g := w1.heap.size) (t := 57) (cs := #[.int .u32 4294967295, .slice (some ⟨gc, 0, none⟩) n n]) rfl).below hb2 (by simp)
  have ho2 := own_below ((unhide ho).alloc (.cells #[.int .u32 4294967295, .slice (some ⟨gc, 0, none⟩) n n] 57)) hb2 (Nat.le_refl _)
  have hB2 : Below w.heap.size w w2 := by (repeat (first | with_reducible exact Below.refl _ _ | with_reducible assumption | with_reducible refine Below.drew ?_ | with_reducible refine bl_alloc ?_ _ | with_reducible refine bl_call ?_ (by assumption) | (focus (with_reducible refine Below.setCell ?_ ?_ _; rotate_left; focus (first | omega | (simp <;> omega)))) | fail))
  have y0 : w2.cell? ⟨w1.heap.size, 0, none⟩ = some (.int .u32 4294967295) := hK6.cell 0
  have y1 : w2.cell? ⟨w1.heap.size, 1, none⟩ = some (.slice (some ⟨gc, 0, none⟩) n n) := hK6.cell 1
  have y2 := hK6.lt
  generalize w1.heap.size = g6 at *
  replace ho2 := hide ho2; replace hB2 := hide hB2
  clear hb2 ho hb1 hK6
  go_cut [8] (fun s8 wx => ∃ (g gt : Nat), s8 = .pointer (some ⟨g, 0, none⟩) ∧ Hid (Wrt w.heap.size g gc n gt 1 wx (start0 n).c (start0 n).span (start0 n).low (start0 n).text) ∧ Hid (Below w.heap.size w wx) ∧ Hid (w.heap.size ≤ g))
  case first =>
    have hmk := mk1
    go_region_held3 (fun W => W.cell? ⟨g6, 0, none⟩ = some (.int .u32 4294967295) ∧ W.cell? ⟨g6, 1, none⟩ = some (.slice (some ⟨gc, 0, none⟩) n n)) (first | exact ⟨by assumption, by assumption⟩ | exact ⟨by go_simp, by go_simp⟩) (first | fail)
    all_goals
      go_wp2_with fail
      go_meet
      first
        | exact ⟨_, _, rfl, hide (wrA (unhide ho2) (unhide hB2).size), hide (by have hB2' := unhide hB2; (repeat (first | with_reducible exact Below.refl _ _ | with_reducible assumption | with_reducible refine Below.drew ?_ | with_reducible refine bl_alloc ?_ _ | with_reducible refine bl_call ?_ (by assumption) | (focus (with_reducible refine Below.setCell ?_ ?_ _; rotate_left; focus (first | omega | (simp <;> omega)))) | fail))), hide (by have := (unhide hB2).size; omega)⟩
        | exact ⟨_, _, rfl, hide (wrB (unhide ho2) (unhide hB2).size), hide (by have hB2' := unhide hB2; (repeat (first | with_reducible exact Below.refl _ _ | with_reducible assumption | with_reducible refine Below.drew ?_ | with_reducible refine bl_alloc ?_ _ | with_reducible refine bl_call ?_ (by assumption) | (focus (with_reducible refine Below.setCell ?_ ?_ _; rotate_left; focus (first | omega | (simp <;> omega)))) | fail))), hide (by have := (unhide hB2).size; omega)⟩
  case rest =>
    clear y0 y1 y2 ho2 hB2
    obtain ⟨g, gt, rfl, hW, hB, hg⟩ := hcut
    go_wp2_with fail
    go_loopw [30] (fun i wr => ∃ (k : Nat), k ≤ bs.length ∧ i = .int .i64 k ∧ Hid (∃ gt ct, Wrt w.heap.size g gc n gt ct wr (putAll (start0 n) (bs.take k)).c (putAll (start0 n) (bs.take k)).span (putAll (start0 n) (bs.take k)).low (putAll (start0 n) (bs.take k)).text) ∧ Hid (Below w.heap.size w wr)) (fun i _ => bs.length - (intOf i).toNat)
    case atStart => exact ⟨0, Nat.zero_le _, rfl, hide ⟨gt, 1, unhide hW⟩, hB⟩
    case round =>
      clear hW hB
      obtain ⟨k, hk, rfl, hW, hB⟩ := hrel
      obtain ⟨gt, ct, hW⟩ := unhide hW
      have hinv := (putAll_ok (xs := bs.take k) (start_ok (n := n) (by omega)) (by rw [start_c]; exact fun x hxm => unhide hx x (List.mem_of_mem_take hxm))).1
      have hlen : (putAll (start0 n) (bs.take k)).text.length ≤ 1 + k := by
        have := putAll_len (start0 n) (bs.take k)
        have h1 : (start0 (n : Int)).text.length = 1 := rfl
        rw [List.length_take, h1] at this
        omega
      have hcl : (putAll (start0 n) (bs.take k)).c.length = n := by rw [putAll_c, start_c]; simp
      by_cases hlt : k < bs.length
      · obtain ⟨b, off, rfl, g1, g2, q0, q1⟩ := unhide x3 k hlt
        have c0 := ((unhide hB).cell (p := ⟨b, off + k * 2, none⟩) g2).trans q0
        have c1 := ((unhide hB).cell (p := ⟨b, off + k * 2 + 1, none⟩) g2).trans q1
        have hxk := inB_iff.1 (unhide hx bs[k] (List.getElem_mem hlt))
        have hnext := putAll_snoc (start0 n) hlt
        obtain ⟨m, hm⟩ : ∃ m : Nat, bs[k].at_ = (m : Int) := ⟨bs[k].at_.toNat, by omega⟩
        obtain ⟨z, hz⟩ : ∃ z, z = bs[k].b := ⟨_, rfl⟩
        have hbk : bs[k] = ⟨m, z⟩ := by rw [hz, ← hm]
        rw [hm] at c0 hxk
        rw [← hz] at c1
        rw [hbk] at hnext
        generalize putAll (start0 n) (bs.take k) = s at *
        have hP := fun W h => put_any w.heap.size g gc n gt ct m z s W h (by rw [hcl]; omega) hinv.toOkE (by omega)
        rw [← hnext] at hP
        replace hP := hide hP; replace hW := hide hW; replace hnext := hide hnext; replace hbk := hide hbk; replace hz := hide hz
        have hgt := (own_lt (unhide hW).text).2
        have hgc := (own_lt (unhide hW).c).2
        clear q0 q1 hm hinv hlen
        replace hcl := hide hcl; replace hgt := hide hgt; replace hgc := hide hgc
        go_wp2_with (first
          | (go_at_call 26
             refine (unhide hP _ ((unhide hW).alloc _)).mono ?_
             rintro e w7 ⟨rfl, gt', ct', hW7, hB7⟩
             have hB8 : Below w.heap.size w w7 := ((unhide hB).alloc (unhide hB).size _).trans (hB7.below (by
               have h1 := unhide hg; have h2 := unhide hgt; have h3 := unhide hgc
               simp only [List.mem_cons, List.not_mem_nil, or_false]
               rintro q (rfl | rfl | rfl) <;> assumption) (by have := (unhide hB).size; simp; omega))
             replace hW7 := hide hW7; replace hB7 := hide hB7; replace hB8 := hide hB8)
          | fail)
        go_roundw
        case rel => exact ⟨k + 1, by omega, by go_num, hide ⟨gt', ct', unhide hW7⟩, hB8⟩
        case measure => simp [intOf]; omega
      · obtain rfl : k = bs.length := by omega
        rw [List.take_length] at hW hinv hlen
        have hE := fun W h => end_any w.heap.size g gc n gt ct (putAll (start0 n) bs).c (putAll (start0 n) bs).span (putAll (start0 n) bs).low (putAll (start0 n) bs).text W h hinv.low (by omega) hinv.one
        have hgt := (own_lt hW.text).2
        have hfin : (endT (putAll (start0 n) bs)).length = (putAll (start0 n) bs).text.length + 4 := endT_len _
        have hfin2 : (putAll (start0 n) bs).text ++ be4 (putAll (start0 n) bs).low = endT (putAll (start0 n) bs) := rfl
        rw [hfin2, ← hfin, unhide hTT] at hE
        replace hE := hide hE; replace hW := hide hW; replace hgt := hide hgt
        clear hlen hinv hcl hfin hfin2
        go_wp2_with (first
          | (go_at_call 27
             refine (unhide hE _ (unhide hW)).mono ?_
             rintro e w7 ⟨g7, c7, rfl, ho7, hB7⟩
             have hB8 : Below w.heap.size w w7 := (unhide hB).trans (hB7.below (by
               have h2 := unhide hgt
               simp only [List.mem_cons, List.not_mem_nil, or_false]
               rintro q rfl; assumption) (by have := (unhide hB).size; omega))
             replace ho7 := hide ho7; replace hB8 := hide hB8)
          | fail)
        go_ret2
        exact ⟨g7, c7, rfl, unhide ho7, unhide hB8⟩
end Go.Proofs.Ythmhhgodjpgjnaa
