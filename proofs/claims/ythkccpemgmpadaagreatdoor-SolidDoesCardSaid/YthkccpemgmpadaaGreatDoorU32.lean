import Derived.Test.YthkccpemgmpadaaGreatDoorU31
namespace Go.Proofs.YthkccpemgmpadaaGreatDoor
set_option maxRecDepth 100000
open Go.RowKit Go.ChangeShapes Go.WideShapes Go.ChangeAt Go.Deep Go.Joins
theorem u64v_of {z : Int} (h : (Lit.int .u64 z).wf = true) : Value.int .u64 z = u64v (BitVec.ofInt 64 z) := by
  have hz : 0 ≤ z ∧ z < 18446744073709551616 := by
    have e : IntKind.u64.min ≤ z ∧ z ≤ IntKind.u64.max := by simpa [Lit.wf] using h
    have e1 : IntKind.u64.min = 0 := by decide
    have e2 : IntKind.u64.max = 18446744073709551615 := by decide
    omega
  obtain ⟨n, rfl⟩ := Int.eq_ofNat_of_zero_le hz.1
  rw [BitVec.ofInt_natCast, n64_lit n (by omega)]
section
variable {H : Type} {enc : TypeId × Value → H} {w : World} {base : Nat} {spare : Nat → Bool} {held : Bool}
theorem open_st {fuel : Nat} {cs : List Value} {x : DataW H × List MemPlace} (h : DataW.trod enc Tryz.prog w base spare held fuel 24 cs = some x) : ∃ s : St, cs = [u32v s.a, u32v s.b, u32v s.c, u32v s.d] := by
  obtain ⟨xs, m, rfl, hx, hlen, hn, hel⟩ := DataW.trod_array Tryz.underlying24 h
  rw [cells22] at hel
  rw [cells24] at hlen
  match cs, hlen with
  | [a, b, c, d], _ =>
    have key : ∀ i, i < 4 → ∃ y : Reg, ([a, b, c, d] : List Value)[i]? = some (u32v y) := by
      intro i hi
      have hxi : i < xs.length := by omega
      have h1 := hel i hi
      rw [Nat.mul_one, List.getElem?_eq_getElem hxi] at h1
      obtain ⟨k, e1, e2, hw⟩ := DataW.trod_int Tryz.underlying22 h1
      refine ⟨BitVec.ofInt 32 k, ?_⟩
      have h4 : ((([a, b, c, d] : List Value).drop i).take 1)[0]? = some (Value.int .u32 k) := by rw [e1]; rfl
      rw [List.getElem?_take, if_pos (by omega), List.getElem?_drop, Nat.add_zero] at h4
      rw [h4, u32v_of hw]
    obtain ⟨y0, k0⟩ := key 0 (by omega)
    obtain ⟨y1, k1⟩ := key 1 (by omega)
    obtain ⟨y2, k2⟩ := key 2 (by omega)
    obtain ⟨y3, k3⟩ := key 3 (by omega)
    refine ⟨⟨y0, y1, y2, y3⟩, ?_⟩
    simp at k0 k1 k2 k3
    rw [k0, k1, k2, k3]
theorem open_u64 {fuel : Nat} {cs : List Value} {x : DataW H × List MemPlace} (h : DataW.trod enc Tryz.prog w base spare held fuel 25 cs = some x) : ∃ n : Nx, cs = [u64v n] := by
  obtain ⟨k, e1, e2, hw⟩ := DataW.trod_int Tryz.underlying25 h
  exact ⟨BitVec.ofInt 64 k, by rw [e1, u64v_of hw]⟩
theorem cells27 : Tryz.prog.cellsOf 27 = 5 := by kernel_rfl
theorem cells25 : Tryz.prog.cellsOf 25 = 1 := by kernel_rfl
theorem cells28 : Tryz.prog.cellsOf 29 = 1 := by kernel_rfl
theorem open_ring {r : Reach} {b0 : Nat} {v : Value} {d : DataW H} {p : List MemPlace} (hv : Value.okWide Tryz.prog w r b0 27 v) (h : DataW.Trod enc Tryz.prog w base spare held 27 v d p) : ∃ (s : St) (n : Nx), v = rgV s n := by
  obtain ⟨cs, rfl, hsz⟩ := okWide_struct Tryz.underlying27 hv
  rw [cells27] at hsz
  obtain ⟨fuel, hf⟩ := h
  obtain ⟨y0, y1, n, _, hl, h0, h1⟩ := trod_struct2 Tryz.underlying27 hf
  have hcs : (Value.agg cs).cells = cs := rfl
  rw [hcs] at h0 h1
  simp only [cells24, cells25] at h0 h1
  obtain ⟨s, es⟩ := open_st h0
  obtain ⟨k, ek⟩ := open_u64 h1
  refine ⟨s, k, ?_⟩
  have hll : cs.toList.length = 5 := by simpa using hsz
  have : cs.toList = [u32v s.a, u32v s.b, u32v s.c, u32v s.d, u64v k] := by
    rw [← List.take_append_drop 4 cs.toList]
    rw [List.drop_zero] at es
    rw [List.take_of_length_le (by simp; omega)] at ek
    rw [es, ek]; rfl
  show Value.agg cs = .agg _
  rw [← Array.toArray_toList (xs := cs), this]
end
end Go.Proofs.YthkccpemgmpadaaGreatDoor

namespace Go.Proofs.YthkccpemgmpadaaGreatDoor
set_option maxRecDepth 100000
open Go.RowKit
def Bss (hi : Nat) (w : World) (v : Value) (l : List (List UInt8)) : Prop :=
  ∃ A c, v = .slice A l.length c ∧ ∀ i x, l[i]? = some x → ∃ b off Ai ci, A = some ⟨b, off, none⟩ ∧ b < hi ∧ w.cell? ⟨b, off + i, none⟩ = some (.slice Ai x.length ci) ∧ Bs 0 hi w (.slice Ai x.length ci) x
end Go.Proofs.YthkccpemgmpadaaGreatDoor

namespace Go.Proofs.YthkccpemgmpadaaGreatDoor
set_option maxRecDepth 100000
open Go.RowKit Go.ChangeShapes Go.WideShapes Go.ChangeAt Go.Deep Go.Joins
section
variable {H : Type} {enc : TypeId × Value → H} {w : World} {base : Nat} {spare : Nat → Bool} {held : Bool}
end
end Go.Proofs.YthkccpemgmpadaaGreatDoor

namespace Go.Proofs.YthkccpemgmpadaaGreatDoor
set_option maxRecDepth 100000
open Go.RowKit
set_option maxHeartbeats 4000000 in
theorem TagR_good (s : St) (n : Nx) (v : Value) (t : List UInt8) (w : World) (h : Bs 0 w.heap.size w v t) (hk : t.length ≤ 65536) :
    Calls Tryz.prog 48 #[stV s, u64v n, v] w fun e w' => e = .returned (.tuple #[stV (tagF s n t), .int .i64 0]) ∧ Below w.heap.size w w' := by
  obtain ⟨i0, hi0, hz0, hz1, hz2⟩ := info_parts info5
  have X0 : Fx w ((w.alloc (.cells (stC s) 24)).alloc (.cells zC 24)) [(w.heap.size, 24, stC s), (w.heap.size + 1, 24, zC)] [] [] := ((Fx.nil w).newB w.heap.size rfl (stC s) 24).newB (w.heap.size + 1) (by simp) zC 24
  have hk1 : ¬ (65536 : Int) < (t.length : Int) := by omega
  have hl8 := eight_len n
  have hq := fun va W (h' : Bs 0 W.heap.size W va (eight n ++ [2] ++ t)) => AbsorbR_good 0 s va (eight n ++ [2] ++ t) W h' (by simp [hl8]; omega)
  have hF : tagF s n t = absorbF s (eight n ++ [2] ++ t) := by rw [List.append_assoc]; rfl
  rw [← hF] at hq
  have hl9 : (eight n ++ [2]).length = 8 + 1 := by rw [List.length_append, hl8]; rfl
  have hl10 : (eight n ++ [2] ++ t).length = 9 + t.length := by rw [List.length_append, hl9]
  have ho2 := u8s_one [2]
  have ho3 := u8s_one t
  have b3 : 8 + 1 ≤ maxLen := by simp only [maxLen]; omega
  have b4 : (8 + 1) * 1 ≤ 140737488355328 := by omega
  have b5 : 9 + t.length ≤ maxLen := by simp only [maxLen]; omega
  have b6 : (9 + t.length) * 1 ≤ 140737488355328 := by omega
  have hml : (t.map u8v).length = t.length * 1 := by simp
  generalize tagF s n t = S' at *
  obtain ⟨A, c, rfl⟩ := h.form
  have hsrc' := fun W (hb : Below w.heap.size w W) => (show SrcOk W A t.length (t.map u8v) from (h.to hb).src.2)
  generalize t.length = m at *
  replace X0 := hide X0
  replace hq := hide hq
  replace hl8 := hide hl8
  replace hl9 := hide hl9
  replace hl10 := hide hl10
  replace ho2 := hide ho2
  replace ho3 := hide ho3
  replace b3 := hide b3
  replace b4 := hide b4
  replace b5 := hide b5
  replace b6 := hide b6
  replace hsrc' := hide hsrc'
  replace hml := hide hml
  clear h hF hk
  go_enter Tryz.func48, Tryz.ntmps48
  go_upto_region 3 with (fail)
  generalize hW : World.alloc (World.alloc w _) _ = W at *
  clear hW
  have l0 : w.heap.size < W.heap.size := ((unhide X0).get 0 rfl).lt
  have m0 : w.heap.size + 1 < W.heap.size := ((unhide X0).get 1 rfl).lt
  have c00 : W.cell? ⟨w.heap.size, 0, none⟩ = some (u32v s.a) := ((unhide X0).get 0 rfl).cell 0
  have c01 : W.cell? ⟨w.heap.size, 1, none⟩ = some (u32v s.b) := ((unhide X0).get 0 rfl).cell 1
  have c02 : W.cell? ⟨w.heap.size, 2, none⟩ = some (u32v s.c) := ((unhide X0).get 0 rfl).cell 2
  have c03 : W.cell? ⟨w.heap.size, 3, none⟩ = some (u32v s.d) := ((unhide X0).get 0 rfl).cell 3
  go_region_held3 (fun W => W.cell? ⟨w.heap.size, 0, none⟩ = some (u32v s.a) ∧ W.cell? ⟨w.heap.size, 1, none⟩ = some (u32v s.b) ∧ W.cell? ⟨w.heap.size, 2, none⟩ = some (u32v s.c) ∧ W.cell? ⟨w.heap.size, 3, none⟩ = some (u32v s.d)) (first | exact ⟨by with_reducible assumption, by with_reducible assumption, by with_reducible assumption, by with_reducible assumption⟩ | exact ⟨by go_simp, by go_simp, by go_simp, by go_simp⟩)
    (first
    | (go_at_call 66; refine (eightR_any n W.drew).mono ?_; rintro e w5 ⟨v5, rfl, o5, hb5⟩
       obtain ⟨A5, c5, rfl⟩ : ∃ A c, v5 = .slice A 8 c := by obtain ⟨A, c, e⟩ := o5.form; exact ⟨A, c, by rw [e, unhide hl8]⟩
       have o5' : w5.ownsRow (w.heap.size + 2) 5 1 (.slice A5 8 c5) 8 ((eight n).map u8v) := own_n (ownsRow_mono (base' := w.heap.size + 2) o5 (Nat.succ_le_of_lt m0)) (unhide hl8)
       have X5 : Fx w w5 [(w.heap.size, 24, stC s), (w.heap.size + 1, 24, zC)] [] [] := Fx.call ((unhide X0).drew) hb5
       have l5 : w.heap.size < w5.heap.size := (X5.get 0 rfl).lt
       have m5 : w.heap.size + 1 < w5.heap.size := (X5.get 1 rfl).lt
       have c50 : w5.cell? ⟨w.heap.size, 0, none⟩ = some (u32v s.a) := (X5.get 0 rfl).cell 0
       have c51 : w5.cell? ⟨w.heap.size, 1, none⟩ = some (u32v s.b) := (X5.get 0 rfl).cell 1
       have c52 : w5.cell? ⟨w.heap.size, 2, none⟩ = some (u32v s.c) := (X5.get 0 rfl).cell 2
       have c53 : w5.cell? ⟨w.heap.size, 3, none⟩ = some (u32v s.d) := (X5.get 0 rfl).cell 3
       replace X5 := hide X5; replace o5' := hide o5'
       clear o5 hb5)
    | (go_at_call 66; refine (eightR_any n (W.drew.alloc (.cells #[u8v 2] 5))).mono ?_; rintro e w5 ⟨v5, rfl, o5, hb5⟩
       obtain ⟨A5, c5, rfl⟩ : ∃ A c, v5 = .slice A 8 c := by obtain ⟨A, c, e⟩ := o5.form; exact ⟨A, c, by rw [e, unhide hl8]⟩
       have o5' : w5.ownsRow (w.heap.size + 2) 5 1 (.slice A5 8 c5) 8 ((eight n).map u8v) := own_n (ownsRow_mono (base' := w.heap.size + 2) o5 (sz_alloc (Nat.succ_le_of_lt m0) (.cells #[u8v 2] 5))) (unhide hl8)
       have X5 : Fx w w5 [(w.heap.size, 24, stC s), (w.heap.size + 1, 24, zC)] [] [] := Fx.call (((unhide X0).drew.alloc (.cells #[u8v 2] 5))) hb5
       have R5 : Blk w5 W.heap.size 5 #[u8v 2] := Blk.call (V := (W.drew.alloc (.cells #[u8v 2] 5))) (Blk.new (w := W.drew) (t := 5) (cs := #[u8v 2]) rfl) hb5
       replace R5 := hide R5
       have l5 : w.heap.size < w5.heap.size := (X5.get 0 rfl).lt
       have m5 : w.heap.size + 1 < w5.heap.size := (X5.get 1 rfl).lt
       have c50 : w5.cell? ⟨w.heap.size, 0, none⟩ = some (u32v s.a) := (X5.get 0 rfl).cell 0
       have c51 : w5.cell? ⟨w.heap.size, 1, none⟩ = some (u32v s.b) := (X5.get 0 rfl).cell 1
       have c52 : w5.cell? ⟨w.heap.size, 2, none⟩ = some (u32v s.c) := (X5.get 0 rfl).cell 2
       have c53 : w5.cell? ⟨w.heap.size, 3, none⟩ = some (u32v s.d) := (X5.get 0 rfl).cell 3
       replace X5 := hide X5; replace o5' := hide o5'
       clear o5 hb5)
    | (refine step_app rfl (.tmp 14) (.tmp 15) 29 rfl (w.heap.size + 2) 5 i0 _ 1 1 Tryz.underlying29 hi0 hz0 hz1 hz2 rfl (Nat.succ_pos _) _ 8 ((eight n).map u8v) rfl (unhide o5') _ 1 1 (([2] : List UInt8).map u8v) rfl rfl (one_row (unhide R5)) (unhide ho2) (unhide b3) (unhide b4) (Nat.succ_le_of_lt m5) ?_
       intro v6 w6 o6 hg6
       have X6 : Fx w w6 [(w.heap.size, 24, stC s), (w.heap.size + 1, 24, zC)] [] [] := Fx.grown (unhide X5) (unhide o5') hg6 (Nat.le_add_right _ _) (by simp)
       rw [← List.map_append] at o6
       obtain ⟨A6, c6, rfl⟩ : ∃ A c, v6 = .slice A 9 c := ownsRow_form o6
       obtain ⟨xs6, hxs6⟩ : ∃ xs6, xs6 = (eight n ++ [2]).map u8v := ⟨_, rfl⟩
       have o6' : w6.ownsRow (w.heap.size + 2) 5 1 (.slice A6 9 c6) 9 xs6 := by rw [hxs6]; exact o6
       replace hxs6 := hide hxs6
       have l6 : w.heap.size < w6.heap.size := (X6.get 0 rfl).lt
       have m6 : w.heap.size + 1 < w6.heap.size := (X6.get 1 rfl).lt
       have c60 : w6.cell? ⟨w.heap.size, 0, none⟩ = some (u32v s.a) := (X6.get 0 rfl).cell 0
       have c61 : w6.cell? ⟨w.heap.size, 1, none⟩ = some (u32v s.b) := (X6.get 0 rfl).cell 1
       have c62 : w6.cell? ⟨w.heap.size, 2, none⟩ = some (u32v s.c) := (X6.get 0 rfl).cell 2
       have c63 : w6.cell? ⟨w.heap.size, 3, none⟩ = some (u32v s.d) := (X6.get 0 rfl).cell 3
       replace X6 := hide X6; replace o6' := hide o6'
       clear hg6 o6)
    | (refine step_app rfl (.tmp 14) (.tmp 15) 29 rfl (w.heap.size + 2) 5 i0 _ 1 1 Tryz.underlying29 hi0 hz0 hz1 hz2 rfl (Nat.succ_pos _) _ 8 ((eight n).map u8v) rfl (World.ownsRow.alloc (unhide o5') (.cells #[u8v 2] 5)) _ 1 1 (([2] : List UInt8).map u8v) rfl rfl (one_src w5 2) (unhide ho2) (unhide b3) (unhide b4) (sz_alloc (Nat.succ_le_of_lt m5) (.cells #[u8v 2] 5)) ?_
       intro v6 w6 o6 hg6
       have X6 : Fx w w6 [(w.heap.size, 24, stC s), (w.heap.size + 1, 24, zC)] [] [] := Fx.grown ((unhide X5).alloc (.cells #[u8v 2] 5)) (World.ownsRow.alloc (unhide o5') (.cells #[u8v 2] 5)) hg6 (Nat.le_add_right _ _) (by simp)
       rw [← List.map_append] at o6
       obtain ⟨A6, c6, rfl⟩ : ∃ A c, v6 = .slice A 9 c := ownsRow_form o6
       obtain ⟨xs6, hxs6⟩ : ∃ xs6, xs6 = (eight n ++ [2]).map u8v := ⟨_, rfl⟩
       have o6' : w6.ownsRow (w.heap.size + 2) 5 1 (.slice A6 9 c6) 9 xs6 := by rw [hxs6]; exact o6
       replace hxs6 := hide hxs6
       have l6 : w.heap.size < w6.heap.size := (X6.get 0 rfl).lt
       have m6 : w.heap.size + 1 < w6.heap.size := (X6.get 1 rfl).lt
       have c60 : w6.cell? ⟨w.heap.size, 0, none⟩ = some (u32v s.a) := (X6.get 0 rfl).cell 0
       have c61 : w6.cell? ⟨w.heap.size, 1, none⟩ = some (u32v s.b) := (X6.get 0 rfl).cell 1
       have c62 : w6.cell? ⟨w.heap.size, 2, none⟩ = some (u32v s.c) := (X6.get 0 rfl).cell 2
       have c63 : w6.cell? ⟨w.heap.size, 3, none⟩ = some (u32v s.d) := (X6.get 0 rfl).cell 3
       replace X6 := hide X6; replace o6' := hide o6'
       clear hg6 o6)
    | (refine step_app rfl (.tmp 16) (.tmp 17) 29 rfl (w.heap.size + 2) 5 i0 _ 1 1 Tryz.underlying29 hi0 hz0 hz1 hz2 rfl (Nat.succ_pos _) _ 9 xs6 rfl (unhide o6') A m c (t.map u8v) rfl (unhide hml) (unhide hsrc' w6 (unhide X6).bl) (unhide ho3) (unhide b5) (unhide b6) (Nat.succ_le_of_lt m6) ?_
       intro v7 w7 o7 hg7
       have X7 : Fx w w7 [(w.heap.size, 24, stC s), (w.heap.size + 1, 24, zC)] [] [] := Fx.grown (unhide X6) (unhide o6') hg7 (Nat.le_add_right _ _) (by simp)
       rw [unhide hxs6, ← List.map_append] at o7
       have o7' : OwnB w7 (w.heap.size + 2) v7 (eight n ++ [2] ++ t) := by unfold OwnB; rw [unhide hl10]; exact o7
       have y7 : Bs 0 w7.heap.size w7 v7 (eight n ++ [2] ++ t) := Bs.of_own0 o7'
       obtain ⟨A7, c7, rfl⟩ := ownsRow_form o7
       have l7 : w.heap.size < w7.heap.size := (X7.get 0 rfl).lt
       have m7 : w.heap.size + 1 < w7.heap.size := (X7.get 1 rfl).lt
       have c70 : w7.cell? ⟨w.heap.size, 0, none⟩ = some (u32v s.a) := (X7.get 0 rfl).cell 0
       have c71 : w7.cell? ⟨w.heap.size, 1, none⟩ = some (u32v s.b) := (X7.get 0 rfl).cell 1
       have c72 : w7.cell? ⟨w.heap.size, 2, none⟩ = some (u32v s.c) := (X7.get 0 rfl).cell 2
       have c73 : w7.cell? ⟨w.heap.size, 3, none⟩ = some (u32v s.d) := (X7.get 0 rfl).cell 3
       replace X7 := hide X7; replace y7 := hide y7
       clear hg7 o7 o7')
    | (go_at_call 77; refine (unhide hq _ w7 (unhide y7)).mono ?_; rintro e w8 ⟨rfl, hb8⟩
       have X8 : Fx w w8 [(w.heap.size, 24, stC s), (w.heap.size + 1, 24, zC)] [] [] := Fx.call (unhide X7) hb8
       have l8 : w.heap.size < w8.heap.size := (X8.get 0 rfl).lt
       have m8 : w.heap.size + 1 < w8.heap.size := (X8.get 1 rfl).lt
       have c80 : w8.cell? ⟨w.heap.size, 0, none⟩ = some (u32v s.a) := (X8.get 0 rfl).cell 0
       have c81 : w8.cell? ⟨w.heap.size, 1, none⟩ = some (u32v s.b) := (X8.get 0 rfl).cell 1
       have c82 : w8.cell? ⟨w.heap.size, 2, none⟩ = some (u32v s.c) := (X8.get 0 rfl).cell 2
       have c83 : w8.cell? ⟨w.heap.size, 3, none⟩ = some (u32v s.d) := (X8.get 0 rfl).cell 3
       have z80 : w8.cell? ⟨w.heap.size + 1, 0, none⟩ = some (.int .u32 0) := (X8.get 1 rfl).cell 0
       have fz80 : w8.frozen? ⟨w.heap.size + 1, 0, none⟩ = false := (X8.get 1 rfl).frozen 0
       have z81 : w8.cell? ⟨w.heap.size + 1, 1, none⟩ = some (.int .u32 0) := (X8.get 1 rfl).cell 1
       have fz81 : w8.frozen? ⟨w.heap.size + 1, 1, none⟩ = false := (X8.get 1 rfl).frozen 1
       have z82 : w8.cell? ⟨w.heap.size + 1, 2, none⟩ = some (.int .u32 0) := (X8.get 1 rfl).cell 2
       have fz82 : w8.frozen? ⟨w.heap.size + 1, 2, none⟩ = false := (X8.get 1 rfl).frozen 2
       have z83 : w8.cell? ⟨w.heap.size + 1, 3, none⟩ = some (.int .u32 0) := (X8.get 1 rfl).cell 3
       have fz83 : w8.frozen? ⟨w.heap.size + 1, 3, none⟩ = false := (X8.get 1 rfl).frozen 3
       replace X8 := hide X8
       clear hb8))
  all_goals
    have Z8 : Blk _ (w.heap.size + 1) 24 (stC S') := Blk.set4 (x := u32v S'.a) (y := u32v S'.b) (z := u32v S'.c) (u := u32v S'.d) ((unhide X8).get 1 rfl)
    have bb8 : Below w.heap.size w _ := below_set4 (g := w.heap.size + 1) (x := u32v S'.a) (y := u32v S'.b) (z := u32v S'.c) (u := u32v S'.d) (unhide X8).bl (by omega)
    replace Z8 := hide Z8; replace bb8 := hide bb8
    go_wp2_with (fail)
    exact ret_st2 rfl (w.heap.size + 1) S' (.int .i64 0) rfl rfl (unhide Z8) rfl ⟨rfl, unhide bb8⟩
end Go.Proofs.YthkccpemgmpadaaGreatDoor

namespace Go.Proofs.YthkccpemgmpadaaGreatDoor
set_option maxRecDepth 100000
open Go.RowKit
theorem Bs.atR {lo hi : Nat} {w : World} {A : Option Addr} {n c k : Nat} {l : List UInt8} {x : UInt8} (h : Bs lo hi w (.slice A n c) l) (hk : l[k]? = some x) :
    ∃ b off, A = some ⟨b, off, none⟩ ∧ b < hi ∧ w.cell? ⟨b, off + k, none⟩ = some (u8v x) := by
  obtain ⟨hi', rfl⟩ := List.getElem?_eq_some_iff.1 hk
  obtain ⟨A', c', e, _, _, h3⟩ := h
  injection e with e1
  obtain ⟨b, off, rfl, _, hb, hc⟩ := h3 (by omega)
  exact ⟨b, off, e1, hb, hc k hi'⟩
set_option maxHeartbeats 2000000 in
theorem hidR_any (s : St) (n : Nx) (v : Value) (t : List UInt8) (w : World) (h : Bs 0 w.heap.size w v t) (hk : t.length ≤ 65536) :
    Calls Tryz.prog 49 #[stV s, u64v n, v] w fun e w' => ∃ A c, e = .returned (.slice A t.length c) ∧ OwnB w' w.heap.size (.slice A t.length c) (hidF s n t) ∧ Below w.heap.size w w' := by
  obtain ⟨i0, hi0, hz0, hz1, hz2⟩ := info_parts info5
  have X0 : Fx w (w.alloc (.cells (stC s) 24)) [(w.heap.size, 24, stC s)] [] [] := (Fx.nil w).newB w.heap.size rfl (stC s) 24
  have hT := fun W => StreamR_good s n t.length W hk
  have hSl := stream_len s n t.length
  have hHl := hid_len s n t
  have hg : ∀ i, i < t.length → ∃ x y, t[i]? = some x ∧ (streamF s n t.length)[i]? = some y ∧ (hidF s n t).take (i + 1) = (hidF s n t).take i ++ [x ^^^ y] := fun i hi => by
    have e : (hidF s n t)[i]? = some (t[i] ^^^ (streamF s n t.length)[i]'(by rw [stream_len]; omega)) := hid_get s n t 0 i hi
    refine ⟨_, _, List.getElem?_eq_getElem hi, List.getElem?_eq_getElem (by rw [stream_len]; omega), ?_⟩
    rw [List.take_add_one, e]
    rfl
  generalize streamF s n t.length = S at *
  generalize hidF s n t = H at *
  obtain ⟨A, c, rfl⟩ := h.form
  obtain ⟨m, hm⟩ : ∃ m, m = t.length := ⟨_, rfl⟩
  have hm0 : m ≤ 65536 := by omega
  rw [← hm] at hT hSl hHl h hg ⊢
  have ho := fun x => u8s_one [x]
  replace X0 := hide X0; replace hT := hide hT; replace hSl := hide hSl; replace hHl := hide hHl; replace hg := hide hg; replace h := hide h; replace ho := hide ho
  clear hm hk
  go_enter Tryz.func49, Tryz.ntmps49
  go_upto_region 1 with (fail)
  generalize hW : World.alloc w _ = W at *
  clear hW
  have c0 : W.cell? ⟨w.heap.size, 0, none⟩ = some (u32v s.a) := ((unhide X0).get 0 rfl).cell 0
  have c1 : W.cell? ⟨w.heap.size, 1, none⟩ = some (u32v s.b) := ((unhide X0).get 0 rfl).cell 1
  have c2 : W.cell? ⟨w.heap.size, 2, none⟩ = some (u32v s.c) := ((unhide X0).get 0 rfl).cell 2
  have c3 : W.cell? ⟨w.heap.size, 3, none⟩ = some (u32v s.d) := ((unhide X0).get 0 rfl).cell 3
  go_wp2_with (first
    | (go_at_call 78; refine (unhide hT _).mono ?_; rintro e w2 ⟨A2, c2', rfl, o2, hb2⟩
       have b2 : Below w.heap.size w w2 := bl_call (unhide X0).bl hb2
       have t2 : Bs 0 w2.heap.size w2 (.slice A m c) t := (unhide h).to b2
       replace b2 := hide b2; replace o2 := hide o2; replace t2 := hide t2
       clear hb2)
    | fail)
  have hst : w2.ownsRow w2.heap.size 5 1 (.slice none 0 0) 0 ((H.take 0).map u8v) := World.ownsRow_nil _ _ _ _
  replace hst := hide hst
  go_loopw [9, 10, 21] (fun r _ i wr => ∃ (k : Nat) (A9 : Option Addr) (c9 : Nat), k ≤ m ∧ i = .int .i64 k ∧ r = .slice A9 k c9 ∧ Hid (wr.ownsRow w2.heap.size 5 1 (.slice A9 k c9) k ((H.take k).map u8v)) ∧ Hid (Below w2.heap.size w2 wr)) (fun _ _ i _ => m - (intOf i).toNat)
  case atStart => exact ⟨0, none, 0, by omega, rfl, rfl, hst, hide (Below.refl _ _)⟩
  case round =>
    obtain ⟨k, A9, c9, hkm, rfl, rfl, o, b⟩ := hrel
    by_cases hlt : k < m
    · have y1 : (k : Int) < (m : Int) := by omega
      have y0 : (0 : Int) ≤ (k : Int) := by omega
      obtain ⟨x, y, hx, hy, hH⟩ := unhide hg k hlt
      obtain ⟨p1, q1, rfl, lp1, e1⟩ := Bs.atR ((unhide t2).below (unhide b) (Nat.le_refl _)) hx
      obtain ⟨p2, q2, rfl, lp2, e2⟩ := Bs.atR ((unhide o2).below (unhide b) (Nat.le_refl _)) hy
      have lw := (unhide b).size
      have lp1' : p1 < wr.heap.size := by omega
      have lp2' : p2 < wr.heap.size := by omega
      have b3 : k + 1 ≤ maxLen := by simp only [maxLen]; omega
      have b4 : (k + 1) * 1 ≤ 140737488355328 := by omega
      obtain ⟨z, hz⟩ : ∃ z, z = x ^^^ y := ⟨_, rfl⟩
      have hxz : bits .xor .u8 (n8 x) (n8 y) = n8 z := by rw [hz]; exact q8_xor x y
      rw [← hz] at hH
      replace hH := hide hH; replace b3 := hide b3; replace b4 := hide b4; replace lw := hide lw
      clear hx hy hz
      go_upto_region 6 with (fail)
      go_region_held3 (fun W => W.cell? ⟨p1, q1 + k, none⟩ = some (u8v x) ∧ W.cell? ⟨p2, q2 + k, none⟩ = some (u8v y)) (first | exact ⟨by with_reducible assumption, by with_reducible assumption⟩ | exact ⟨by go_simp, by go_simp⟩)
        (first
        | (refine step_app rfl (.tmp 24) (.tmp 34) 29 rfl w2.heap.size 5 i0 _ 1 1 Tryz.underlying29 hi0 hz0 hz1 hz2 rfl (Nat.succ_pos _) _ k ((H.take k).map u8v) rfl (World.ownsRow.alloc (own_drew (unhide o)) (.cells #[u8v z] 5)) _ 1 1 (([z] : List UInt8).map u8v) rfl rfl (one_src wr.drew z) (unhide ho _) (unhide b3) (unhide b4) (sz_alloc (w := wr.drew) (unhide lw) (.cells #[u8v z] 5)) ?_
           intro v4 w4 o4 hg4
           have hb4 : Below w2.heap.size w2 w4 := (Below.drew (unhide b)).trans (bl_app (w := wr.drew) (unhide lw) (own_drew (unhide o)) hg4)
           rw [← List.map_append, ← unhide hH] at o4
           obtain ⟨A4, c4, rfl⟩ := ownsRow_form o4
           have e14 : w4.cell? ⟨p1, q1 + k, none⟩ = some (u8v x) := (hb4.cell (p := ⟨p1, q1 + k, none⟩) lp1).trans (((unhide b).cell (p := ⟨p1, q1 + k, none⟩) lp1).symm.trans e1)
           have e24 : w4.cell? ⟨p2, q2 + k, none⟩ = some (u8v y) := (hb4.cell (p := ⟨p2, q2 + k, none⟩) lp2).trans (((unhide b).cell (p := ⟨p2, q2 + k, none⟩) lp2).symm.trans e2)
           replace o4 := hide o4; replace hb4 := hide hb4
           clear hg4))
      go_wp2_with (fail)
      go_roundw
      case rel => exact ⟨k + 1, A4, c4, by omega, by go_num, rfl, o4, hb4⟩
      case measure => simp [intOf]; omega
    · obtain rfl : k = m := by omega
      go_wp2_with (fail)
      go_ret
      refine ⟨A9, c9, rfl, ?_, (unhide b2).trans ((unhide b).mono (unhide b2).size)⟩
      have := unhide o
      rw [List.take_of_length_le (by rw [unhide hHl]; omega)] at this
      unfold OwnB
      rw [unhide hHl]
      exact ownsRow_mono this (unhide b2).size
end Go.Proofs.YthkccpemgmpadaaGreatDoor

namespace Go.Proofs.YthkccpemgmpadaaGreatDoor
set_option maxRecDepth 100000
open Go.RowKit
set_option maxHeartbeats 1000000 in
theorem SealR_full (lo : Nat) (s : St) (v : Value) (l : List UInt8) (w : World) (h : Bs lo w.heap.size w v l) (hl : l.length ≤ 65536) :
    Calls Tryz.prog 33 #[rgV s 18446744073709551615#64, v] w fun e w' => e = .returned (.tuple #[.agg zBx, .agg zRg, .int .i64 6]) ∧ Below w.heap.size w w' := by
  obtain ⟨A, c, rfl⟩ := h.form
  have h1 : ¬ (65536 : Int) < (l.length : Int) := by omega
  have hf := full_eq
  generalize (18446744073709551615#64 : Nx) = n at *
  have X0 : Fx w (((w.alloc (.cells (rgC s n) 27)).alloc (.cells zBx 55)).alloc (.cells zRg 27)) [(w.heap.size, 27, rgC s n), (w.heap.size + 1, 55, zBx), (w.heap.size + 1 + 1, 27, zRg)] [] [] := (((Fx.nil w).newB w.heap.size rfl (rgC s n) 27).newB (w.heap.size + 1) (by simp) zBx 55).newB (w.heap.size + 1 + 1) (by simp) zRg 27
  replace X0 := hide X0
  clear h hl
  go_enter Tryz.func33, Tryz.ntmps33
  go_upto_region 1 with (fail)
  generalize hW : World.alloc (World.alloc (World.alloc w _) _) _ = W at *
  clear hW
  have c4 : W.cell? ⟨w.heap.size, 4, none⟩ = some (u64v n) := ((unhide X0).get 0 rfl).cell 4
  have B1 := (unhide X0).get 1 rfl
  have B2 := (unhide X0).get 2 rfl
  have hb := (unhide X0).bl
  have B2' : Blk (W.setRow (w.heap.size + 1) zBx) (w.heap.size + 1 + 1) 27 zRg := B2.row_other zBx (by omega)
  have F1 : Blk ((W.setRow (w.heap.size + 1) zBx).setRow (w.heap.size + 1 + 1) zRg) (w.heap.size + 1) 55 zBx := (B1.row zBx).row_other zRg (by omega)
  have F2 : Blk ((W.setRow (w.heap.size + 1) zBx).setRow (w.heap.size + 1 + 1) zRg) (w.heap.size + 1 + 1) 27 zRg := B2'.row zRg
  replace B1 := hide B1; replace B2' := hide B2'; replace F1 := hide F1; replace F2 := hide F2; replace hb := hide hb
  clear B2
  go_wp2_with (first
    | (refine wpList_store_row rfl 55 (.tmp 4) (.tmp 18) rfl (w.heap.size + 1) zBx rfl rfl 55 zBx (unhide B1) size30 rfl zbx_one ?_)
    | (refine wpList_store_row rfl 27 (.tmp 5) (.tmp 19) rfl (w.heap.size + 1 + 1) zRg rfl rfl 27 zRg (unhide B2') size27 rfl zrg_one ?_)
    | fail)
  exact ret_br3 rfl (w.heap.size + 1) (w.heap.size + 1 + 1) zBx zRg (.int .i64 6) rfl rfl rfl rfl rfl (unhide F1) (unhide F2) rfl ⟨rfl, bl_row2 (unhide hb) _ _ (by omega) (by omega)⟩
section
attribute [local go_sem] q_add1 wrap_add1
set_option maxHeartbeats 4000000 in
theorem SealR_good (s : St) (n : Nx) (v : Value) (l : List UInt8) (w : World) (h : Bs 0 w.heap.size w v l) (hl : l.length ≤ 65536) (hn : n ≠ 18446744073709551615#64) :
    Calls Tryz.prog 33 #[rgV s n, v] w fun e w' => ∃ A c, e = .returned (.tuple #[bxV n (.slice A l.length c) (tagF s n (hidF s n l)), rgV s (n + 1#64), .int .i64 0]) ∧ OwnB w' w.heap.size (.slice A l.length c) (hidF s n l) ∧ Below w.heap.size w w' := by
  have hlen := hid_len s n l
  have hT := fun W (hb : Below w.heap.size w W) => hidR_any s n v l W (h.to hb) hl
  have hG := fun v' W (h' : Bs 0 W.heap.size W v' (hidF s n l)) => TagR_good s n v' (hidF s n l) W h' (by omega)
  obtain ⟨A, c, rfl⟩ := h.form
  generalize hidF s n l = H at *
  generalize tagF s n H = T at *
  obtain ⟨m, hm⟩ : ∃ m, m = l.length := ⟨_, rfl⟩
  rw [← hm] at hlen hl hT ⊢
  have h1 : ¬ (65536 : Int) < (m : Int) := by omega
  have hf := full_ne hn
  have X0 : Fx w (((w.alloc (.cells (rgC s n) 27)).alloc (.cells zBx 55)).alloc (.cells zRg 27)) [(w.heap.size, 27, rgC s n), (w.heap.size + 1, 55, zBx), (w.heap.size + 1 + 1, 27, zRg)] [] [] := (((Fx.nil w).newB w.heap.size rfl (rgC s n) 27).newB (w.heap.size + 1) (by simp) zBx 55).newB (w.heap.size + 1 + 1) (by simp) zRg 27
  replace X0 := hide X0; replace hT := hide hT; replace hG := hide hG; replace hlen := hide hlen
  clear h hl hn hm
  go_enter Tryz.func33, Tryz.ntmps33
  go_upto_region 1 with (fail)
  generalize hW : World.alloc (World.alloc (World.alloc w _) _) _ = W at *
  clear hW
  have c0 : W.cell? ⟨w.heap.size, 0, none⟩ = some (u32v s.a) := ((unhide X0).get 0 rfl).cell 0
  have c1 : W.cell? ⟨w.heap.size, 1, none⟩ = some (u32v s.b) := ((unhide X0).get 0 rfl).cell 1
  have c2 : W.cell? ⟨w.heap.size, 2, none⟩ = some (u32v s.c) := ((unhide X0).get 0 rfl).cell 2
  have c3 : W.cell? ⟨w.heap.size, 3, none⟩ = some (u32v s.d) := ((unhide X0).get 0 rfl).cell 3
  have c4 : W.cell? ⟨w.heap.size, 4, none⟩ = some (u64v n) := ((unhide X0).get 0 rfl).cell 4
  go_upto_region 7 with (first
    | (go_at_call 49; refine (unhide hT _ (unhide X0).bl).mono ?_; rintro e w2 ⟨A2, c2', rfl, o2, hb2⟩
       have X2 : Fx w w2 [(w.heap.size, 27, rgC s n), (w.heap.size + 1, 55, zBx), (w.heap.size + 1 + 1, 27, zRg)] [(w.heap.size, .slice A2 m c2', H)] [] := Fx.addR ((unhide X0).call hb2) (ownsRow_mono o2 (unhide X0).bl.size) ((unhide X0).call hb2).bl.size
       have d0 : w2.cell? ⟨w.heap.size, 0, none⟩ = some (u32v s.a) := (X2.get 0 rfl).cell 0
       have d1 : w2.cell? ⟨w.heap.size, 1, none⟩ = some (u32v s.b) := (X2.get 0 rfl).cell 1
       have d2 : w2.cell? ⟨w.heap.size, 2, none⟩ = some (u32v s.c) := (X2.get 0 rfl).cell 2
       have d3 : w2.cell? ⟨w.heap.size, 3, none⟩ = some (u32v s.d) := (X2.get 0 rfl).cell 3
       have d4 : w2.cell? ⟨w.heap.size, 4, none⟩ = some (u64v n) := (X2.get 0 rfl).cell 4
       replace X2 := hide X2
       clear o2 hb2)
    | (go_at_call 48; refine (unhide hG _ _ (Bs.of_own0 ((unhide X2).own 0 rfl))).mono ?_; rintro e w3 ⟨rfl, hb3⟩
       have l3 : w.heap.size + 1 + 1 < w3.heap.size := (((unhide X2).call hb3).get 2 rfl).lt
       have X3 : Fx w (w3.alloc (.cells (stC T) 24)) [(w.heap.size, 27, rgC s n), (w.heap.size + 1, 55, zBx), (w.heap.size + 1 + 1, 27, zRg), (w3.heap.size, 24, stC T)] [(w.heap.size, .slice A2 m c2', H)] [] := ((unhide X2).call hb3).newB w3.heap.size rfl (stC T) 24
       replace X3 := hide X3
       clear hb3)
    | fail)
  clear d0 d1 d2 d3 d4 c0 c1 c2 c3 c4
  generalize w3.heap.size = g9 at *
  generalize World.alloc w3 _ = V at *
  have d0 : V.cell? ⟨w.heap.size, 0, none⟩ = some (u32v s.a) := ((unhide X3).get 0 rfl).cell 0
  have d1 : V.cell? ⟨w.heap.size, 1, none⟩ = some (u32v s.b) := ((unhide X3).get 0 rfl).cell 1
  have d2 : V.cell? ⟨w.heap.size, 2, none⟩ = some (u32v s.c) := ((unhide X3).get 0 rfl).cell 2
  have d3 : V.cell? ⟨w.heap.size, 3, none⟩ = some (u32v s.d) := ((unhide X3).get 0 rfl).cell 3
  have d4 : V.cell? ⟨w.heap.size, 4, none⟩ = some (u64v n) := ((unhide X3).get 0 rfl).cell 4
  have t0 : V.cell? ⟨g9, 0, none⟩ = some (u32v T.a) := ((unhide X3).get 3 rfl).cell 0
  have t1 : V.cell? ⟨g9, 1, none⟩ = some (u32v T.b) := ((unhide X3).get 3 rfl).cell 1
  have t2 : V.cell? ⟨g9, 2, none⟩ = some (u32v T.c) := ((unhide X3).get 3 rfl).cell 2
  have t3 : V.cell? ⟨g9, 3, none⟩ = some (u32v T.d) := ((unhide X3).get 3 rfl).cell 3
  have p0 : V.cell? ⟨w.heap.size + 1, 0, none⟩ = some (.int .u64 0) := ((unhide X3).get 1 rfl).cell 0
  have fp0 : V.frozen? ⟨w.heap.size + 1, 0, none⟩ = false := ((unhide X3).get 1 rfl).frozen 0
  have p1 : V.cell? ⟨w.heap.size + 1, 1, none⟩ = some (.slice none 0 0) := ((unhide X3).get 1 rfl).cell 1
  have fp1 : V.frozen? ⟨w.heap.size + 1, 1, none⟩ = false := ((unhide X3).get 1 rfl).frozen 1
  have p2 : V.cell? ⟨w.heap.size + 1, 2, none⟩ = some (.int .u32 0) := ((unhide X3).get 1 rfl).cell 2
  have fp2 : V.frozen? ⟨w.heap.size + 1, 2, none⟩ = false := ((unhide X3).get 1 rfl).frozen 2
  have p3 : V.cell? ⟨w.heap.size + 1, 3, none⟩ = some (.int .u32 0) := ((unhide X3).get 1 rfl).cell 3
  have fp3 : V.frozen? ⟨w.heap.size + 1, 3, none⟩ = false := ((unhide X3).get 1 rfl).frozen 3
  have p4 : V.cell? ⟨w.heap.size + 1, 4, none⟩ = some (.int .u32 0) := ((unhide X3).get 1 rfl).cell 4
  have fp4 : V.frozen? ⟨w.heap.size + 1, 4, none⟩ = false := ((unhide X3).get 1 rfl).frozen 4
  have p5 : V.cell? ⟨w.heap.size + 1, 5, none⟩ = some (.int .u32 0) := ((unhide X3).get 1 rfl).cell 5
  have fp5 : V.frozen? ⟨w.heap.size + 1, 5, none⟩ = false := ((unhide X3).get 1 rfl).frozen 5
  have q0 : V.cell? ⟨w.heap.size + 1 + 1, 0, none⟩ = some (.int .u32 0) := ((unhide X3).get 2 rfl).cell 0
  have fq0 : V.frozen? ⟨w.heap.size + 1 + 1, 0, none⟩ = false := ((unhide X3).get 2 rfl).frozen 0
  have q1 : V.cell? ⟨w.heap.size + 1 + 1, 1, none⟩ = some (.int .u32 0) := ((unhide X3).get 2 rfl).cell 1
  have fq1 : V.frozen? ⟨w.heap.size + 1 + 1, 1, none⟩ = false := ((unhide X3).get 2 rfl).frozen 1
  have q2 : V.cell? ⟨w.heap.size + 1 + 1, 2, none⟩ = some (.int .u32 0) := ((unhide X3).get 2 rfl).cell 2
  have fq2 : V.frozen? ⟨w.heap.size + 1 + 1, 2, none⟩ = false := ((unhide X3).get 2 rfl).frozen 2
  have q3 : V.cell? ⟨w.heap.size + 1 + 1, 3, none⟩ = some (.int .u32 0) := ((unhide X3).get 2 rfl).cell 3
  have fq3 : V.frozen? ⟨w.heap.size + 1 + 1, 3, none⟩ = false := ((unhide X3).get 2 rfl).frozen 3
  have q4 : V.cell? ⟨w.heap.size + 1 + 1, 4, none⟩ = some (.int .u64 0) := ((unhide X3).get 2 rfl).cell 4
  have fq4 : V.frozen? ⟨w.heap.size + 1 + 1, 4, none⟩ = false := ((unhide X3).get 2 rfl).frozen 4
  have k0 : w.heap.size < V.heap.size := ((unhide X3).get 0 rfl).lt
  have k9 : g9 < V.heap.size := ((unhide X3).get 3 rfl).lt
  have n1 : ¬ w.heap.size + 1 = g9 := by omega
  have n2 : ¬ w.heap.size + 1 + 1 = g9 := by omega
  have n3 : ¬ g9 = w.heap.size + 1 := by omega
  have n4 : ¬ g9 = w.heap.size + 1 + 1 := by omega
  go_region_held3 (fun W => W.cell? ⟨w.heap.size, 0, none⟩ = some (u32v s.a) ∧ W.cell? ⟨w.heap.size, 1, none⟩ = some (u32v s.b) ∧ W.cell? ⟨w.heap.size, 2, none⟩ = some (u32v s.c) ∧ W.cell? ⟨w.heap.size, 3, none⟩ = some (u32v s.d) ∧ W.cell? ⟨w.heap.size, 4, none⟩ = some (u64v n) ∧ W.cell? ⟨g9, 0, none⟩ = some (u32v T.a) ∧ W.cell? ⟨g9, 1, none⟩ = some (u32v T.b) ∧ W.cell? ⟨g9, 2, none⟩ = some (u32v T.c) ∧ W.cell? ⟨g9, 3, none⟩ = some (u32v T.d)) (first | exact ⟨by with_reducible assumption, by with_reducible assumption, by with_reducible assumption, by with_reducible assumption, by with_reducible assumption, by with_reducible assumption, by with_reducible assumption, by with_reducible assumption, by with_reducible assumption⟩ | exact ⟨by go_simp, by go_simp, by go_simp, by go_simp, by go_simp, by go_simp, by go_simp, by go_simp, by go_simp⟩) (fail)
  go_wp2_with (fail)
  obtain ⟨F1, F2, F3, F4⟩ := two_put (x0 := u64v n) (x1 := .slice A2 m c2') (x2 := u32v T.a) (x3 := u32v T.b) (x4 := u32v T.c) (x5 := u32v T.d) (y0 := u32v s.a) (y1 := u32v s.b) (y2 := u32v s.c) (y3 := u32v s.d) (y4 := u64v (n + 1#64)) ((unhide X3).get 1 rfl) ((unhide X3).get 2 rfl) (by omega) ((unhide X3).own 0 rfl) (unhide X3).bl (by omega) (by omega)
  refine ret_br3 rfl (w.heap.size + 1) (w.heap.size + 1 + 1) (bxC n (.slice A2 m c2') T) (rgC s (n + 1#64)) (.int .i64 0) rfl rfl rfl rfl rfl F1 F2 rfl ⟨A2, c2', rfl, F3, F4⟩
end
set_option maxHeartbeats 1000000 in
theorem OpenR_any (s : St) (n : Nx) (v : Value) (l : List UInt8) (t : St) (w : World) (h : Bs 0 w.heap.size w v l) (hl : l.length ≤ 65536) :
    Calls Tryz.prog 26 #[stV s, bxV n v t] w fun e w' => (if sameS (tagF s n l) t = true then ∃ A c, e = .returned (.tuple #[.slice A l.length c, .int .i64 0]) ∧ OwnB w' w.heap.size (.slice A l.length c) (hidF s n l) else e = .returned (.tuple #[.slice none 0 0, .int .i64 8])) ∧ Below w.heap.size w w' := by
  have hT := fun W (hb : Below w.heap.size w W) => TagR_good s n v l W (h.to hb) hl
  have hG := fun W (hb : Below w.heap.size w W) => hidR_any s n v l W (h.to hb) hl
  obtain ⟨A, c, rfl⟩ := h.form
  have X0 : Fx w ((w.alloc (.cells (stC s) 24)).alloc (.cells (bxC n (.slice A l.length c) t) 55)) [(w.heap.size, 24, stC s), (w.heap.size + 1, 55, bxC n (.slice A l.length c) t)] [] [] := ((Fx.nil w).newB w.heap.size rfl (stC s) 24).newB (w.heap.size + 1) (by simp) (bxC n (.slice A l.length c) t) 55
  generalize hidF s n l = H at *
  generalize tagF s n l = T at *
  generalize l.length = m at *
  have hE := fun W => neq_st W T t
  have hz : ∃ z, z = sameS T t := ⟨_, rfl⟩
  obtain ⟨z, hz⟩ := hz
  rw [← hz] at hE ⊢
  replace X0 := hide X0; replace hT := hide hT; replace hG := hide hG
  clear h hl hz
  go_enter Tryz.func26, Tryz.ntmps26
  go_upto_region 1 with (fail)
  generalize hW : World.alloc (World.alloc w _) _ = W at *
  clear hW
  have c0 : W.cell? ⟨w.heap.size, 0, none⟩ = some (u32v s.a) := ((unhide X0).get 0 rfl).cell 0
  have c1 : W.cell? ⟨w.heap.size, 1, none⟩ = some (u32v s.b) := ((unhide X0).get 0 rfl).cell 1
  have c2 : W.cell? ⟨w.heap.size, 2, none⟩ = some (u32v s.c) := ((unhide X0).get 0 rfl).cell 2
  have c3 : W.cell? ⟨w.heap.size, 3, none⟩ = some (u32v s.d) := ((unhide X0).get 0 rfl).cell 3
  have b0 : W.cell? ⟨w.heap.size + 1, 0, none⟩ = some (u64v n) := ((unhide X0).get 1 rfl).cell 0
  have b1 : W.cell? ⟨w.heap.size + 1, 1, none⟩ = some (.slice A m c) := ((unhide X0).get 1 rfl).cell 1
  go_upto_region 4 with (first
    | (go_at_call 48; refine (unhide hT _ (unhide X0).bl).mono ?_; rintro e w2 ⟨rfl, hb2⟩
       have X2 : Fx w (w2.alloc (.cells (stC T) 24)) [(w.heap.size, 24, stC s), (w.heap.size + 1, 55, bxC n (.slice A m c) t), (w2.heap.size, 24, stC T)] [] [] := ((unhide X0).call hb2).newB w2.heap.size rfl (stC T) 24
       replace X2 := hide X2
       clear hb2)
    | fail)
  generalize w2.heap.size = g2 at *
  generalize World.alloc w2 _ = W2 at *
  clear c0 c1 c2 c3 b0 b1
  have c0 : W2.cell? ⟨w.heap.size, 0, none⟩ = some (u32v s.a) := ((unhide X2).get 0 rfl).cell 0
  have c1 : W2.cell? ⟨w.heap.size, 1, none⟩ = some (u32v s.b) := ((unhide X2).get 0 rfl).cell 1
  have c2 : W2.cell? ⟨w.heap.size, 2, none⟩ = some (u32v s.c) := ((unhide X2).get 0 rfl).cell 2
  have c3 : W2.cell? ⟨w.heap.size, 3, none⟩ = some (u32v s.d) := ((unhide X2).get 0 rfl).cell 3
  have b0 : W2.cell? ⟨w.heap.size + 1, 0, none⟩ = some (u64v n) := ((unhide X2).get 1 rfl).cell 0
  have b1 : W2.cell? ⟨w.heap.size + 1, 1, none⟩ = some (.slice A m c) := ((unhide X2).get 1 rfl).cell 1
  have b2 : W2.cell? ⟨w.heap.size + 1, 2, none⟩ = some (u32v t.a) := ((unhide X2).get 1 rfl).cell 2
  have b3 : W2.cell? ⟨w.heap.size + 1, 3, none⟩ = some (u32v t.b) := ((unhide X2).get 1 rfl).cell 3
  have b4 : W2.cell? ⟨w.heap.size + 1, 4, none⟩ = some (u32v t.c) := ((unhide X2).get 1 rfl).cell 4
  have b5 : W2.cell? ⟨w.heap.size + 1, 5, none⟩ = some (u32v t.d) := ((unhide X2).get 1 rfl).cell 5
  have t0 : W2.cell? ⟨g2, 0, none⟩ = some (u32v T.a) := ((unhide X2).get 2 rfl).cell 0
  have t1 : W2.cell? ⟨g2, 1, none⟩ = some (u32v T.b) := ((unhide X2).get 2 rfl).cell 1
  have t2 : W2.cell? ⟨g2, 2, none⟩ = some (u32v T.c) := ((unhide X2).get 2 rfl).cell 2
  have t3 : W2.cell? ⟨g2, 3, none⟩ = some (u32v T.d) := ((unhide X2).get 2 rfl).cell 3
  cases z with
  | false =>
    go_wp2_with (fail)
    go_ret2
    exact ⟨rfl, (unhide X2).bl⟩
  | true =>
    go_wp2_with (first
      | (go_at_call 49; refine (unhide hG _ (unhide X2).bl).mono ?_; rintro e w3 ⟨A3, c3', rfl, o3, hb3⟩)
      | fail)
    go_ret2
    exact ⟨⟨A3, c3', rfl, ownsRow_mono o3 (unhide X2).bl.size⟩, bl_call (unhide X2).bl hb3⟩
end Go.Proofs.YthkccpemgmpadaaGreatDoor
