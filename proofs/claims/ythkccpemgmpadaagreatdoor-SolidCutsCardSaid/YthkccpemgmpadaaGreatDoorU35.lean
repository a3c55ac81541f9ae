import Derived.Test.YthkccpemgmpadaaGreatDoorU34
import Derived.LoopN
import Derived.IntWalk
namespace Go.Proofs.YthkccpemgmpadaaGreatDoor
set_option maxRecDepth 100000
open Go.RowKit
theorem infoP : (Tryz.prog.info? 44).map (fun i => (i.zero, i.size, i.bytes)) = some (some (.agg #[.int .i64 0, .int .i64 0, .int .u32 0]), 3, 24) := by kernel_rfl
def Pcs (lo hi : Nat) (w : World) (v : Value) (l : List Pc) : Prop :=
  ∃ A c, v = .slice A l.length c ∧ (0 < l.length → ∃ b off, A = some ⟨b, off, none⟩ ∧ lo ≤ b ∧ b < hi) ∧
    ∀ b off, A = some ⟨b, off, none⟩ → ∀ k (hk : k < l.length), w.cell? ⟨b, off + k * 3, none⟩ = some (.int .i64 l[k].at_) ∧ w.cell? ⟨b, off + k * 3 + 1, none⟩ = some (.int .i64 l[k].len) ∧ w.cell? ⟨b, off + k * 3 + 2, none⟩ = some (u32v l[k].sum)
theorem Pcs.grow {lo : Nat} {w w' : World} {v : Value} {l : List Pc} (h : Pcs lo w.heap.size w v l) (hb : Below w.heap.size w w') : Pcs lo w'.heap.size w' v l := by
  obtain ⟨A, c, e, h1, h2⟩ := h
  refine ⟨A, c, e, fun h0 => ?_, fun b off e k hk => ?_⟩
  · obtain ⟨b, off, e, g1, g2⟩ := h1 h0
    exact ⟨b, off, e, g1, Nat.lt_of_lt_of_le g2 hb.size⟩
  · obtain ⟨b', off', e', _, g2⟩ := h1 (by omega)
    rw [e] at e'; injection e' with e'; injection e' with e1 e2; subst e1 e2
    obtain ⟨c0, c1, c2⟩ := h2 b off e k hk
    exact ⟨(hb.cell (p := ⟨b, off + k * 3, none⟩) g2).trans c0, (hb.cell (p := ⟨b, off + k * 3 + 1, none⟩) g2).trans c1, (hb.cell (p := ⟨b, off + k * 3 + 2, none⟩) g2).trans c2⟩
theorem pcs_flat_len (l : List Pc) : (l.flatMap pcL).length = l.length * 3 := by
  induction l with
  | nil => rfl
  | cons f r ih => simp [pcL] at ih ⊢; omega
theorem pcs_flat_get (l : List Pc) (k : Nat) (hk : k < l.length) : (l.flatMap pcL)[k * 3]? = some (.int .i64 l[k].at_) ∧ (l.flatMap pcL)[k * 3 + 1]? = some (.int .i64 l[k].len) ∧ (l.flatMap pcL)[k * 3 + 2]? = some (u32v l[k].sum) := by
  induction l generalizing k with
  | nil => simp at hk
  | cons f r ih =>
    cases k with
    | zero => simp [pcL]
    | succ k =>
      have := ih k (by simpa using hk)
      rw [List.flatMap_cons, show pcL f = [.int .i64 f.at_, .int .i64 f.len, u32v f.sum] from rfl, show (k + 1) * 3 = k * 3 + 3 by omega]
      simpa using this
theorem pcL_one (p : Pc) : ∀ u ∈ pcL p, u.oneCell' = true := by
  intro u hu
  simp [pcL] at hu
  rcases hu with rfl | rfl | rfl <;> rfl
theorem pc_src {w : World} {g : Nat} {p : Pc} (h : Blk w g 44 (pcC p)) : SrcOk w (some ⟨g, 0, none⟩) 1 (pcL p) := fun _ => by
  refine ⟨_, rfl, fun j u hu => ?_⟩
  rw [add_none, h.cell, Nat.zero_add]
  simpa [pcC, pcL] using hu
theorem Pcs.of_own {w : World} {base n : Nat} {v : Value} {l : List Pc} (h : w.ownsRow base 44 3 v n (l.flatMap pcL)) : Pcs base w.heap.size w v l := by
  have hn : n = l.length := by have := ownsRow_len h; rw [pcs_flat_len] at this; omega
  subst hn
  rcases h.2 with ⟨rfl, h0⟩ | ⟨g, cap, cur, rfl, hb, hg, hnc, hcm, hcs, htake⟩
  · refine ⟨none, 0, by rw [h0], fun hp => by omega, fun _ _ e => by cases e⟩
  · refine ⟨some ⟨g, 0, none⟩, cap, rfl, fun _ => ⟨g, 0, rfl, hb, Blk.lt (t := 44) (cs := cur) hg⟩, fun b off e k hk => ?_⟩
    injection e with e; injection e with e1 e2; subst e1 e2
    have hcell := fun j (hj : j < l.length * 3) => World.ownsRow.cellAt (w := w) (base := base) (e := 44) (size := 3) (g := g) (n := l.length) (cap := cap) (xs := l.flatMap pcL) h j hj
    obtain ⟨c0, c1, c2⟩ := pcs_flat_get l k hk
    exact ⟨by rw [Nat.zero_add, hcell _ (by omega)]; exact c0, by rw [Nat.zero_add, hcell _ (by omega)]; exact c1, by rw [Nat.zero_add, hcell _ (by omega)]; exact c2⟩
theorem mkP (c : Nat) (hc : c ≤ 1000) (W : World) : ∃ cs : Array Value, cs.size = c * 3 ∧ (Instr.makeSlice 32 (.int .i64 0) (.int .i64 (c : Int))).run Tryz.prog W = .ok (.slice (some ⟨W.heap.size, 0, none⟩) 0 c) (W.alloc (.cells cs 44)) := by
  obtain ⟨i0, hi0, hz0, hz1, hz2⟩ := info_parts infoP
  have h := run_mk0 (P := Tryz.prog) 32 44 i0 _ 3 Tryz.underlying32 hi0 hz0 hz1 c (by rw [hz2]; omega) (by omega) W
  exact ⟨_, by simp [madeCells, Value.cells], h⟩
theorem flat_pc (l : List Pc) (p : Pc) : l.flatMap pcL ++ pcL p = (l ++ [p]).flatMap pcL := by simp
theorem pcs_take (l : List (List UInt8)) (k : Nat) (hk : k < l.length) : pcsF 0 (l.take (k + 1)) = pcsF 0 (l.take k) ++ [⟨(C.upto l k : Nat), l[k].length, C.sumR l[k]⟩] := by
  have h : l.take (k + 1) = l.take k ++ [l[k]] := by rw [List.take_add_one, List.getElem?_eq_getElem hk]; rfl
  rw [h, pcs_snoc, Nat.zero_add]
  rfl
set_option maxHeartbeats 2000000 in
theorem pieces_any (v : Value) (l : List (List UInt8)) (w : World) (h : Bss w.heap.size w v l) (hn : l.length ≤ 1000) (hL : l.flatten.length ≤ 65536) :
    Calls Tryz.prog 21 #[v] w fun e w' => ∃ A c, e = .returned (.slice A l.length c) ∧ w'.ownsRow w.heap.size 44 3 (.slice A l.length c) l.length ((pcsF 0 l).flatMap pcL) ∧ Below w.heap.size w w' := by
  obtain ⟨i0, hi0, hz0, hz1, hz2⟩ := info_parts infoP
  obtain ⟨cs, hcs, hmk⟩ := mkP l.length hn w
  have o0 := own_fresh w w.heap.size w.heap.size 44 3 l.length cs rfl (Nat.le_refl _) (by simp only [maxLen]; omega) hcs
  have b0 : Below w.heap.size w (w.alloc (.cells cs 44)) := bl_alloc (Below.refl _ _) _
  rcases h.parts with ⟨rfl, A, c, rfl⟩ | ⟨b, off, c, rfl, ht⟩
  · clear h hn hL
    replace o0 := hide o0; replace b0 := hide b0
    have hmk' : (Instr.makeSlice 32 (.int .i64 0) (.int .i64 0)).run Tryz.prog w = .ok (.slice (some ⟨w.heap.size, 0, none⟩) 0 0) (w.alloc (.cells cs 44)) := hmk
    clear hmk
    go_enter Tryz.func21, Tryz.ntmps21
    go_wp2_with fail
    refine wp_loop_rounds 1 ?_
    rw [rounds_succ]
    go_wp2_with fail
    go_ret
    exact ⟨_, _, rfl, unhide o0, unhide b0⟩
  · have hfl := C.flat_le l
    rw [upto_eq] at hfl
    have hS := fun k (hk : k < l.length) (A : Option Addr) (c : Nat) (W : World) (h : Bs 0 W.heap.size W (.slice A l[k].length c) l[k]) => sum_u 0 W.heap.size _ l[k] W h
    obtain ⟨n, hn'⟩ : ∃ n, n = l.length := ⟨_, rfl⟩
    have he : pcsF 0 l = pcsF 0 (l.take n) := by rw [hn', List.take_length]
    rw [he]
    have hS' : Hid _ := hide hS
    rw [← hn'] at hmk o0 ⊢
    have hn2 : n ≤ 1000 := by rw [hn']; exact hn
    replace ht := hide ht; replace hn' := hide hn'; replace hfl := hide hfl; replace o0 := hide o0; replace b0 := hide b0
    clear h hn hS he
    go_enter Tryz.func21, Tryz.ntmps21
    go_wp2_with fail
    go_loopw [3, 4, 6, 12] (fun s3 s4 s6 s12 wr => ∃ (k c' : Nat) (A' : Option Addr), k ≤ n ∧ s12 = .int .i64 k ∧ s4 = .int .i64 (C.upto l k : Nat) ∧ s3 = .slice A' k c' ∧ Hid (wr.ownsRow w.heap.size 44 3 (.slice A' k c') k ((pcsF 0 (l.take k)).flatMap pcL)) ∧ Hid (Below w.heap.size w wr)) (fun _ _ _ i _ => n - (intOf i).toNat)
    case atStart => exact ⟨0, _, _, by omega, rfl, rfl, rfl, o0, b0⟩
    case round =>
      obtain ⟨k, c', A', hk, rfl, rfl, rfl, o2, b2⟩ := hrel
      by_cases hlt : k < n
      · have hlt' : k < l.length := by rw [← unhide hn']; exact hlt
        have T2 := (unhide ht).grow (unhide b2)
        obtain ⟨A, c, hc, hx⟩ := T2.at_ k hlt'
        have hbl := T2.lt
        have ha : C.upto l (k + 1) = C.upto l k + l[k].length := C.upto_succ hlt'
        have hb := unhide hfl (k + 1)
        rw [ha] at hb
        have hq := unhide hS' k hlt' A c
        have hp := pcs_take l k hlt'
        have hsz := (unhide b2).size
        obtain ⟨p, hp0⟩ : ∃ p : Pc, p = ⟨(C.upto l k : Nat), l[k].length, C.sumR l[k]⟩ := ⟨_, rfl⟩
        rw [← hp0] at hp
        have hfp := flat_pc (pcsF 0 (l.take k)) p
        rw [← hp] at hfp
        have hpc : pcC p = #[.int .i64 (C.upto l k : Nat), .int .i64 l[k].length, u32v (C.sumR l[k])] := by rw [hp0]; rfl
        have hp1 := pcL_one p
        have hpl : (pcL p).length = 1 * 3 := rfl
        generalize C.sumR l[k] = S at *
        generalize l[k] = N at *
        generalize ha1 : C.upto l k = m at *
        generalize N.length = d at *
        have u1 : k + 1 ≤ maxLen := by simp only [maxLen]; omega
        have u2 : (k + 1) * 24 ≤ 140737488355328 := by omega
        have u3 : (0 : Int) ≤ (m : Int) + (d : Int) := by omega
        have u4 : (m : Int) + (d : Int) ≤ 65536 := by omega
        replace ha := hide ha; replace hq := hide hq; replace hfp := hide hfp; replace hpc := hide hpc; replace hp1 := hide hp1; replace u1 := hide u1; replace u2 := hide u2; replace hx := hide hx; replace hpl := hide hpl
        clear hp hp0 hb T2
        go_wp2_with (first
          | (go_at_call 39; refine (unhide hq _ (unhide hx)).mono ?_; rintro e wz ⟨rfl, rfl⟩)
          | (at_builtin
             refine wpList_app _ rfl (.tmp 16) (.tmp 23) 32 rfl w.heap.size 44 i0 _ 3 24 Tryz.underlying32 hi0 hz0 hz1 hz2 rfl (Nat.succ_pos _) _ k ((pcsF 0 (l.take k)).flatMap pcL) rfl ((unhide o2).alloc _) (some ⟨wr.heap.size, 0, none⟩) 1 1 (pcL p) rfl (unhide hpl) (pc_src (by rw [unhide hpc]; exact Blk.new rfl)) (unhide hp1) (unhide u1) (unhide u2) (by simp; omega) ?_
             intro v' w2 hown2 hg2
             obtain ⟨A3, c3, rfl⟩ := ownsRow_form hown2
             rw [unhide hfp] at hown2
             have B2 := hide (bl_grown (bl_alloc (unhide b2) _) hg2 (C.own_base (unhide o2)))
             replace hown2 := hide hown2
             clear hg2)
          | fail)
        go_roundw
        case rel => exact ⟨k + 1, c3, A3, by omega, by go_num, by rw [unhide ha]; go_num, rfl, hown2, B2⟩
        case measure => simp [intOf]; omega
      · obtain rfl : k = n := by omega
        go_wp2_with fail
        go_ret
        exact ⟨_, _, rfl, unhide o2, unhide b2⟩
end Go.Proofs.YthkccpemgmpadaaGreatDoor

namespace Go.Proofs.YthkccpemgmpadaaGreatDoor
set_option maxRecDepth 100000
open Go.RowKit
structure OkP (p : Pc) : Prop where
  a0 : -9223372036854775808 ≤ p.at_
  a1 : p.at_ ≤ 9223372036854775807
  l0 : -9223372036854775808 ≤ p.len
  l1 : p.len ≤ 9223372036854775807
def FindOut (t : List UInt8) (p : Pc) (w : World) (e : Ending) (w' : World) : Prop :=
  ∃ A c, e = .returned (.tuple #[.slice A (findT t p).length c, .int .i64 (findE t p)]) ∧ Bs 0 w'.heap.size w' (.slice A (findT t p).length c) (findT t p) ∧ Below w.heap.size w w'
theorem FindOut.bad {t : List UInt8} {p : Pc} {w w' : World} {e : Ending} {er : Int} (h : findE t p = er) (h0 : er ≠ 0) (he : e = .returned (.tuple #[.slice none 0 0, .int .i64 er])) (hb : Below w.heap.size w w') : FindOut t p w e w' := by
  subst h
  have : findT t p = [] := by unfold findT; rw [if_neg h0]
  unfold FindOut
  rw [this]
  exact ⟨none, 0, he, Bs.nil0 w', hb⟩
theorem findE_low {t : List UInt8} {a l : Int} {s : Reg} (h : a < 0 ∨ l < 0 ∨ (t.length : Int) - a < l) : findE t ⟨a, l, s⟩ = 1 := by unfold findE; rw [if_pos h]
theorem findE_sum {t : List UInt8} {a l : Int} {s : Reg} (h : ¬ (a < 0 ∨ l < 0 ∨ (t.length : Int) - a < l)) : findE t ⟨a, l, s⟩ = if C.sumR ((t.drop a.toNat).take l.toNat) = s then 0 else 7 := by unfold findE; rw [if_neg h]
section
variable (v : Value) (t : List UInt8) (a l : Int) (s : Reg) (w : World) (h : Bs 0 w.heap.size w v t)
set_option maxHeartbeats 1000000 in
include h in
theorem find_low1 (g : a < 0) : Calls Tryz.prog 36 #[v, pcV ⟨a, l, s⟩] w (FindOut t ⟨a, l, s⟩ w) := by
  have hE := findE_low (t := t) (l := l) (s := s) (.inl g)
  obtain ⟨A, c, rfl⟩ := h.form
  generalize t.length = m at *
  replace hE := hide hE
  clear h
  unfold pcV
  go_enter Tryz.func36, Tryz.ntmps36
  go_wp2_with fail
  go_ret2
  exact FindOut.bad (unhide hE) (by decide) rfl (bl_alloc (Below.refl _ _) _)
set_option maxHeartbeats 1000000 in
include h in
theorem find_low2 (g : ¬ a < 0) (g2 : l < 0) : Calls Tryz.prog 36 #[v, pcV ⟨a, l, s⟩] w (FindOut t ⟨a, l, s⟩ w) := by
  have hE := findE_low (t := t) (a := a) (s := s) (.inr (.inl g2))
  obtain ⟨A, c, rfl⟩ := h.form
  generalize t.length = m at *
  replace hE := hide hE
  clear h
  unfold pcV
  go_enter Tryz.func36, Tryz.ntmps36
  go_wp2_with fail
  go_ret2
  exact FindOut.bad (unhide hE) (by decide) rfl (bl_alloc (Below.refl _ _) _)
set_option maxHeartbeats 1000000 in
include h in
theorem find_long (hl : t.length ≤ 1000000) (ha : a ≤ 9223372036854775807) (g : ¬ a < 0) (g2 : ¬ l < 0) (g3 : (t.length : Int) - a < l) : Calls Tryz.prog 36 #[v, pcV ⟨a, l, s⟩] w (FindOut t ⟨a, l, s⟩ w) := by
  have hE := findE_low (t := t) (a := a) (s := s) (.inr (.inr g3))
  obtain ⟨A, c, rfl⟩ := h.form
  have hw : IntKind.i64.wrap ((t.length : Int) - a) = (t.length : Int) - a := by rw [IntKind.wrap_i64]; omega
  generalize t.length = m at *
  replace hE := hide hE
  clear h hl ha
  unfold pcV
  go_enter Tryz.func36, Tryz.ntmps36
  go_wp2_with fail
  go_ret2
  exact FindOut.bad (unhide hE) (by decide) rfl (bl_alloc (Below.refl _ _) _)
set_option maxHeartbeats 1000000 in
include h in
theorem find_in (hl : t.length ≤ 1000000) (g : ¬ a < 0) (g2 : ¬ l < 0) (g3 : ¬ (t.length : Int) - a < l) : Calls Tryz.prog 36 #[v, pcV ⟨a, l, s⟩] w (FindOut t ⟨a, l, s⟩ w) := by
  have hE := findE_sum (t := t) (a := a) (l := l) (s := s) (by omega)
  obtain ⟨j, rfl⟩ : ∃ j : Nat, a = (j : Int) := ⟨a.toNat, by omega⟩
  obtain ⟨k, rfl⟩ : ∃ k : Nat, l = (k : Int) := ⟨l.toNat, by omega⟩
  simp only [Int.toNat_natCast] at hE
  obtain ⟨A, c, rfl⟩ := h.form
  obtain ⟨A1, c1, s1, b1⟩ := h.cut_lh j (j + k) j ((j : Int) + k) rfl (by omega) (by omega) (by omega)
  rw [show j + k - j = k by omega] at s1 b1
  have hT : findT t ⟨j, k, s⟩ = if findE t ⟨j, k, s⟩ = 0 then (t.drop j).take k else [] := by unfold findT; simp only [Int.toNat_natCast]
  have hkl : ((t.drop j).take k).length = k := by rw [List.length_take, List.length_drop]; omega
  have X0 : Fx w (w.alloc (.cells #[.int .i64 j, .int .i64 k, u32v s] 44)) [(w.heap.size, 44, #[.int .i64 j, .int .i64 k, u32v s])] [] [(.slice A1 k c1, (t.drop j).take k)] := ((Fx.nil w).addZ b1).newB w.heap.size rfl #[.int .i64 j, .int .i64 k, u32v s] 44
  have hS := fun W (h2 : Bs 0 W.heap.size W (.slice A1 k c1) ((t.drop j).take k)) => sum_u 0 W.heap.size _ _ W h2
  unfold FindOut
  rw [hT]
  have hw : IntKind.i64.wrap ((t.length : Int) - j) = (t.length : Int) - j := by rw [IntKind.wrap_i64]; omega
  have hw2 : IntKind.i64.wrap ((j : Int) + k) = (j : Int) + k := by rw [IntKind.wrap_i64]; omega
  have hw3 : (0 : Int) ≤ (j : Int) + k := by omega
  have hw4 : (j : Int) + k ≤ 1000000 := by omega
  have hw5 : (t.length : Int) - j ≤ 1000000 := by omega
  have hw6 : 0 ≤ (t.length : Int) - j := by omega
  obtain ⟨z, hz⟩ : ∃ z, z = (n32 (C.sumR ((t.drop j).take k)) == n32 s) := ⟨_, rfl⟩
  have hE' : findE t ⟨j, k, s⟩ = if z = true then 0 else 7 := by
    rw [hE, hz]
    by_cases hs : C.sumR ((t.drop j).take k) = s
    · rw [if_pos hs, if_pos (by rw [hs]; simp)]
    · rw [if_neg hs, if_neg (by rw [beq_iff_eq]; exact fun e => hs (n32_inj e))]
  rw [hE']
  clear hE hE' hT
  have hq : (n32 (C.sumR ((t.drop j).take k)) == n32 s) = z := hz.symm
  have hq' : (n32 (C.sumR ((t.drop j).take k)) != n32 s) = !z := by rw [bne, hq]
  clear hz
  generalize C.sumR ((t.drop j).take k) = S at *
  generalize (t.drop j).take k = T at *
  generalize t.length = m at *
  have hS' : ∀ W, Bs 0 W.heap.size W (.slice A1 k c1) T → ∀ n, Calls Tryz.prog 39 #[.slice A1 k c1] (W.drewN n) fun e w' => e = .returned (u32v S) ∧ W.drewN n = w' := fun W hW n => hS (W.drewN n) (hW.to (below_drewN (Below.refl _ _) n))
  clear hS h b1
  unfold pcV
  simp only []
  replace X0 := hide X0; replace hS' := hide hS'; replace hkl := hide hkl
  go_enter Tryz.func36, Tryz.ntmps36
  go_upto_region 1 with (fail)
  generalize hW : World.alloc w _ = W at *
  clear hW
  have c0 : W.cell? ⟨w.heap.size, 0, none⟩ = some (.int .i64 j) := ((unhide X0).get 0 rfl).cell 0
  have c1' : W.cell? ⟨w.heap.size, 1, none⟩ = some (.int .i64 k) := ((unhide X0).get 0 rfl).cell 1
  have c2 : W.cell? ⟨w.heap.size, 2, none⟩ = some (u32v s) := ((unhide X0).get 0 rfl).cell 2
  have lt := ((unhide X0).get 0 rfl).lt
  have hS2 := hide (unhide hS' W ((unhide X0).rd 0 rfl))
  go_upto_region 4 with (fail)
  go_quiet ((go_at_call 39; refine Calls.quiet_of_same ((unhide hS2 _).mono fun e w' h => ⟨h.1, h.2.symm⟩)))
  cases z with
  | true =>
    go_wp2_with fail
    go_ret2
    have Y := (unhide X0).drewN nq
    exact ⟨A1, c1, by rw [unhide hkl]; rfl, by rw [unhide hkl]; exact Y.rd 0 rfl, Y.bl⟩
  | false =>
    go_wp2_with fail
    go_ret2
    have Y := (unhide X0).drewN nq
    exact ⟨none, 0, rfl, Bs.nil0 _, Y.bl⟩
include h in
theorem find_any (hp : OkP ⟨a, l, s⟩) (hl : t.length ≤ 1000000) : Calls Tryz.prog 36 #[v, pcV ⟨a, l, s⟩] w (FindOut t ⟨a, l, s⟩ w) := by
  by_cases g1 : a < 0
  · exact find_low1 v t a l s w h g1
  · by_cases g2 : l < 0
    · exact find_low2 v t a l s w h g1 g2
    · by_cases g3 : (t.length : Int) - a < l
      · exact find_long v t a l s w h hl hp.a1 g1 g2 g3
      · exact find_in v t a l s w h hl g1 g2 g3
end
theorem clone_u (lo : Nat) (v : Value) (l : List UInt8) (w : World) (h : Bs lo w.heap.size w v l) (hL : l.length ≤ 1000000) :
    Calls Tryz.prog 37 #[v] w fun e w' => ∃ A' c', e = .returned (.slice A' l.length c') ∧ OwnB w' w.heap.size (.slice A' l.length c') l ∧ Below w.heap.size w w' := C.bclone lo v l w (bs_C h) hL
theorem find_len (t : List UInt8) (p : Pc) : (findT t p).length ≤ t.length := by
  unfold findT
  split
  · rw [List.length_take, List.length_drop]; omega
  · simp
theorem find_none {t : List UInt8} {p : Pc} (h : findE t p ≠ 0) : findT t p = [] := by unfold findT; rw [if_neg h]
set_option maxHeartbeats 1000000 in
theorem Cut_any (v : Value) (t : List UInt8) (p : Pc) (w : World) (h : Bs 0 w.heap.size w v t) (hp : OkP p) (hl : t.length ≤ 1000000) :
    Calls Tryz.prog 15 #[v, pcV p] w (Ans (findT t p, findE t p) w) := by
  obtain ⟨a, l, s⟩ := p
  have hF := fun W (hb : Below w.heap.size w W) => find_any v t a l s W (h.to hb) hp hl
  have hC := fun v2 W (h2 : Bs 0 W.heap.size W v2 (findT t ⟨a, l, s⟩)) => clone_u 0 v2 _ W h2 (Nat.le_trans (find_len t ⟨a, l, s⟩) hl)
  have hN := find_none (t := t) (p := ⟨a, l, s⟩)
  obtain ⟨A, c, rfl⟩ := h.form
  unfold FindOut at hF
  generalize findT t ⟨a, l, s⟩ = T at *
  generalize findE t ⟨a, l, s⟩ = er at *
  obtain ⟨m, hm⟩ : ∃ m, T.length = m := ⟨_, rfl⟩
  rw [hm] at hF hC
  replace hF := hide hF; replace hC := hide hC; replace hm := hide hm; replace hN := hide hN
  generalize t.length = tm at *
  clear h hp hl
  unfold pcV at hF ⊢
  simp only [] at hF ⊢
  by_cases hz : er = 0
  · subst hz
    go_enter Tryz.func15, Tryz.ntmps15
    go_wp2_with (first
      | (go_at_call 36; refine (unhide hF _ (bl_alloc (Below.refl _ _) _)).mono ?_; rintro e w2 ⟨A2, c2, rfl, y2, hb2⟩
         have b2 := hide (bl_call (bl_alloc (Below.refl _ _) _) hb2)
         replace y2 := hide y2
         clear hb2)
      | (go_at_call 37; refine (unhide hC _ _ (unhide y2)).mono ?_; rintro e w3 ⟨A3, c3, rfl, o3, hb3⟩
         have o3' := hide (ownsRow_mono (base' := w.heap.size) o3 (unhide b2).size)
         have b3 := hide (bl_call (unhide b2) hb3)
         clear o3 hb3)
      | fail)
    go_ret2
    unfold Ans
    exact ⟨A3, c3, by rw [unhide hm]; rfl, by have := unhide o3'; rw [← unhide hm] at this; exact this, unhide b3⟩
  · have hz' : (er == 0) = false := by simpa using hz
    have hn := hide (unhide hN hz)
    clear hz
    go_enter Tryz.func15, Tryz.ntmps15
    go_wp2_with (first
      | (go_at_call 36; refine (unhide hF _ (bl_alloc (Below.refl _ _) _)).mono ?_; rintro e w2 ⟨A2, c2, rfl, y2, hb2⟩
         have b2 := hide (bl_call (bl_alloc (Below.refl _ _) _) hb2)
         clear hb2 y2)
      | fail)
    go_ret2
    exact Ans.none (er := er) (by rw [unhide hn]) rfl (unhide b2)
end Go.Proofs.YthkccpemgmpadaaGreatDoor

namespace Go.Proofs.YthkccpemgmpadaaGreatDoor
set_option maxRecDepth 100000
open Go.RowKit
theorem Pcs.parts {w : World} {v : Value} {l : List Pc} (h : Pcs 0 w.heap.size w v l) : (l = [] ∧ ∃ A c, v = .slice A 0 c) ∨ ∃ b off c, v = .slice (some ⟨b, off, none⟩) l.length c ∧ b < w.heap.size ∧ ∀ k (hk : k < l.length), w.cell? ⟨b, off + k * 3, none⟩ = some (.int .i64 l[k].at_) ∧ w.cell? ⟨b, off + k * 3 + 1, none⟩ = some (.int .i64 l[k].len) ∧ w.cell? ⟨b, off + k * 3 + 2, none⟩ = some (u32v l[k].sum) := by
  obtain ⟨A, c, rfl, h1, h2⟩ := h
  rcases Nat.eq_zero_or_pos l.length with h0 | h0
  · exact .inl ⟨List.eq_nil_of_length_eq_zero h0, A, c, by rw [h0]⟩
  · obtain ⟨b, off, rfl, _, g2⟩ := h1 h0
    exact .inr ⟨b, off, c, rfl, g2, h2 b off rfl⟩
def fewB (l : List (List UInt8)) : Bool := l.all (fun b => decide (b.length ≤ 60)) && decide (l.length ≤ 8)
theorem few_flat {l : List (List UInt8)} (h : fewB l = true) : l.length ≤ 8 ∧ l.flatten.length ≤ 480 := by
  unfold fewB at h
  rw [Bool.and_eq_true, List.all_eq_true, decide_eq_true_iff] at h
  obtain ⟨h1, h2⟩ := h
  have hs : ∀ (m : List (List UInt8)), (∀ b ∈ m, b.length ≤ 60) → m.flatten.length ≤ 60 * m.length := by
    intro m
    induction m with
    | nil => intro _; simp
    | cons b r ih =>
      intro hm
      have := ih fun x hx => hm x (by simp [hx])
      have := hm b (by simp)
      rw [List.flatten_cons, List.length_append, List.length_cons]
      omega
  have := hs l fun b hb => by simpa using h1 b hb
  exact ⟨h2, by omega⟩
def shortK (l : List (List UInt8)) (k : Nat) : Prop := ∀ b ∈ l.take k, b.length ≤ 60
theorem short_zero (l : List (List UInt8)) : shortK l 0 := fun b hb => by simp at hb
theorem short_step {l : List (List UInt8)} {k : Nat} (h : shortK l k) (hk : k < l.length) (h6 : l[k].length ≤ 60) : shortK l (k + 1) := by
  intro b hb
  rw [show l.take (k + 1) = l.take k ++ [l[k]] by rw [List.take_add_one, List.getElem?_eq_getElem hk]; rfl, List.mem_append, List.mem_singleton] at hb
  rcases hb with hb | rfl
  · exact h b hb
  · exact h6
theorem few_bad {l : List (List UInt8)} {k : Nat} (hk : k < l.length) (h6 : ¬ l[k].length ≤ 60) : fewB l = false := by
  unfold fewB
  rw [Bool.and_eq_false_iff]
  refine .inl ?_
  rw [List.all_eq_false]
  exact ⟨l[k], List.getElem_mem hk, by simpa using h6⟩
theorem few_end {l : List (List UInt8)} {k : Nat} (h : shortK l k) (hk : k = l.length) : fewB l = decide ((k : Int) ≤ 8) := by
  unfold fewB
  have h1 : (l.all fun b => decide (b.length ≤ 60)) = true := List.all_eq_true.2 fun b hb => by
    have := h b (by rw [hk, List.take_length]; exact hb)
    simpa using this
  rw [h1, Bool.true_and, ← hk, Bool.eq_iff_iff, decide_eq_true_iff, decide_eq_true_iff]
  omega
set_option maxHeartbeats 1000000 in
theorem Few_any (v : Value) (l : List (List UInt8)) (w : World) (h : Bss w.heap.size w v l) (hn : (l.length : Int) ≤ 9223372036854775807) :
    Calls Tryz.prog 6 #[v] w fun e w' => e = .returned (.bool (fewB l)) ∧ w = w' := by
  rcases h.parts with ⟨rfl, A, c, rfl⟩ | ⟨b, off, c, rfl, ht⟩
  · clear h hn
    have k2 : fewB [] = true := by decide
    replace k2 := hide k2
    go_enter Tryz.func6, Tryz.ntmps6
    go_wp2_with fail
    refine wp_loop_rounds 1 ?_
    rw [rounds_succ]
    go_wp2_with fail
    go_ret
    exact ⟨ret_b rfl (unhide k2).symm, rfl⟩
  · have hk3 : (l.length : Int) ≤ 9223372036854775807 := hn
    obtain ⟨n, hn'⟩ : ∃ n, n = l.length := ⟨_, rfl⟩
    rw [← hn'] at hk3 ⊢
    replace ht := hide ht; replace hn' := hide hn'; replace hk3 := hide hk3
    clear h hn
    go_enter Tryz.func6, Tryz.ntmps6
    go_wp2_with fail
    go_loopw [7] (fun s7 wr => ∃ (k : Nat), k ≤ n ∧ s7 = .int .i64 k ∧ Hid (shortK l k) ∧ w = wr) (fun i _ => n - (intOf i).toNat)
    case atStart => exact ⟨0, by omega, rfl, hide (short_zero l), rfl⟩
    case round =>
      obtain ⟨k, hk, rfl, hA, rfl⟩ := hrel
      by_cases hlt : k < n
      · have k3 : (k : Int) + 1 ≤ 9223372036854775807 := by have := unhide hk3; omega
        have hlt' : k < l.length := by rw [← unhide hn']; exact hlt
        obtain ⟨A, c, hc, _⟩ := (unhide ht).at_ k hlt'
        have hbl := (unhide ht).lt
        by_cases h6 : l[k].length ≤ 60
        · have k1 : ¬ (60 : Int) < (l[k].length : Int) := by omega
          have k2 := hide (short_step (unhide hA) hlt' h6)
          generalize l[k].length = m at *
          go_wp2_with fail
          go_roundw
          case rel => exact ⟨k + 1, by omega, by go_num, k2, by simp⟩
          case measure => simp [intOf]; omega
        · have k1 : (60 : Int) < (l[k].length : Int) := by omega
          have k2 := hide (few_bad hlt' h6)
          generalize l[k].length = m at *
          go_wp2_with fail
          go_ret
          exact ⟨ret_b rfl (unhide k2).symm, rfl⟩
      · obtain rfl : k = n := by omega
        have k2 := hide (few_end (unhide hA) (unhide hn'))
        go_wp2_with fail
        go_ret
        exact ⟨ret_b rfl (unhide k2).symm, rfl⟩
end Go.Proofs.YthkccpemgmpadaaGreatDoor

namespace Go.Proofs.YthkccpemgmpadaaGreatDoor
set_option maxRecDepth 100000
open Go.RowKit
theorem testE_step {t : List UInt8} {l : List Pc} {k : Nat} (hk : k < l.length) (h : testE t l = testE t (l.drop k)) (h0 : findE t l[k] = 0) : testE t l = testE t (l.drop (k + 1)) := by
  rw [h, List.drop_eq_getElem_cons hk]
  conv => lhs; unfold testE
  rw [if_neg (by rw [h0]; simp)]
theorem testE_bad {t : List UInt8} {l : List Pc} {k : Nat} (hk : k < l.length) (h : testE t l = testE t (l.drop k)) (h0 : findE t l[k] ≠ 0) : testE t l = findE t l[k] := by
  rw [h, List.drop_eq_getElem_cons hk]
  unfold testE
  rw [if_pos h0]
theorem testE_end {t : List UInt8} {l : List Pc} (h : testE t l = testE t (l.drop l.length)) : testE t l = 0 := by rw [h, List.drop_length]; rfl
section
variable (s : St) (v pv : Value) (b : List UInt8) (l : List Pc) (w : World) (ht : Tab w) (h : Bs 0 w.heap.size w v b) (hl : b.length ≤ 60000) (hp : Pcs 0 w.heap.size w pv l) (hok : ∀ p ∈ l, OkP p) (hn : l.length ≤ 1000)
set_option maxHeartbeats 2000000 in
include ht h hl hp in
theorem Test_err (he : (openS s b).2 ≠ 0) : Calls Tryz.prog 17 #[stV s, v, pv] w fun e w' => e = .returned (.int .i64 (testS s b l)) ∧ Below w.heap.size w w' := by
  have hT : testS s b l = (openS s b).2 := by unfold testS; rw [if_pos he]
  rw [hT]
  have hO := fun W (hb : Below w.heap.size w W) => Open_any' s v b W (ht.below hb (Nat.le_refl _)) (h.to hb) hl
  obtain ⟨A, c, rfl⟩ := h.form
  obtain ⟨A', c', rfl, _⟩ := hp
  unfold Ans at hO
  generalize openS s b = RR at *
  obtain ⟨T, er⟩ := RR
  simp only [] at he hO ⊢
  have hz : (er == 0) = false := by simpa using he
  have X0 : Fx w (w.alloc (.cells (stC s) 24)) [(w.heap.size, 24, stC s)] [] [] := (Fx.nil w).newB w.heap.size rfl (stC s) 24
  generalize b.length = m at *
  generalize T.length = m1 at *
  replace X0 := hide X0; replace hO := hide hO
  clear hT ht h hl he
  go_enter Tryz.func17, Tryz.ntmps17
  go_upto_region 1 with (fail)
  generalize hW : World.alloc w _ = W at *
  clear hW
  have c00 : W.cell? ⟨w.heap.size, 0, none⟩ = some (u32v s.a) := ((unhide X0).get 0 rfl).cell 0
  have c01 : W.cell? ⟨w.heap.size, 1, none⟩ = some (u32v s.b) := ((unhide X0).get 0 rfl).cell 1
  have c02 : W.cell? ⟨w.heap.size, 2, none⟩ = some (u32v s.c) := ((unhide X0).get 0 rfl).cell 2
  have c03 : W.cell? ⟨w.heap.size, 3, none⟩ = some (u32v s.d) := ((unhide X0).get 0 rfl).cell 3
  go_wp2_with (first
    | (go_at_call 9; refine (unhide hO _ (unhide X0).bl).mono ?_; rintro e w2 ⟨A2, c2, rfl, o2, hb2⟩
       have b2 := hide (bl_call (unhide X0).bl hb2)
       clear o2 hb2)
    | fail)
  go_ret
  exact ⟨rfl, unhide b2⟩
set_option maxHeartbeats 4000000 in
include ht h hl hp hok hn in
theorem Test_ok (he : (openS s b).2 = 0) (hTl : (openS s b).1.length ≤ 1000000) : Calls Tryz.prog 17 #[stV s, v, pv] w fun e w' => e = .returned (.int .i64 (testS s b l)) ∧ Below w.heap.size w w' := by
  have hT : testS s b l = testE (openS s b).1 l := by unfold testS; rw [if_neg (by rw [he]; simp)]
  rw [hT]
  have hO := fun W (hb : Below w.heap.size w W) => Open_any' s v b W (ht.below hb (Nat.le_refl _)) (h.to hb) hl
  obtain ⟨A, c, rfl⟩ := h.form
  unfold Ans at hO
  generalize openS s b = RR at *
  obtain ⟨T, er⟩ := RR
  simp only [] at he hO hTl ⊢
  subst he
  have hF := fun v2 k (hk : k < l.length) W (h2 : Bs 0 W.heap.size W v2 T) => find_any v2 T l[k].at_ l[k].len l[k].sum W h2 (hok _ (List.getElem_mem hk)) hTl
  have X0 : Fx w (w.alloc (.cells (stC s) 24)) [(w.heap.size, 24, stC s)] [] [] := (Fx.nil w).newB w.heap.size rfl (stC s) 24
  generalize b.length = m at *
  generalize hm1 : T.length = m1 at *
  rcases hp.parts with ⟨rfl, A', c', rfl⟩ | ⟨bk, off, c', rfl, hbk, hcl⟩
  · replace X0 := hide X0; replace hO := hide hO
    clear hT ht h hl hF hm1 hTl hp hok hn
    go_enter Tryz.func17, Tryz.ntmps17
    go_upto_region 1 with (fail)
    generalize hW : World.alloc w _ = W at *
    clear hW
    have c00 : W.cell? ⟨w.heap.size, 0, none⟩ = some (u32v s.a) := ((unhide X0).get 0 rfl).cell 0
    have c01 : W.cell? ⟨w.heap.size, 1, none⟩ = some (u32v s.b) := ((unhide X0).get 0 rfl).cell 1
    have c02 : W.cell? ⟨w.heap.size, 2, none⟩ = some (u32v s.c) := ((unhide X0).get 0 rfl).cell 2
    have c03 : W.cell? ⟨w.heap.size, 3, none⟩ = some (u32v s.d) := ((unhide X0).get 0 rfl).cell 3
    go_wp2_with (first
      | (go_at_call 9; refine (unhide hO _ (unhide X0).bl).mono ?_; rintro e w2 ⟨A2, c2, rfl, o2, hb2⟩
         have b2 := hide (bl_call (unhide X0).bl hb2)
         clear o2 hb2)
      | fail)
    refine wp_loop_rounds 1 ?_
    rw [rounds_succ]
    go_wp2_with fail
    go_ret
    exact ⟨rfl, unhide b2⟩
  · obtain ⟨n, hn'⟩ : ∃ n, n = l.length := ⟨_, rfl⟩
    rw [← hn']
    have hn2 : n ≤ 1000 := by rw [hn']; exact hn
    replace X0 := hide X0; replace hO := hide hO; replace hF := hide hF; replace hn' := hide hn'; replace hcl := hide hcl; replace hbk := hide hbk
    clear hT ht h hl hm1 hTl hp hok hn
    go_enter Tryz.func17, Tryz.ntmps17
    go_upto_region 1 with (fail)
    generalize hW : World.alloc w _ = W at *
    clear hW
    have c00 : W.cell? ⟨w.heap.size, 0, none⟩ = some (u32v s.a) := ((unhide X0).get 0 rfl).cell 0
    have c01 : W.cell? ⟨w.heap.size, 1, none⟩ = some (u32v s.b) := ((unhide X0).get 0 rfl).cell 1
    have c02 : W.cell? ⟨w.heap.size, 2, none⟩ = some (u32v s.c) := ((unhide X0).get 0 rfl).cell 2
    have c03 : W.cell? ⟨w.heap.size, 3, none⟩ = some (u32v s.d) := ((unhide X0).get 0 rfl).cell 3
    go_wp2_with (first
      | (go_at_call 9; refine (unhide hO _ (unhide X0).bl).mono ?_; rintro e w2 ⟨A2, c2, rfl, o2, hb2⟩
         have X2 : Fx w w2 [(w.heap.size, 24, stC s)] [] [(.slice A2 m1 c2, T)] := ((unhide X0).call hb2).addZ (Bs.of_own0 o2)
         replace X2 := hide X2
         clear o2 hb2)
      | fail)
    clear c00 c01 c02 c03 X0
    go_loopw [24] (fun s24 wr => ∃ (k : Nat), k ≤ n ∧ s24 = .int .i64 k ∧ Hid (testE T l = testE T (l.drop k)) ∧ Hid (Fx w wr [] [] [(.slice A2 m1 c2, T)])) (fun i _ => n - (intOf i).toNat)
    case atStart => exact ⟨0, by omega, rfl, hide rfl, hide ((unhide X2).sub (fun _ h => (nomatch h)) (fun _ h => h) (fun _ h => h))⟩
    case round =>
      obtain ⟨k, hk, rfl, hE, X3⟩ := hrel
      by_cases hlt : k < n
      · have hlt' : k < l.length := by rw [← unhide hn']; exact hlt
        obtain ⟨p0, p1, p2⟩ := unhide hcl k hlt'
        have bb := (unhide X3).bl
        have q0 : wr.cell? ⟨bk, off + k * 3, none⟩ = some (.int .i64 l[k].at_) := (bb.cell (p := ⟨bk, off + k * 3, none⟩) (unhide hbk)).trans p0
        have q1 : wr.cell? ⟨bk, off + k * 3 + 1, none⟩ = some (.int .i64 l[k].len) := (bb.cell (p := ⟨bk, off + k * 3 + 1, none⟩) (unhide hbk)).trans p1
        have q2 : wr.cell? ⟨bk, off + k * 3 + 2, none⟩ = some (u32v l[k].sum) := (bb.cell (p := ⟨bk, off + k * 3 + 2, none⟩) (unhide hbk)).trans p2
        have hbl : bk < wr.heap.size := Nat.lt_of_lt_of_le (unhide hbk) bb.size
        have hq := fun W h2 => unhide hF (.slice A2 m1 c2) k hlt' W h2
        unfold FindOut pcV at hq
        simp only [] at hq
        clear p0 p1 p2 bb
        by_cases hz : findE T l[k] = 0
        · have hE2 := hide (testE_step hlt' (unhide hE) hz)
          have hz' : findE T ⟨l[k].at_, l[k].len, l[k].sum⟩ = 0 := hz
          rw [hz'] at hq
          generalize findT T ⟨l[k].at_, l[k].len, l[k].sum⟩ = F at *
          generalize l[k].at_ = a at *; generalize l[k].len = d at *; generalize l[k].sum = S at *
          replace hq := hide hq
          clear hz hz' hE
          go_wp2_with (first
            | (go_at_call 36; refine (unhide hq _ (((unhide X3).alloc _).rd 0 rfl)).mono ?_; rintro e w4 ⟨A4, c4, rfl, y4, hb4⟩
               have X4 := hide (((unhide X3).alloc _).call hb4)
               clear y4 hb4)
            | fail)
          go_roundw
          case rel => exact ⟨k + 1, by omega, by go_num, hE2, X4⟩
          case measure => simp [intOf]; omega
        · have hE2 := testE_bad hlt' (unhide hE) hz
          have hz' : findE T ⟨l[k].at_, l[k].len, l[k].sum⟩ = testE T l := hE2.symm
          rw [hz'] at hq
          rw [← hE2] at hz
          obtain ⟨er, her⟩ : ∃ er, testE T l = er := ⟨_, rfl⟩
          rw [her] at hq hz hE2
          replace her := hide her
          have hzz : (er == 0) = false := by simpa using hz
          generalize findT T ⟨l[k].at_, l[k].len, l[k].sum⟩ = F at *
          generalize l[k].at_ = a at *; generalize l[k].len = d at *; generalize l[k].sum = S at *
          replace hq := hide hq
          clear hz hz' hE hE2
          go_wp2_with (first
            | (go_at_call 36; refine (unhide hq _ (((unhide X3).alloc _).rd 0 rfl)).mono ?_; rintro e w4 ⟨A4, c4, rfl, y4, hb4⟩
               have X4 := hide (((unhide X3).alloc _).call hb4)
               clear y4 hb4)
            | fail)
          go_ret
          exact ⟨ret_i rfl (unhide her).symm, (unhide X4).bl⟩
      · obtain rfl : k = n := by omega
        have hz := hide (testE_end (by have := unhide hE; rw [unhide hn'] at this; exact this))
        clear hE
        go_wp2_with fail
        go_ret
        exact ⟨ret_i rfl (unhide hz).symm, (unhide X3).bl⟩
end
end Go.Proofs.YthkccpemgmpadaaGreatDoor
