import Derived.Test.YtjjamplgecioaaaDoorW13
namespace Go.Proofs.YtjjamplgecioaaaDoor
open Go.RowKit

set_option maxHeartbeats 400000 in
theorem AbsorbR_long (lo : Nat) (s : St) (v : Value) (l : List UInt8) (w : World) (h : Bs lo w.heap.size w v l) (hl : 131072 < l.length) :
    Calls Tryd.prog 19 #[stV s, v] w fun e w' => e = .returned (.tuple #[stV zS, .int .i64 3]) ∧ Below w.heap.size w w' := by
  obtain ⟨A, c, rfl, _⟩ := h
  have h1 : (131072 : Int) < (l.length : Int) := by omega
  have hZ : Blk ((w.alloc (.cells (stC s) 24)).alloc (.cells zC 24)) (w.heap.size + 1) 24 zC := Blk.new (by simp)
  have hb : Below w.heap.size w ((w.alloc (.cells (stC s) 24)).alloc (.cells zC 24)) := bl_alloc (bl_alloc (Below.refl _ _) _) _
  replace hZ := hide hZ; replace hb := hide hb
  clear hl
  go_enter Tryd.func19, Tryd.ntmps19
  go_wp2_with (first
    | (refine wpList_store_row rfl 24 (.tmp 4) (.tmp 11) rfl (w.heap.size + 1) zC rfl rfl 24 zC (unhide hZ) size24 rfl (stC_one zS) ?_)
    | fail)
  exact ret_st2 rfl (w.heap.size + 1) zS _ rfl rfl ((unhide hZ).row _) rfl ⟨rfl, bl_row (unhide hb) _ (by omega)⟩

/-- The text, 128, and 'i' zeros. -/
def padI (l : List UInt8) (i : Nat) : List UInt8 := l ++ 128 :: List.replicate i 0
theorem padI_len (l : List UInt8) (i : Nat) : (padI l i).length = l.length + 1 + i := by simp [padI]; omega
theorem padI_all (l : List UInt8) : padI l (7 - l.length % 8) = padF l := rfl
theorem padI_succ (l : List UInt8) (i : Nat) : padI l i ++ [0] = padI l (i + 1) := by
  unfold padI
  rw [List.append_assoc, List.cons_append, ← List.replicate_succ']
theorem padI_zero (l : List UInt8) : l ++ [128] = padI l 0 := rfl
theorem one_src (w : World) (x : UInt8) : SrcOk (w.alloc (.cells #[u8v x] 5)) (some ⟨w.heap.size, 0, none⟩) 1 ([x].map u8v) := fun _ => by
  refine ⟨_, rfl, fun j u hu => ?_⟩
  rw [add_none, (Blk.new (w := w) (t := 5) (cs := #[u8v x]) rfl).cell, Nat.zero_add]
  simpa using hu
theorem one_src0 (w : World) : SrcOk (w.alloc (.cells #[.int .u8 0] 5)) (some ⟨w.heap.size, 0, none⟩) 1 (([0] : List UInt8).map u8v) := one_src w 0
theorem one_src128 (w : World) : SrcOk (w.alloc (.cells #[.int .u8 128] 5)) (some ⟨w.heap.size, 0, none⟩) 1 (([128] : List UInt8).map u8v) := one_src w 128

theorem Agree.setCell {lo hi : Nat} {a w : World} (h : Agree lo hi a w) {p : Addr} (hp : p.block < lo) (u : Value) : Agree lo hi a (w.setCell p u) := fun k h1 h2 => (Below.heap_setCell w p u k (by omega)).trans (h k h1 h2)
theorem own_row_lt {w : World} {base g : Nat} {e : TypeId} {size : Nat} {v : Value} {n : Nat} {xs : List Value} (h : w.ownsRow base e size v n xs) (C : Array Value) (hg : g < base) : (w.setRow g C).ownsRow base e size v n xs := by
  obtain ⟨h1, h2⟩ := h
  refine ⟨h1, ?_⟩
  rcases h2 with h2 | ⟨g', cap, cur, hv, hb, hh, r⟩
  · exact .inl h2
  · exact .inr ⟨g', cap, cur, hv, hb, (setRow_other w g g' C (by omega)).trans hh, r⟩
section
attribute [local go_sem] r_xor
set_option maxHeartbeats 1000000 in
theorem AbsorbR_good (lo : Nat) (s : St) (v : Value) (l : List UInt8) (w : World) (h : Bs lo w.heap.size w v l) (hl : l.length ≤ 131072) :
    Calls Tryd.prog 19 #[stV s, v] w fun e w' => e = .returned (.tuple #[stV (absorbF s l), .int .i64 0]) ∧ Below w.heap.size w w' := by
  obtain ⟨i0, hi0, hz0, hz1, hz2⟩ := info_parts info5
  obtain ⟨A, c, rfl⟩ : ∃ A c, v = .slice A l.length c := by obtain ⟨A, c, e, _⟩ := id h; exact ⟨A, c, e⟩
  have hB : Blk ((w.alloc (.cells (stC s) 24)).alloc (.cells zC 24)) w.heap.size 24 (stC s) := Blk.alloc (Blk.new rfl) _
  have hZ : Blk ((w.alloc (.cells (stC s) 24)).alloc (.cells zC 24)) (w.heap.size + 1) 24 zC := Blk.new (by simp)
  have hb : Below w.heap.size w ((w.alloc (.cells (stC s) 24)).alloc (.cells zC 24)) := bl_alloc (bl_alloc (Below.refl _ _) _) _
  have hsz : ((w.alloc (.cells (stC s) 24)).alloc (.cells zC 24)).heap.size = w.heap.size + 2 := by simp
  have hsrc := (h.below hb (Nat.le_refl _)).src.2
  have h1 : (l.length : Int) ≤ 131072 := by omega
  have hl1 : (l.map u8v).length = l.length * 1 := by simp
  have ho1 := u8s_one l
  have ho2 := u8s_one [128]
  have ho3 := u8s_one [0]
  have b1 : 0 + l.length ≤ maxLen := by simp only [maxLen]; omega
  have b2 : (0 + l.length) * 1 ≤ 140737488355328 := by omega
  have b3 : l.length + 1 ≤ maxLen := by simp only [maxLen]; omega
  have b4 : (l.length + 1) * 1 ≤ 140737488355328 := by omega
  replace hB := hide hB; replace hZ := hide hZ; replace hb := hide hb; replace hsrc := hide hsrc; replace hsz := hide hsz
  replace hl1 := hide hl1; replace ho1 := hide ho1; replace ho2 := hide ho2; replace ho3 := hide ho3; replace b1 := hide b1; replace b2 := hide b2; replace b3 := hide b3; replace b4 := hide b4
  clear h
  go_enter Tryd.func19, Tryd.ntmps19
  go_upto_region 3 with (fail)
  generalize hW : World.alloc (World.alloc w _) _ = W at *
  clear hW
  have tok1 : True := trivial
  go_wp2_with (first
    | (at_builtin
       have _t := tok1
       refine wpList_app _ rfl (.const (.slice none 0 0)) (.tmp 12) 25 rfl (w.heap.size + 2) 5 i0 _ 1 1 Tryd.underlying25 hi0 hz0 hz1 hz2 rfl (Nat.succ_pos _) _ 0 [] rfl (World.ownsRow_nil _ _ _ _) A l.length c (l.map u8v) rfl (unhide hl1) (unhide hsrc) (unhide ho1) (unhide b1) (unhide b2) (Nat.le_of_eq (unhide hsz).symm) ?_
       intro v1 w1 hown1 hg1
       have hb1 : Below W.heap.size W w1 := (Below.refl _ _).grown hg1 (Nat.le_refl _) (by intro k hk; simp [Act.eval, Value.ownBlock] at hk)
       rw [Nat.zero_add, List.nil_append] at hown1
       obtain ⟨A1, c1, rfl⟩ := ownsRow_form hown1
       have hs1 : w.heap.size + 2 ≤ w1.heap.size := Nat.le_trans (Nat.le_of_eq (unhide hsz).symm) hb1.size
       replace hown1 := hide hown1; replace hb1 := hide hb1; replace hs1 := hide hs1
       clear tok1 _t hg1)
    | (at_builtin
       refine wpList_app _ rfl (.tmp 13) (.tmp 14) 25 rfl (w.heap.size + 2) 5 i0 _ 1 1 Tryd.underlying25 hi0 hz0 hz1 hz2 rfl (Nat.succ_pos _) _ l.length (l.map u8v) rfl ((unhide hown1).alloc _) (some ⟨w1.heap.size, 0, none⟩) 1 1 (([128] : List UInt8).map u8v) rfl rfl (one_src128 w1) (unhide ho2) (unhide b3) (unhide b4) (le_alloc (unhide hs1)) ?_
       intro v2 w2 hown2 hg2
       have hb2 : Below (w.heap.size + 2) w1 w2 := bl_app (unhide hs1) (unhide hown1) hg2
       have o2 : OwnB w2 (w.heap.size + 2) v2 (padI l 0) := own_app hown2 (by simp)
       obtain ⟨A2, c2, rfl⟩ := o2.form
       clear hown2 hg2
       replace o2 := hide o2; replace hb2 := hide hb2)
    | fail)
  have B2 : Blk w2 w.heap.size 24 (stC s) := Blk.below (Blk.below (unhide hB) (unhide hb1) (unhide hB).lt) (unhide hb2) (by omega)
  have Z2 : Blk w2 (w.heap.size + 1) 24 zC := Blk.below (Blk.below (unhide hZ) (unhide hb1) (unhide hZ).lt) (unhide hb2) (by omega)
  have b2' : Below w.heap.size w w2 := (bl_call (unhide hb) (unhide hb1)).trans ((unhide hb2).mono (by omega))
  have hs2 : w.heap.size + 2 ≤ w2.heap.size := Nat.le_trans (unhide hs1) (unhide hb2).size
  replace B2 := hide B2; replace Z2 := hide Z2; replace b2' := hide b2'; replace hs2 := hide hs2
  clear hB hZ hb hsrc hl1 ho1 ho2 b1 b2 b3 b4 hown1 hb1 hs1 hb2 hsz
  go_loopw [6] (fun v wr => ∃ i n A c, v = .slice A n c ∧ Hid (n = l.length + 1 + i) ∧ Hid (i ≤ 7 - l.length % 8) ∧ Hid (OwnB wr (w.heap.size + 2) (.slice A n c) (padI l i)) ∧ Hid (Blk wr w.heap.size 24 (stC s)) ∧ Hid (Blk wr (w.heap.size + 1) 24 zC) ∧ Hid (Below w.heap.size w wr) ∧ Hid (w.heap.size + 2 ≤ wr.heap.size)) (fun v _ => (match v with | .slice _ n _ => l.length + 8 - n | _ => 0))
  case atStart => exact ⟨0, _, _, _, rfl, hide (padI_len l 0), hide (Nat.zero_le _), o2, B2, Z2, b2', hs2⟩
  case round =>
    obtain ⟨i, n, A3, c3, rfl, hn, hi, o3, B3, Z3, b3', hs3⟩ := hrel
    by_cases h7 : i < 7 - l.length % 8
    · have hne : ((n : Int) % 8 != 0) = true := by have := unhide hn; rw [bne_iff_ne]; omega
      have hpl := padI_len l i
      have hz3 : (padI l i).length + 1 ≤ maxLen := by rw [hpl]; simp only [maxLen]; omega
      have hz4 : ((padI l i).length + 1) * 1 ≤ 140737488355328 := by rw [hpl]; omega
      have hn1 : n + 1 = l.length + 1 + (i + 1) := by have := unhide hn; omega
      have hnp : (padI l i).length = n := by rw [hpl]; exact (unhide hn).symm
      rw [hnp] at hz3 hz4
      have o3' : wr.ownsRow (w.heap.size + 2) 5 1 (.slice A3 n c3) n ((padI l i).map u8v) := by have := unhide o3; unfold OwnB at this; rw [hnp] at this; exact this
      have hm : l.length + 8 - (n + 1) < l.length + 8 - n := by have := unhide hn; omega
      replace hz3 := hide hz3; replace hz4 := hide hz4; replace hn1 := hide hn1; replace hnp := hide hnp; replace o3' := hide o3'; replace hm := hide hm; replace h7 := hide h7
      clear hpl o3
      go_wp2_with (first
        | (at_builtin
           refine wpList_app _ rfl (.tmp 20) (.tmp 21) 25 rfl (w.heap.size + 2) 5 i0 _ 1 1 Tryd.underlying25 hi0 hz0 hz1 hz2 rfl (Nat.succ_pos _) _ n ((padI l i).map u8v) rfl ((unhide o3').alloc _) (some ⟨wr.heap.size, 0, none⟩) 1 1 (([0] : List UInt8).map u8v) rfl rfl (one_src0 wr) (unhide ho3) (unhide hz3) (unhide hz4) (le_alloc (unhide hs3)) ?_
           intro v4 w4 hown4 hg4
           have hb4 : Below (w.heap.size + 2) wr w4 := bl_app (unhide hs3) (unhide o3') hg4
           rw [← List.map_append, padI_succ] at hown4
           obtain ⟨A4, c4, rfl⟩ := ownsRow_form hown4
           have B4 : Blk w4 w.heap.size 24 (stC s) := Blk.below (unhide B3) hb4 (by omega)
           have Z4 : Blk w4 (w.heap.size + 1) 24 zC := Blk.below (unhide Z3) hb4 (by omega)
           have b4 : Below w.heap.size w w4 := (unhide b3').trans (hb4.mono (by omega))
           have hs4 : w.heap.size + 2 ≤ w4.heap.size := Nat.le_trans (unhide hs3) hb4.size
           clear hg4 hb4
           replace hown4 := hide hown4; replace B4 := hide B4; replace Z4 := hide Z4; replace b4 := hide b4; replace hs4 := hide hs4)
        | fail)
      go_roundw
      case rel =>
        refine ⟨i + 1, n + 1, A4, c4, rfl, hn1, hide (by have := unhide h7; omega), hide ?_, B4, Z4, b4, hs4⟩
        have := unhide hown4
        have e : n + 1 = (padI l (i + 1)).length := by rw [padI_len]; exact unhide hn1
        unfold OwnB
        rw [← e]
        exact this
      case measure => exact unhide hm
    · have he : ((n : Int) % 8 != 0) = false := by have := unhide hn; have := unhide hi; rw [bne_eq_false_iff_eq]; omega
      have hie : i = 7 - l.length % 8 := by have := unhide hi; omega
      subst hie
      have hTl := pad_len l
      have hF : absF (l.length / 8 + 1) s (padF l) = absorbF s l := rfl
      have o4 : OwnB wr (w.heap.size + 2) (.slice A3 n c3) (padF l) := unhide o3
      have hnT : n = (padF l).length := by rw [hTl]; have := unhide hn; omega
      obtain ⟨T, hT⟩ : ∃ T, T = padF l := ⟨_, rfl⟩
      obtain ⟨N, hN⟩ : ∃ N, N = l.length / 8 + 1 := ⟨_, rfl⟩
      rw [← hN] at hF hTl
      rw [← hT] at hF hTl o4 hnT
      obtain ⟨F, hFe⟩ : ∃ F, F = absorbF s l := ⟨_, rfl⟩
      rw [← hFe] at hF
      have hN1 : N ≤ 16385 := by omega
      have hnN : n = N * 8 := by rw [hnT, hTl]
      unfold OwnB at o4
      rw [← hnT] at o4
      replace hF := hide hF; replace hFe := hide hFe; replace o4 := hide o4; replace hnT := hide hnT; replace hnN := hide hnN
      clear hT hN hTl o3 hn hi
      go_wp2_with (fail)
      clear he
      go_loopw [7] (fun v wr => ∃ (j k : Nat) (S : St), v = .int .i64 k ∧ j ≤ N ∧ Hid (k = 8 * j) ∧ Hid (absF (N - j) S (T.drop k) = F) ∧ Hid (wr.ownsRow (w.heap.size + 2) 5 1 (.slice A3 n c3) n (T.map u8v)) ∧ Hid (Blk wr w.heap.size 24 (stC S)) ∧ Hid (Blk wr (w.heap.size + 1) 24 zC) ∧ Hid (Below w.heap.size w wr)) (fun v _ => n - (intOf v).toNat)
      case atStart => exact ⟨0, 0, s, rfl, Nat.zero_le _, hide rfl, hide (by rw [List.drop_zero]; exact unhide hF), o4, B3, Z3, b3'⟩
      case round =>
        obtain ⟨j, k, S, rfl, hj, hk, hA, o, B, Z, b⟩ := hrel
        by_cases hlt : j < N
        · have hkn : k + 8 ≤ n := by have := unhide hk; have := unhide hnN; omega
          have k1 : (k : Int) < (n : Int) := by omega
          have k2 : (k : Int) + 4 ≤ (n : Int) := by omega
          have k3 : (k : Int) + 8 ≤ (n : Int) := by omega
          have hnb : n ≤ 200000 := by have := unhide hnN; omega
          have i4 : IntKind.i64.wrap ((k : Int) + 4) = (k : Int) + 4 := IntWalk.i64_in _ (by omega)
          have i8 : IntKind.i64.wrap ((k : Int) + 8) = (k : Int) + 8 := IntWalk.i64_in _ (by omega)
          have hbs : Bs (w.heap.size + 2) wr.heap.size wr (.slice A3 n c3) T := by
            have := unhide o
            rw [unhide hnT] at this ⊢
            exact Bs.of_own this
          obtain ⟨Aa, ca, sa, ba⟩ := hbs.cut_lh k (k + 4) (k : Int) ((k : Int) + 4) rfl (by omega) (by omega) (by rw [← unhide hnT]; omega)
          obtain ⟨Ab, cb, sb, bb⟩ := hbs.cut_lh (k + 4) (k + 8) ((k : Int) + 4) ((k : Int) + 8) (by omega) (by omega) (by omega) (by rw [← unhide hnT]; omega)
          rw [show k + 4 - k = 4 by omega] at sa ba
          rw [show k + 8 - (k + 4) = 4 by omega] at sb bb
          have la : ((T.drop k).take 4).length = 4 := by rw [List.length_take, List.length_drop, ← unhide hnT]; omega
          have lb : ((T.drop (k + 4)).take 4).length = 4 := by rw [List.length_take, List.length_drop, ← unhide hnT]; omega
          have n0 := fun W' (ha : Agree (w.heap.size + 2) wr.heap.size wr W') => fourR_any _ _ _ _ W' (ba.keep ha) (Nat.le_of_eq la.symm)
          have n1 := fun W' (ha : Agree (w.heap.size + 2) wr.heap.size wr W') => fourR_any _ _ _ _ W' (bb.keep ha) (Nat.le_of_eq lb.symm)
          have hst : absF (N - (j + 1)) (permF ⟨S.a ^^^ four ((T.drop k).take 4), S.b ^^^ four ((T.drop (k + 4)).take 4), S.c, S.d⟩) (T.drop (k + 8)) = F := by
            have := unhide hA
            rw [show N - j = (N - (j + 1)) + 1 by omega, absF, List.drop_drop] at this
            unfold inF at this
            rw [List.drop_drop] at this
            exact this
          obtain ⟨x0, e0⟩ : ∃ x, x = four ((T.drop k).take 4) := ⟨_, rfl⟩
          obtain ⟨x1, e1⟩ : ∃ x, x = four ((T.drop (k + 4)).take 4) := ⟨_, rfl⟩
          rw [← e0] at n0 hst; rw [← e1] at n1 hst
          have l0 := (unhide B).lt
          have l1 := (unhide Z).lt
          have c0 : wr.cell? ⟨w.heap.size, 0, none⟩ = some (u32v S.a) := (unhide B).cell 0
          have f0 : wr.frozen? ⟨w.heap.size, 0, none⟩ = false := (unhide B).frozen 0
          obtain ⟨sA, sB, sC, sD⟩ := S
          simp only [] at c0 hst
          replace n0 := hide n0; replace n1 := hide n1; replace hst := hide hst
          clear hbs ba bb la lb e0 e1 hA
          go_upto_region 9 with (fail)
          go_region_law (first
            | (go_simp; go_at_call 23; refine (unhide n0 wr.drew (Agree.refl _ _ wr)).mono ?_; rintro e w1 ⟨rfl, m1, rfl⟩))
          all_goals
            have hg0 : w.heap.size < w.heap.size + 2 := by omega
            have B1 : Blk ((wr.drewN (1 + m1)).setCell ⟨w.heap.size, 0, none⟩ (.int .u32 (n32 (sA ^^^ x0)))) w.heap.size 24 (stC ⟨sA ^^^ x0, sB, sC, sD⟩) := ((unhide B).drewN _).set 0 _
            have Z1 : Blk ((wr.drewN (1 + m1)).setCell ⟨w.heap.size, 0, none⟩ (.int .u32 (n32 (sA ^^^ x0)))) (w.heap.size + 1) 24 zC := ((unhide Z).drewN _).far (by simp) _
            have b1 : Below w.heap.size w ((wr.drewN (1 + m1)).setCell ⟨w.heap.size, 0, none⟩ (.int .u32 (n32 (sA ^^^ x0)))) := (below_drewN (unhide b) _).setCell (Nat.le_refl _) _
            have o1 : ((wr.drewN (1 + m1)).setCell ⟨w.heap.size, 0, none⟩ (.int .u32 (n32 (sA ^^^ x0)))).ownsRow (w.heap.size + 2) 5 1 (.slice A3 n c3) n (T.map u8v) := ownsRow_setCell' (own_drew (unhide o)) hg0 _
            have a1 : Agree (w.heap.size + 2) wr.heap.size wr ((wr.drewN (1 + m1)).setCell ⟨w.heap.size, 0, none⟩ (.int .u32 (n32 (sA ^^^ x0)))) := (Agree.refl _ _ wr).setCell hg0 _
            generalize (wr.drewN (1 + m1)).setCell ⟨w.heap.size, 0, none⟩ (.int .u32 (n32 (sA ^^^ x0))) = W1 at *
            have c1 : W1.cell? ⟨w.heap.size, 1, none⟩ = some (u32v sB) := B1.cell 1
            have f1 : W1.frozen? ⟨w.heap.size, 1, none⟩ = false := B1.frozen 1
            replace B1 := hide B1; replace Z1 := hide Z1; replace b1 := hide b1; replace o1 := hide o1; replace a1 := hide a1
            clear c0 f0
            go_upto_region 10 with (fail)
            go_region_law (first
              | (go_simp; go_at_call 23; refine (unhide n1 W1.drew (unhide a1)).mono ?_; rintro e w1 ⟨rfl, m2, rfl⟩))
          all_goals
            have B2 : Blk ((W1.drewN (1 + m2)).setCell ⟨w.heap.size, 1, none⟩ (.int .u32 (n32 (sB ^^^ x1)))) w.heap.size 24 (stC ⟨sA ^^^ x0, sB ^^^ x1, sC, sD⟩) := ((unhide B1).drewN _).set 1 _
            have Z2 : Blk ((W1.drewN (1 + m2)).setCell ⟨w.heap.size, 1, none⟩ (.int .u32 (n32 (sB ^^^ x1)))) (w.heap.size + 1) 24 zC := ((unhide Z1).drewN _).far (by simp) _
            have b2 : Below w.heap.size w ((W1.drewN (1 + m2)).setCell ⟨w.heap.size, 1, none⟩ (.int .u32 (n32 (sB ^^^ x1)))) := (below_drewN (unhide b1) _).setCell (Nat.le_refl _) _
            have o2 : ((W1.drewN (1 + m2)).setCell ⟨w.heap.size, 1, none⟩ (.int .u32 (n32 (sB ^^^ x1)))).ownsRow (w.heap.size + 2) 5 1 (.slice A3 n c3) n (T.map u8v) := ownsRow_setCell' (own_drew (unhide o1)) hg0 _
            generalize (W1.drewN (1 + m2)).setCell ⟨w.heap.size, 1, none⟩ (.int .u32 (n32 (sB ^^^ x1))) = W2 at *
            have l2 := Z2.lt
            have l0' := B2.lt
            obtain ⟨S, hS⟩ : ∃ S : St, S = ⟨sA ^^^ x0, sB ^^^ x1, sC, sD⟩ := ⟨_, rfl⟩
            have hst' := unhide hst
            rw [← hS] at B2 hst'
            have hcall := permR_any S W2
            obtain ⟨S', hS'⟩ : ∃ S', S' = permF S := ⟨_, rfl⟩
            rw [← hS'] at hcall hst'
            have hm : n - (k + 8) < n - k := by omega
            replace B2 := hide B2; replace Z2 := hide Z2; replace b2 := hide b2; replace o2 := hide o2; replace hcall := hide hcall; replace hst' := hide hst'; replace hm := hide hm
            clear c1 f1 hS hS' hst n0 n1 B1 Z1 b1 o1 a1
            go_wp2_with (first
              | (refine wpList_load_row rfl 24 (.tmp 2) rfl w.heap.size rfl 24 (stC S) (0, 0) _ (unhide B2) Tryd.underlying24 rfl size24 ?_)
              | (go_at_call 21; refine (unhide hcall).mono ?_; rintro e w5 ⟨rfl, hb5⟩
                 have B5 := Blk.below (unhide B2) hb5 l0'
                 have Z5 := Blk.below (unhide Z2) hb5 l2
                 have b5 := bl_call (unhide b2) hb5
                 have o5 := own_below (unhide o2) hb5 (Nat.le_refl _)
                 replace B5 := hide B5; replace Z5 := hide Z5; replace b5 := hide b5; replace o5 := hide o5)
              | (refine wpList_store_row rfl 24 (.tmp 2) (.tmp 51) rfl w.heap.size (stC S') rfl rfl 24 (stC S) (unhide B5) size24 rfl (stC_one _) ?_)
              | fail)
            have B6 := (unhide B5).row (stC S')
            have Z6 := (unhide Z5).row_other (g' := w.heap.size) (stC S') (by omega)
            have b6 := bl_row (g := w.heap.size) (unhide b5) (stC S') (Nat.le_refl _)
            have o6 := own_row_lt (g := w.heap.size) (unhide o5) (stC S') (by omega)
            go_roundw
            case rel => exact ⟨j + 1, k + 8, S', by go_num, by omega, hide (by have := unhide hk; omega), hst', hide o6, hide B6, hide Z6, hide b6⟩
            case measure => simp [intOf]; have := unhide hm; omega
        · obtain rfl : j = N := by omega
          have hkn : ¬ (k : Int) < (n : Int) := by have := unhide hk; have := unhide hnN; omega
          have hSF : S = F := by
            have := unhide hA
            rw [Nat.sub_self] at this
            exact this
          replace hSF := hide hSF
          clear hA hk
          go_wp2_with (first
            | (refine wpList_load_row rfl 24 (.tmp 2) rfl w.heap.size rfl 24 (stC S) (0, 0) _ (unhide B) Tryd.underlying24 rfl size24 ?_)
            | (refine wpList_store_row rfl 24 (.tmp 4) (.tmp 52) rfl (w.heap.size + 1) (stC S) rfl rfl 24 zC (unhide Z) size24 rfl (stC_one _) ?_)
            | fail)
          exact ret_st2 rfl (w.heap.size + 1) S (.int .i64 0) rfl rfl ((unhide Z).row _) rfl ⟨by rw [unhide hSF, unhide hFe], bl_row (unhide b) _ (by omega)⟩
end
end Go.Proofs.YtjjamplgecioaaaDoor
