import Derived.Test.YtiobhglhfjbcbaaW33
import Derived.Test.YtiobhglhfjbcbaaW24
namespace Go.Proofs.Ytiobhglhfjbcbaa
open Go.RowKit

theorem strU_eq (a b : List UInt8) : ((strU a).toList == (strU b).toList) = decide (a = b) := by
  have e1 : (strU a).toList = a := strU_toList a
  have e2 : (strU b).toList = b := strU_toList b
  rw [e1, e2, Bool.eq_iff_iff]; simp
theorem Bs.drewN' {lo hi : Nat} {w : World} {v : Value} {l : List UInt8} (h : Bs lo hi w v l) (n : Nat) : Bs lo hi (w.drewN n) v l := h

/-- Telling a token that is again, onto a row. -/
theorem rtell_lit (base : Nat) (A : Option Addr) (n c : Nat) (l : List UInt8) (N J : Int) (w : World) (h : w.ownsRow base 5 1 (.slice A n c) n (l.map u8v)) (hb : base ≤ w.heap.size) (n3 : 3 ≤ N) (n18 : N ≤ 18) (j1 : 1 ≤ J) (j2 : J ≤ 256) (hd : J ≤ n) (hn : n ≤ 2000000) :
    Calls Try.prog 24 #[.slice A n c, .agg #[.int .u8 0, .int .i64 N, .int .i64 J]] w fun e w' => ∃ A' n' c', e = .returned (.slice A' n' c') ∧ w'.ownsRow base 5 1 (.slice A' n' c') n' ((tellN l J.toNat N.toNat).map u8v) ∧ Below base w w' := by
  have hok : okT ⟨0, N, J⟩ = true := by rw [okT_iff]; exact .inr ⟨by omega, rfl, n3, n18, j1, j2⟩
  have ht : tellT l ⟨0, N, J⟩ = tellN l J.toNat N.toNat := by
    unfold tellT
    simp only []
    rw [if_neg (by omega)]
  have h := rtell_any base A n c l ⟨0, N, J⟩ w h hb hok hd hn
  rw [ht] at h
  exact h.mono fun _ _ ⟨A', n', c', he, _, ho, hb⟩ => ⟨A', n', c', he, ho, hb⟩

set_option maxRecDepth 100000 in
set_option maxHeartbeats 16000000 in
theorem rFind_main (lo : Nat) (v : Value) (l : List UInt8) (a : Nat) (M T : Int) (w : World) (h : Bs lo w.heap.size w v l) (hL : l.length ≤ 65536) (ha : a < l.length) (hB : Best l a M T) :
    Calls Try.prog 12 #[v, .int .i64 a] w fun e w' => e = .returned (.tuple #[.agg #[.int .u8 0, .int .i64 (if T = 0 then 0 else M), .int .i64 T], .int .i64 (if T = 0 then 4 else 0)]) ∧ Below w.heap.size w w' := by
  obtain ⟨i0, hi0, iz0, iz1, iz2⟩ := info_parts info5
  obtain ⟨A, c, rfl, h1, h2, _⟩ := h.open
  obtain ⟨G, hG⟩ : ∃ G : Int, G = (a : Int) := ⟨_, rfl⟩
  have hpre := Bs.pre h a (by omega)
  have hla : (l.take a).length = a := by rw [List.length_take]; omega
  have hsrc := fun W (hb : Below w.heap.size w W) => SrcOk.below hpre.src.2 hb
  have hone := u8s_one (l.take a)
  have hlm : ((l.take a).map u8v).length = a * 1 := by simp; omega
  have b1 : 0 + a ≤ maxLen := by simp only [maxLen]; omega
  have b2 : (0 + a) * 1 ≤ 140737488355328 := by omega
  have hsl := fun W => slice_b A l.length c G a hG (by omega) W
  rw [← hG]
  have j1 : 0 ≤ G := by omega
  have j2 : G < (l.length : Int) := by omega
  have j3 : (l.length : Int) ≤ 65536 := by omega
  have m0 := hB.m0
  have m1 := hB.m1
  replace hG := hide hG; replace hpre := hide hpre; replace hla := hide hla; replace hsrc := hide hsrc; replace hone := hide hone; replace hlm := hide hlm; replace b1 := hide b1; replace b2 := hide b2; replace h := hide h; replace hB := hide hB
  have k1 : IntKind.i64.wrap ((l.length : Int) - G) = (l.length : Int) - G := IntWalk.i64_in _ (by omega)
  go_enter Try.func12, Try.ntmps12
  go_wp2
  go_loopw [6] (fun i wr => ∃ (N : Int), 2 ≤ N ∧ N ≤ 18 ∧ M ≤ N ∧ i = .int .i64 N ∧ Hid (Below w.heap.size w wr) ∧ Hid (Blk wr w.heap.size 25 #[.int .u8 0, .int .i64 0, .int .i64 0])) (fun i _ => (intOf i).toNat)
  case atStart => exact ⟨18, by omega, by omega, m1, rfl, hide (by (repeat (first | with_reducible exact Below.refl _ _ | with_reducible assumption | with_reducible refine Below.drew ?_ | with_reducible refine bl_alloc ?_ _ | with_reducible refine bl_call ?_ (by assumption) | (focus (with_reducible refine Below.setCell ?_ ?_ _; rotate_left; focus (first | omega | (simp <;> omega)))) | fail))), hide (by (repeat (first | with_reducible assumption | (focus (with_reducible refine Blk.new ?_; focus (simp <;> fail))) | with_reducible refine Blk.set3 (a := .int .u8 0) (b := .int .i64 0) (c := .int .i64 0) ?_ | with_reducible refine Blk.alloc ?_ _ | with_reducible refine Blk.drew ?_ | (focus (with_reducible refine Blk.far ?_ ?_ _; rotate_left; focus (first | omega | (simp <;> omega)))) | (focus (with_reducible refine Blk.below ?_ hb1 ?_; rotate_left; focus (first | omega | (simp <;> omega)))) | (focus (with_reducible refine Blk.below ?_ hb2 ?_; rotate_left; focus (first | omega | (simp <;> omega)))) | (focus (with_reducible refine Blk.below ?_ hb3 ?_; rotate_left; focus (first | omega | (simp <;> omega)))) | (focus (with_reducible refine Blk.below ?_ hb4 ?_; rotate_left; focus (first | omega | (simp <;> omega)))) | (focus (with_reducible refine Blk.below ?_ hb5 ?_; rotate_left; focus (first | omega | (simp <;> omega)))) | (focus (with_reducible refine Blk.below ?_ hb6 ?_; rotate_left; focus (first | omega | (simp <;> omega)))) | (focus (with_reducible refine Blk.below ?_ hb7 ?_; rotate_left; focus (first | omega | (simp <;> omega)))) | (focus (with_reducible refine Blk.below ?_ hb8 ?_; rotate_left; focus (first | omega | (simp <;> omega)))) | (focus (with_reducible refine Blk.below ?_ hb9 ?_; rotate_left; focus (first | omega | (simp <;> omega)))) | (focus (with_reducible refine Blk.below ?_ hb10 ?_; rotate_left; focus (first | omega | (simp <;> omega)))) | (focus (with_reducible refine Blk.below ?_ hb11 ?_; rotate_left; focus (first | omega | (simp <;> omega)))) | (focus (with_reducible refine Blk.below ?_ hb12 ?_; rotate_left; focus (first | omega | (simp <;> omega)))) | fail)))⟩
  case round =>
    obtain ⟨N, n0, n1, n2, rfl, hb, hZ⟩ := hrel
    by_cases h3 : 3 ≤ N
    · go_wp2_with fail
      go_loopw [7] (fun j wx => ∃ J : Int, 1 ≤ J ∧ J ≤ 257 ∧ J ≤ G + 1 ∧ j = .int .i64 J ∧ Hid (T ≠ 0 → N = M → J ≤ T) ∧ Hid (Below w.heap.size w wx) ∧ Hid (Blk wx w.heap.size 25 #[.int .u8 0, .int .i64 0, .int .i64 0])) (fun j _ => 258 - (intOf j).toNat)
      case atStart => exact ⟨1, by omega, by omega, by omega, rfl, hide (fun ht _ => by have := (unhide hB).t0; omega), hb, hZ⟩
      case round =>
        clear hb hZ
        obtain ⟨J, g0, g1, g2, rfl, hJ, hb, hZ⟩ := hrel
        by_cases hgo : J ≤ 256 ∧ J ≤ G ∧ N ≤ (l.length : Int) - G
        · obtain ⟨o1, o2, o3⟩ := hgo
          have hG' := unhide hG
          have htst := told_iff (l := l) (a := a) (d := J.toNat) (n := N.toNat) (by omega) (by omega) (by omega) (by omega)
          have i1 : IntKind.i64.wrap (G + N) = G + N := IntWalk.i64_in _ (by omega)
          have i2 : IntKind.i64.wrap (J + 1) = J + 1 := IntWalk.i64_in _ (by omega)
          have hsl2 := fun W => slice_b A l.length c (G + N) (a + N.toNat) (by omega) (by omega) W
          have hb0 := unhide hb
          have hsz := hb0.size
          have hbx : Below w.heap.size w (wr.alloc (.cells #[.int .u8 0, .int .i64 N, .int .i64 J] 25)) := bl_alloc hb0 _
          have hda : J ≤ (a : Int) := by omega
          clear hG'
          replace htst := hide htst; replace hb0 := hide hb0; replace hbx := hide hbx; replace hda := hide hda
          go_wp2_with fail
          go_region_held3 (fun W => W.cell? ⟨wr.heap.size, 0, none⟩ = some (.int .u8 0) ∧ W.cell? ⟨wr.heap.size, 1, none⟩ = some (.int .i64 N) ∧ W.cell? ⟨wr.heap.size, 2, none⟩ = some (.int .i64 J)) (first | exact ⟨by go_simp, by go_simp, by go_simp⟩)
            (first
              | (refine step_app rfl (.const (.slice none 0 0)) (.tmp 49) 22 rfl (wr.heap.size + 1) 5 i0 _ 1 1 Try.underlying22 hi0 iz0 iz1 iz2 rfl (Nat.succ_pos _) _ 0 [] rfl (World.ownsRow_nil _ _ _ _) A a c _ rfl (unhide hlm) (unhide hsrc _ (by first | exact unhide hbx | exact Below.drew (unhide hbx))) (unhide hone) (unhide b1) (unhide b2) (by simp <;> omega) ?_
                 intro v2 w2 hown2 hg2
                 have hb2 : Below (wr.heap.size + 1) (wr.alloc (.cells #[.int .u8 0, .int .i64 N, .int .i64 J] 25)) w2 := (Below.drew (Below.refl _ _)).grown hg2 (by simp <;> omega) (by intro k hk; simp [Act.eval, Value.ownBlock] at hk)
                 rw [Nat.zero_add, List.nil_append] at hown2
                 obtain ⟨A2, c2, rfl⟩ := ownsRow_form hown2
                 obtain ⟨hc2, hf2⟩ : (∀ b o, b < wr.heap.size + 1 → w2.cell? ⟨b, o, none⟩ = _) ∧ True := ⟨fun b o h => hb2.cell (p := ⟨b, o, none⟩) h, trivial⟩
                 have hz2 := hb2.size
                 simp at hz2
                 replace hown2 := hide hown2; replace hb2 := hide hb2)
              | (go_at_call 24
                 refine (rtell_lit (wr.heap.size + 1) A2 a c2 (l.take a) N J _ (show World.ownsRow _ _ _ _ _ _ _ from unhide hown2) (by first | omega | (simp <;> omega)) h3 n1 g0 o1 (unhide hda) (by omega)).mono ?_
                 rintro e w3 ⟨A3, n3, c3, rfl, hown3, hb3⟩
                 obtain ⟨hc3, hf3⟩ : (∀ b o, b < wr.heap.size + 1 → w3.cell? ⟨b, o, none⟩ = _) ∧ True := ⟨fun b o h => hb3.cell (p := ⟨b, o, none⟩) h, trivial⟩
                 have hz3 := hb3.size
                 (try simp at hz3)
                 replace hown3 := hide hown3; replace hb3 := hide hb3))
          have hbw3 : Below w.heap.size w w3 := ((unhide hbx).trans ((unhide hb2).mono (by omega))).trans ((unhide hb3).mono (by omega))
          have hZ3 : Blk w3 w.heap.size 25 #[.int .u8 0, .int .i64 0, .int .i64 0] := Blk.below (Blk.below ((unhide hZ).alloc _) (unhide hb2) (by omega)) (show Below (wr.heap.size + 1) w2 w3 from unhide hb3) (by omega)
          have hX3 : Blk w3 wr.heap.size 25 #[.int .u8 0, .int .i64 N, .int .i64 J] := Blk.below (Blk.below (Blk.new rfl) (unhide hb2) (by omega)) (show Below (wr.heap.size + 1) w2 w3 from unhide hb3) (by omega)
          have q1 := fun n => (Bs.drewN' (Bs.own (unhide hown3)) n).convert
          have q2 := fun n => (Bs.drewN' (Bs.below (Bs.pre (unhide h) (a + N.toNat) (by have := unhide hG; omega)) hbw3 (Nat.le_refl _)) n).convert
          have hs := strU_eq (tellN (l.take a) J.toNat N.toNat) (l.take (a + N.toNat))
          have u0 := hZ3.cell 0
          have u1 := hZ3.cell 1
          have u2 := hZ3.cell 2
          simp at u0 u1 u2
          have v0 := hZ3.frozen 0
          have v1 := hZ3.frozen 1
          have v2 := hZ3.frozen 2
          have s0 := hX3.cell 0
          have s1 := hX3.cell 1
          have s2 := hX3.cell 2
          simp at s0 s1 s2
          have z0 : w.heap.size < w3.heap.size := hZ3.lt
          have z1 : wr.heap.size < w3.heap.size := hX3.lt
          by_cases hf : T ≠ 0 ∧ N = M ∧ J = T
          · obtain ⟨f1, f2, f3⟩ := hf
            have ht : tellN (l.take a) J.toNat N.toNat = l.take (a + N.toNat) := by
              rw [(unhide htst)]
              have := (unhide hB).at_ f1
              rw [f2, f3]
              omega
            rw [decide_eq_true ht] at hs
            clear ht hc2 hc3 hf2 hf3
            generalize tellN (l.take a) J.toNat N.toNat = X1 at *
            generalize l.take (a + N.toNat) = X2 at *
            generalize strU X1 = S1 at *
            generalize strU X2 = S2 at *
            replace hbw3 := hide hbw3; replace hZ3 := hide hZ3; replace hX3 := hide hX3; replace f1 := hide f1; replace f2 := hide f2; replace f3 := hide f3
            go_wp2_with fail
            go_quiet (fail)
            go_wp2_with fail
            have e2 := unhide f2
            have e3 := unhide f3
            subst e2 e3
            have B0 := unhide hZ3
            refine ret_tk rfl w.heap.size (.int .u8 0) (.int .i64 N) (.int .i64 J) (.int .i64 0) rfl rfl ?_ rfl ⟨rfl, ?_⟩
            · exact Blk.set3 (B0.drewN _)
            · have hb9 := below_drewN (unhide hbw3) nq
              (repeat (first | with_reducible exact Below.refl _ _ | with_reducible assumption | with_reducible refine Below.drew ?_ | with_reducible refine bl_alloc ?_ _ | with_reducible refine bl_call ?_ (by assumption) | (focus (with_reducible refine Below.setCell ?_ ?_ _; rotate_left; focus (first | omega | (simp <;> omega)))) | fail))
          · have ht : ¬ tellN (l.take a) J.toNat N.toNat = l.take (a + N.toNat) := by
              rw [(unhide htst)]
              intro hle
              have hda' := unhide hda
              obtain ⟨r1, r2⟩ := (unhide hB).most J.toNat (by omega) (by omega) (by omega)
              by_cases hT : T = 0
              · have := (unhide hB).none hT; omega
              · have hMN : N = M := by omega
                have := unhide hJ hT hMN
                have hlt : J < T := by
                  rcases Int.lt_or_eq_of_le this with h | h
                  · exact h
                  · exact absurd ⟨hT, hMN, h⟩ hf
                have := r2 hT (by omega)
                omega
            rw [decide_eq_false ht] at hs
            have hJ2 : Hid (T ≠ 0 → N = M → J + 1 ≤ T) := hide fun hT hMN => by
              have := unhide hJ hT hMN
              rcases Int.lt_or_eq_of_le this with h | h
              · omega
              · exact absurd ⟨hT, hMN, h⟩ hf
            clear ht hc2 hc3 hf2 hf3 hf
            generalize tellN (l.take a) J.toNat N.toNat = X1 at *
            generalize l.take (a + N.toNat) = X2 at *
            generalize strU X1 = S1 at *
            generalize strU X2 = S2 at *
            replace hbw3 := hide hbw3; replace hZ3 := hide hZ3; replace hX3 := hide hX3
            go_wp2_with fail
            go_quiet (fail)
            go_wp2_with fail
            clear i1 i2
            go_roundw
            case rel => exact ⟨J + 1, by omega, by omega, by omega, rfl, hJ2, hide (below_drewN (unhide hbw3) _), hide ((unhide hZ3).drewN _)⟩
            case measure => simp [intOf]; omega
        · have hNM : T ≠ 0 → N ≠ M := fun hT hMN => by
            have h1 := unhide hJ hT hMN
            obtain ⟨r1, r2, r3, r4⟩ := (unhide hB).some hT
            have := unhide hG
            exact hgo ⟨by omega, by omega, by omega⟩
          have hn2 : M ≤ N - 1 := by
            by_cases hT : T = 0
            · have := (unhide hB).none hT; omega
            · have := hNM hT; omega
          have i1 : IntKind.i64.wrap (N - 1) = N - 1 := IntWalk.i64_in _ (by omega)
          clear hNM
          replace hgo := hide hgo
          go_wp2_with fail
          all_goals first
            | (have hgo' := unhide hgo; exfalso; omega)
            | skip
          all_goals clear i1
          all_goals
            go_roundw
            case rel => exact ⟨N - 1, by omega, by omega, hn2, rfl, hb, hZ⟩
            case measure => simp [intOf]; omega
    · obtain rfl : N = 2 := by omega
      have hT : T = 0 := by
        apply Classical.byContradiction
        intro hne
        have := ((unhide hB).some hne).1
        omega
      subst hT
      have u0 := (unhide hZ).cell 0
      have u1 := (unhide hZ).cell 1
      have u2 := (unhide hZ).cell 2
      simp at u0 u1 u2
      have v0 := (unhide hZ).frozen 0
      have v1 := (unhide hZ).frozen 1
      have v2 := (unhide hZ).frozen 2
      have y0 := (unhide hZ).lt
      go_wp2_with fail
      have B0 := unhide hZ
      have hb0 := unhide hb
      refine ret_tk rfl w.heap.size (.int .u8 0) (.int .i64 0) (.int .i64 0) (.int .i64 4) rfl rfl ?_ rfl ⟨by simp, by (repeat (first | with_reducible exact Below.refl _ _ | with_reducible assumption | with_reducible refine Below.drew ?_ | with_reducible refine bl_alloc ?_ _ | with_reducible refine bl_call ?_ (by assumption) | (focus (with_reducible refine Below.setCell ?_ ?_ _; rotate_left; focus (first | omega | (simp <;> omega)))) | fail))⟩
      (repeat (first | with_reducible assumption | (focus (with_reducible refine Blk.new ?_; focus (simp <;> fail))) | with_reducible refine Blk.set3 (a := .int .u8 0) (b := .int .i64 0) (c := .int .i64 0) ?_ | with_reducible refine Blk.alloc ?_ _ | with_reducible refine Blk.drew ?_ | (focus (with_reducible refine Blk.far ?_ ?_ _; rotate_left; focus (first | omega | (simp <;> omega)))) | (focus (with_reducible refine Blk.below ?_ hb1 ?_; rotate_left; focus (first | omega | (simp <;> omega)))) | (focus (with_reducible refine Blk.below ?_ hb2 ?_; rotate_left; focus (first | omega | (simp <;> omega)))) | (focus (with_reducible refine Blk.below ?_ hb3 ?_; rotate_left; focus (first | omega | (simp <;> omega)))) | (focus (with_reducible refine Blk.below ?_ hb4 ?_; rotate_left; focus (first | omega | (simp <;> omega)))) | (focus (with_reducible refine Blk.below ?_ hb5 ?_; rotate_left; focus (first | omega | (simp <;> omega)))) | (focus (with_reducible refine Blk.below ?_ hb6 ?_; rotate_left; focus (first | omega | (simp <;> omega)))) | (focus (with_reducible refine Blk.below ?_ hb7 ?_; rotate_left; focus (first | omega | (simp <;> omega)))) | (focus (with_reducible refine Blk.below ?_ hb8 ?_; rotate_left; focus (first | omega | (simp <;> omega)))) | (focus (with_reducible refine Blk.below ?_ hb9 ?_; rotate_left; focus (first | omega | (simp <;> omega)))) | (focus (with_reducible refine Blk.below ?_ hb10 ?_; rotate_left; focus (first | omega | (simp <;> omega)))) | (focus (with_reducible refine Blk.below ?_ hb11 ?_; rotate_left; focus (first | omega | (simp <;> omega)))) | (focus (with_reducible refine Blk.below ?_ hb12 ?_; rotate_left; focus (first | omega | (simp <;> omega)))) | fail))
end Go.Proofs.Ytiobhglhfjbcbaa
