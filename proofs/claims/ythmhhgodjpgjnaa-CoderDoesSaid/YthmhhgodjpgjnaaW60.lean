import Derived.Test.YthmhhgodjpgjnaaW57
namespace Go.Proofs.Ythmhhgodjpgjnaa
open Go.RowKit

theorem set4_own {w : World} {base n g9 : Nat} {e : TypeId} {v : Value} {a b c d x y z u : Value} {xs : List Value} (o : w.ownsRow base e 1 v n xs) (k9 : Blk w g9 40 #[a, b, c, d]) (he : e ≠ 40) :
    ((((w.setCell ⟨g9, 0, none⟩ x).setCell ⟨g9, 1, none⟩ y).setCell ⟨g9, 2, none⟩ z).setCell ⟨g9, 3, none⟩ u).ownsRow base e 1 v n xs :=
  own_far (own_far (own_far (own_far o k9 he 0 x) (k9.set 0 x) he 1 y) ((k9.set 0 x).set 1 y) he 2 z) (((k9.set 0 x).set 1 y).set 2 z) he 3 u
theorem set4_blk {w : World} {g g9 : Nat} {e : TypeId} {x y z u : Value} {cs : Array Value} (k : Blk w g e cs) (h : g ≠ g9) :
    Blk ((((w.setCell ⟨g9, 0, none⟩ x).setCell ⟨g9, 1, none⟩ y).setCell ⟨g9, 2, none⟩ z).setCell ⟨g9, 3, none⟩ u) g e cs :=
  (((k.far (p := ⟨g9, 0, none⟩) h x).far (p := ⟨g9, 1, none⟩) h y).far (p := ⟨g9, 2, none⟩) h z).far (p := ⟨g9, 3, none⟩) h u
theorem set4_below {w w0 : World} {g9 B : Nat} {x y z u : Value} (b : Below B w0 w) (h : B ≤ g9) :
    Below B w0 ((((w.setCell ⟨g9, 0, none⟩ x).setCell ⟨g9, 1, none⟩ y).setCell ⟨g9, 2, none⟩ z).setCell ⟨g9, 3, none⟩ u) :=
  (((b.setCell (p := ⟨g9, 0, none⟩) h x).setCell (p := ⟨g9, 1, none⟩) h y).setCell (p := ⟨g9, 2, none⟩) h z).setCell (p := ⟨g9, 3, none⟩) h u

theorem dstep {w w5 : World} {base g n k : Nat} {v l : Value} {a b c d x y z u : Value} {xs ys : List Value} (y0 : Bool) (K5 : Blk w5 g 40 #[a, b, c, d]) (o5 : w5.ownsRow base 3 1 v n xs) (L5 : w5.ownsRow base 4 1 l k ys) (B5 : Below w.heap.size w w5) (hg : w.heap.size ≤ g) :
    Blk (((((((w5.alloc (.cells #[x, y, z, u] 40)).setCell ⟨g, 0, none⟩ x).setCell ⟨g, 1, none⟩ y).setCell ⟨g, 2, none⟩ z).setCell ⟨g, 3, none⟩ u)).alloc (.cells #[.bool y0] 4)) g 40 #[x, y, z, u] ∧
    (((((((w5.alloc (.cells #[x, y, z, u] 40)).setCell ⟨g, 0, none⟩ x).setCell ⟨g, 1, none⟩ y).setCell ⟨g, 2, none⟩ z).setCell ⟨g, 3, none⟩ u)).alloc (.cells #[.bool y0] 4)).ownsRow base 3 1 v n xs ∧
    (((((((w5.alloc (.cells #[x, y, z, u] 40)).setCell ⟨g, 0, none⟩ x).setCell ⟨g, 1, none⟩ y).setCell ⟨g, 2, none⟩ z).setCell ⟨g, 3, none⟩ u)).alloc (.cells #[.bool y0] 4)).ownsRow base 4 1 l k ys ∧
    Below w.heap.size w (((((((w5.alloc (.cells #[x, y, z, u] 40)).setCell ⟨g, 0, none⟩ x).setCell ⟨g, 1, none⟩ y).setCell ⟨g, 2, none⟩ z).setCell ⟨g, 3, none⟩ u)).alloc (.cells #[.bool y0] 4)) ∧
    SrcOk (((((((w5.alloc (.cells #[x, y, z, u] 40)).setCell ⟨g, 0, none⟩ x).setCell ⟨g, 1, none⟩ y).setCell ⟨g, 2, none⟩ z).setCell ⟨g, 3, none⟩ u)).alloc (.cells #[.bool y0] 4)) (some ⟨w5.heap.size + 1, 0, none⟩) 1 [.bool y0] := by
  have K6 := K5.alloc (.cells #[x, y, z, u] 40)
  have o6 := set4_own (x := x) (y := y) (z := z) (u := u) (o5.alloc (.cells #[x, y, z, u] 40)) K6 (by decide)
  have L6 := set4_own (x := x) (y := y) (z := z) (u := u) (L5.alloc (.cells #[x, y, z, u] 40)) K6 (by decide)
  have B6 := set4_below (x := x) (y := y) (z := z) (u := u) (B5.alloc B5.size (.cells #[x, y, z, u] 40)) hg
  refine ⟨(K6.set4 (x := x) (y := y) (z := z) (u := u)).alloc _, o6.alloc _, L6.alloc _, B6.alloc B6.size _, ?_⟩
  exact SrcOk.blk (t := 4) (cur := [.bool y0]) (Blk.new (by simp)) fun j u hu => by simpa using hu

set_option maxHeartbeats 2000000 in
theorem refDecode_bad (n : Int) (lo : Nat) (v v' : Value) (t : List Int) (w : World) (hv : Os lo w.heap.size w v t) (ht : okB t) (h : startE n t ≠ 0) :
    Calls Try.prog 13 #[.int .i64 n, v, v'] w fun e w' => e = .returned (.tuple #[.slice none 0 0, .int .i64 0, .int .i64 (startE n t)]) ∧ Below w.heap.size w w' := by
  have hN := fun W (hb : Below w.heap.size w W) => refStart_bad n lo v t W (hv.grow hb) ht h
  generalize startE n t = E at *
  have hE : (E != 0) = true := by simpa using h
  clear hv h
  replace hN := hide hN
  go_enter Try.func13, Try.ntmps13
  go_wp2_with (first
    | (go_at_call 17; refine (unhide hN _ (by (repeat (first | with_reducible exact Below.refl _ _ | with_reducible assumption | with_reducible refine Below.drew ?_ | with_reducible refine bl_alloc ?_ _ | with_reducible refine bl_call ?_ (by assumption) | (focus (with_reducible refine Below.setCell ?_ ?_ _; rotate_left; focus (first | omega | (simp <;> omega)))) | fail)))).mono ?_; rintro e w1 ⟨rfl, hb1⟩
       have hsz := hb1.size)
    | fail)
  go_ret3
  refine ⟨rfl, ?_⟩
  (repeat (first | with_reducible exact Below.refl _ _ | with_reducible assumption | with_reducible refine Below.drew ?_ | with_reducible refine bl_alloc ?_ _ | with_reducible refine bl_call ?_ (by assumption) | (focus (with_reducible refine Below.setCell ?_ ?_ _; rotate_left; focus (first | omega | (simp <;> omega)))) | fail))

set_option maxHeartbeats 2000000 in
theorem refDecode_good (n : Nat) (hn : n ≤ 1024) (lo lo' : Nat) (v v' : Value) (t at_ : List Int) (w : World) (hv : Os lo w.heap.size w v t) (hv' : Is lo' w.heap.size w v' at_) (ht : okB t) (hl : t.length ≤ 1000000) (hl' : at_.length ≤ 1000) (h : startE n t = 0) :
    Calls Try.prog 13 #[.int .i64 n, v, v'] w fun e w' => ∃ A c, e = .returned (.tuple #[.slice A (rdA t [] (startR n t) at_).1.length c, .int .i64 (rdA t [] (startR n t) at_).2.1, .int .i64 (rdA t [] (startR n t) at_).2.2]) ∧
      w'.ownsRow w.heap.size 4 1 (.slice A (rdA t [] (startR n t) at_).1.length c) (rdA t [] (startR n t) at_).1.length ((rdA t [] (startR n t) at_).1.flatMap bvc) ∧ Below w.heap.size w w' := by
  obtain ⟨X, hX⟩ : ∃ X, X = rdA t [] (startR n t) at_ := ⟨_, rfl⟩
  rw [← hX]
  have hN := fun W (hb : Below w.heap.size w W) => refStart_ok n hn lo v t W (hv.grow hb) ht h
  have hok := okR_start (n := (n : Int)) (by omega) h ht
  have hlen5 := (startE_iff.1 h).2.1
  have hused : (startR (n : Int) t).used ≤ t.length := by simp only [startR]; omega
  have hvg := fun W (hb : Below w.heap.size w W) => hv.grow hb
  obtain ⟨A', c', rfl, y1, y2, y3⟩ := hv'.open
  obtain ⟨i4, hi4, iz0, iz1, iz2⟩ := info4'
  generalize startR n t = r0 at *
  clear hv hv' h hlen5
  replace hN := hide hN; replace y3 := hide y3; replace hok := hide hok; replace hused := hide hused; replace hX := hide hX; replace ht := hide ht; replace hvg := hide hvg
  go_enter Try.func13, Try.ntmps13
  go_wp2_with (first
    | (go_at_call 17; refine (unhide hN _ (by (repeat (first | with_reducible exact Below.refl _ _ | with_reducible assumption | with_reducible refine Below.drew ?_ | with_reducible refine bl_alloc ?_ _ | with_reducible refine bl_call ?_ (by assumption) | (focus (with_reducible refine Below.setCell ?_ ?_ _; rotate_left; focus (first | omega | (simp <;> omega)))) | fail)))).mono ?_; rintro e w1 ⟨v1, rfl, ⟨A1, c1, rfl, hO⟩, hb1⟩; replace hO := hide hO)
    | fail)
  have hO1 := (unhide hO).alloc (.cells #[.slice A1 r0.c.length c1, .int .u32 r0.span, .int .u32 r0.code, .int .i64 r0.used] 40)
  have hK1 : Blk (w1.alloc (.cells #[.slice A1 r0.c.length c1, .int .u32 r0.span, .int .u32 r0.code, .int .i64 r0.used] 40)) w1.heap.size 40 #[.slice A1 r0.c.length c1, .int .u32 r0.span, .int .u32 r0.code, .int .i64 r0.used] := Blk.new rfl
  have hB1 := hb1.alloc hb1.size (.cells #[.slice A1 r0.c.length c1, .int .u32 r0.span, .int .u32 r0.code, .int .i64 r0.used] 40)
  have hg := hb1.size
  generalize w1.alloc (.cells #[.slice A1 r0.c.length c1, .int .u32 r0.span, .int .u32 r0.code, .int .i64 r0.used] 40) = w2 at *
  generalize w1.heap.size = g at *
  replace hO1 := hide hO1; replace hK1 := hide hK1; replace hB1 := hide hB1; replace hg := hide hg
  clear hO hb1
  go_loopw [11, 28] (fun l i wr => ∃ (k : Nat) (A : Option Addr) (c : Nat) (acc : List Bool) (r : Rdr) (A1 : Option Addr) (c1 : Nat), k ≤ at_.length ∧ i = .int .i64 k ∧ l = .slice A k c ∧ Hid (acc.length = k) ∧ Hid (X = rdA t acc r (at_.drop k)) ∧ Hid (OkR r) ∧ Hid (r.used ≤ t.length) ∧
    Hid (wr.ownsRow w.heap.size 3 1 (.slice A1 r.c.length c1) r.c.length (r.c.flatMap ivc)) ∧ Hid (Blk wr g 40 #[.slice A1 r.c.length c1, .int .u32 r.span, .int .u32 r.code, .int .i64 r.used]) ∧
    Hid (wr.ownsRow w.heap.size 4 1 (.slice A k c) k (acc.flatMap bvc)) ∧ Hid (Below w.heap.size w wr)) (fun _ i _ => at_.length - (intOf i).toNat)
  case atStart => exact ⟨0, none, 0, [], r0, A1, c1, Nat.zero_le _, rfl, rfl, hide rfl, hide (by rw [List.drop_zero]; exact unhide hX), hok, hused, hO1, hK1, hide (World.ownsRow_nil _ _ _ _), hB1⟩
  case round =>
    obtain ⟨k, A2, c2, acc, r, A3, c3, hk, rfl, rfl, ha, hXr, hkr, hur, hO, hK, hL, hB⟩ := hrel
    clear hO1 hK1 hB1 hok hused hX
    have r0' := (unhide hK).cell 0; have r1 := (unhide hK).cell 1; have r2 := (unhide hK).cell 2; have r3 := (unhide hK).cell 3
    simp at r0' r1 r2 r3
    by_cases hlt : k < at_.length
    · obtain ⟨b, off, rfl, g1, g2, q0⟩ := unhide y3 k hlt
      have c0 := ((unhide hB).cell (p := ⟨b, off + k, none⟩) g2).trans q0
      have hd : at_.drop k = at_[k] :: at_.drop (k + 1) := List.drop_eq_getElem_cons hlt
      have hX2 := unhide hXr
      rw [hd, rdA] at hX2
      generalize at_[k] = i at *
      have hP := refNext_any w.heap.size lo i (.agg #[.slice A3 r.c.length c3, .int .u32 r.span, .int .u32 r.code, .int .i64 r.used]) v r t wr (unhide hB).size ⟨A3, c3, rfl, unhide hO⟩ (unhide hvg _ (unhide hB)) (unhide hkr) (unhide ht) hl (unhide hur)
      have hkr2 := nextR_ok (i := i) (unhide ht) (unhide hkr)
      have hur2 := nextR_used (t := t) (r := r) (i := i) (unhide hur)
      generalize nextR t r i = Y at *
      obtain ⟨y0, r', y2'⟩ := Y
      simp only [] at hX2 hP hkr2 hur2
      have z1 : b < wr.heap.size := World.block_lt_of_cell? wr _ c0
      have hgl := (unhide hK).lt
      replace hP := hide hP; replace hkr2 := hide hkr2; replace hur2 := hide hur2
      clear q0 hd hXr hkr hur
      by_cases he : y2' = 0
      · rw [if_pos he] at hX2
        replace hX2 := hide hX2
        subst he
        have b1 : k + 1 ≤ maxLen := by simp only [maxLen]; omega
        have b2 : (k + 1) * 1 ≤ 140737488355328 := by omega
        have s1 : ∀ u ∈ [Value.bool y0], u.oneCell' = true := by intro u hu; simp at hu; subst hu; rfl
        have i1 : IntKind.i64.wrap ((k : Int) + 1) = (k : Int) + 1 := IntWalk.i64_in _ (by omega)
        replace b1 := hide b1; replace b2 := hide b2; replace s1 := hide s1
        go_wp2_with (first
          | (go_at_call 20; refine (unhide hP).mono ?_; rintro e w5 ⟨v5, rfl, ⟨A5, c5, rfl, o5⟩, hb5⟩
             have K5 := (unhide hK).below hb5 hgl
             have L5 := own_below (unhide hL) hb5 (Nat.le_refl _)
             have B5 := bl_call (unhide hB) hb5
             obtain ⟨K8, o8, L8, B8, S8⟩ := dstep (x := .slice A5 r'.c.length c5) (y := .int .u32 r'.span) (z := .int .u32 r'.code) (u := .int .i64 r'.used) y0 K5 o5 L5 B5 (unhide hg)
             have f0 := (K5.alloc (.cells #[.slice A5 r'.c.length c5, .int .u32 r'.span, .int .u32 r'.code, .int .i64 r'.used] 40)).frozen 0
             have f1 := (K5.alloc (.cells #[.slice A5 r'.c.length c5, .int .u32 r'.span, .int .u32 r'.code, .int .i64 r'.used] 40)).frozen 1
             have f2 := (K5.alloc (.cells #[.slice A5 r'.c.length c5, .int .u32 r'.span, .int .u32 r'.code, .int .i64 r'.used] 40)).frozen 2
             have f3 := (K5.alloc (.cells #[.slice A5 r'.c.length c5, .int .u32 r'.span, .int .u32 r'.code, .int .i64 r'.used] 40)).frozen 3
             have d0 := (K5.alloc (.cells #[.slice A5 r'.c.length c5, .int .u32 r'.span, .int .u32 r'.code, .int .i64 r'.used] 40)).cell 0
             have d1 := (K5.alloc (.cells #[.slice A5 r'.c.length c5, .int .u32 r'.span, .int .u32 r'.code, .int .i64 r'.used] 40)).cell 1
             have d2 := (K5.alloc (.cells #[.slice A5 r'.c.length c5, .int .u32 r'.span, .int .u32 r'.code, .int .i64 r'.used] 40)).cell 2
             have d3 := (K5.alloc (.cells #[.slice A5 r'.c.length c5, .int .u32 r'.span, .int .u32 r'.code, .int .i64 r'.used] 40)).cell 3
             simp at d0 d1 d2 d3
             replace K8 := hide K8; replace o8 := hide o8; replace L8 := hide L8; replace B8 := hide B8; replace S8 := hide S8
             clear K5 o5 L5 B5)
          | (at_builtin
             refine wpList_app _ rfl (.tmp 44) (.tmp 46) 29 rfl w.heap.size 4 i4 _ 1 1 Try.underlying29 hi4 iz0 iz1 iz2 rfl (Nat.succ_pos _) _ k (acc.flatMap bvc) rfl (unhide L8) (some ⟨w5.heap.size + 1, 0, none⟩) 1 1 [.bool y0] rfl rfl (unhide S8) (unhide s1) (unhide b1) (unhide b2) (unhide B8).size ?_
             intro v6 w6 o6 g6
             obtain ⟨A6, c6, rfl⟩ := ownsRow_form o6
             have B6 : Below w.heap.size w w6 := bl_grown (unhide B8) g6 (own_base (unhide L8))
             have K6 := (unhide K8).grown g6 (own_ne (unhide L8) (unhide K8) (by decide))
             have P6 := own_grown (unhide o8) g6 (own_own (unhide o8) (unhide L8) (by decide))
             replace o6 := hide o6; replace K6 := hide K6; replace B6 := hide B6; replace P6 := hide P6
             clear g6)
          | fail)
        clear i1
        go_roundw
        case rel => exact ⟨k + 1, A6, c6, acc ++ [y0], r', A5, c5, by omega, by go_num, rfl, hide (by rw [List.length_append, unhide ha]; rfl), hX2, hkr2, hur2, P6, K6, hide (by rw [List.flatMap_append]; exact unhide o6), B6⟩
        case measure => simp [intOf]; omega
      · rw [if_neg he] at hX2
        have he' : (y2' != 0) = true := by simpa using he
        replace hX2 := hide hX2
        clear he
        go_wp2_with (first
          | (go_at_call 20; refine (unhide hP).mono ?_; rintro e w5 ⟨v5, rfl, ⟨A5, c5, rfl, o5⟩, hb5⟩
             have B5 := bl_call (unhide hB) hb5
             replace B5 := hide B5
             clear o5 hb5)
          | fail)
        go_ret3
        rw [unhide hX2]
        exact ⟨none, 0, rfl, World.ownsRow_nil _ _ _ _, (unhide B5).alloc (unhide B5).size _⟩
    · obtain rfl : k = at_.length := by omega
      have hX2 := unhide hXr
      rw [List.drop_length, rdA] at hX2
      have hO2 := unhide hL
      replace hX2 := hide hX2; replace hO2 := hide hO2
      clear hXr hL hO
      go_wp2_with fail
      go_quiet (fail)
      all_goals go_wp2_with fail
      go_ret3
      rw [unhide hX2]
      simp only []
      rw [unhide ha]
      exact ⟨A2, c2, rfl, unhide hO2, below_drewN (unhide hB) _⟩
theorem refDecode_any (n : Int) (lo lo' : Nat) (v v' : Value) (t at_ : List Int) (w : World) (hv : Os lo w.heap.size w v t) (hv' : Is lo' w.heap.size w v' at_) (ht : okB t) (hl : t.length ≤ 1000000) (hl' : at_.length ≤ 1000) :
    Calls Try.prog 13 #[.int .i64 n, v, v'] w fun e w' => ∃ A c, e = .returned (.tuple #[.slice A (decR n t at_).1.length c, .int .i64 (decR n t at_).2.1, .int .i64 (decR n t at_).2.2]) ∧
      w'.ownsRow w.heap.size 4 1 (.slice A (decR n t at_).1.length c) (decR n t at_).1.length ((decR n t at_).1.flatMap bvc) ∧ Below w.heap.size w w' := by
  by_cases h : startE n t = 0
  · obtain ⟨n0, n1⟩ := newN_iff.1 (startE_iff.1 h).1
    obtain ⟨m, rfl⟩ : ∃ m : Nat, n = (m : Int) := ⟨n.toNat, by omega⟩
    have e : decR m t at_ = rdA t [] (startR m t) at_ := by unfold decR; rw [if_pos h]
    rw [e]
    exact refDecode_good m (by omega) lo lo' v v' t at_ w hv hv' ht hl hl' h
  · have e : decR n t at_ = ([], 0, startE n t) := by unfold decR; rw [if_neg h]
    rw [e]
    exact (refDecode_bad n lo v v' t w hv ht h).mono fun e w' ⟨h1, h2⟩ => ⟨none, 0, h1, World.ownsRow_nil _ _ _ _, h2⟩
end Go.Proofs.Ythmhhgodjpgjnaa
