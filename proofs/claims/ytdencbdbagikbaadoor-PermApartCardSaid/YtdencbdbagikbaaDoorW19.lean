import Derived.Test.YtdencbdbagikbaaDoorW16
namespace Go.Proofs.YtdencbdbagikbaaDoor
open Go.RowKit

theorem u8_range {a : Int} (h : (Lit.int .u8 a).wf = true) : ∃ n : Nat, a = (n : Int) ∧ n < 256 := by
  have hz : 0 ≤ a ∧ a < 256 := by
    have e : IntKind.u8.min ≤ a ∧ a ≤ IntKind.u8.max := by simpa [Lit.wf] using h
    have e1 : IntKind.u8.min = 0 := by decide
    have e2 : IntKind.u8.max = 255 := by decide
    omega
  exact ⟨a.toNat, by omega, by omega⟩
theorem Bs.to {lo : Nat} {w w' : World} {v : Value} {l : List UInt8} (h : Bs lo w.heap.size w v l) (hb : Below w.heap.size w w') : Bs lo w'.heap.size w' v l :=
  (h.below hb (Nat.le_refl _)).mono (Nat.le_refl _) hb.size

set_option maxHeartbeats 1000000 in
theorem fewer_main (s : St) (n m k k8 : Nat) (w : World) (ht : Tab w) (hn : n < 256) (hm : m < 256) (hk : k = n + m) (hk8 : k8 = n + 8) :
    Calls Tryd.prog 7 #[stV s, .int .u8 n, .int .u8 m] w fun e w' => e = .returned (.bool true) ∧ Below w.heap.size w w' := by
  have hA : Blk (w.alloc (.cells (stC s) 24)) w.heap.size 24 (stC s) := Blk.new rfl
  have hb : Below w.heap.size w (w.alloc (.cells (stC s) 24)) := bl_alloc (Below.refl _ _) _
  have q0 := fun W' (hb : Below w.heap.size w W') => Squeeze_good s n W' (ht.below hb (Nat.le_refl _)) (by omega)
  have q1 := fun W' (hb : Below w.heap.size w W') => Squeeze_good s k W' (ht.below hb (Nat.le_refl _)) (by omega)
  have qp := fun W' (hb : Below w.heap.size w W') => perm_any s W' (ht.below hb (Nat.le_refl _))
  have q2 := fun W' (hb : Below w.heap.size w W') => Squeeze_good (permF s) n W' (ht.below hb (Nat.le_refl _)) (by omega)
  have q3 := fun W' (hb : Below w.heap.size w W') => Squeeze_good s k8 W' (ht.below hb (Nat.le_refl _)) (by omega)
  have f1 : squeezeF s n = (squeezeF s k).take n := by rw [hk, squeeze_fewer]
  have f2 : squeezeF (permF s) n = (squeezeF s k8).drop 8 := by rw [hk8, squeeze_next]
  have g0 := squeeze_len s n
  have g1 := squeeze_len s k
  have g2 := squeeze_len (permF s) n
  have g3 := squeeze_len s k8
  have i1 : IntKind.i64.wrap ((n : Int) + (m : Int)) = (k : Int) := by rw [IntWalk.i64_in _ (by omega)]; omega
  have i2 : IntKind.i64.wrap ((n : Int) + 8) = (k8 : Int) := by rw [IntWalk.i64_in _ (by omega)]; omega
  have i3 : IntKind.i64.wrap (n : Int) = (n : Int) := IntWalk.i64_in _ (by omega)
  have i4 : IntKind.i64.wrap (m : Int) = (m : Int) := IntWalk.i64_in _ (by omega)
  have j1 : (n : Int) ≤ (k : Int) := by omega
  have j2 : (8 : Int) ≤ (k8 : Int) := by omega
  have j3 : n ≤ k := by omega
  have j4 : 8 ≤ k8 := by omega
  generalize squeezeF s n = a at *
  generalize squeezeF s k = b at *
  generalize squeezeF (permF s) n = c at *
  generalize squeezeF s k8 = d at *
  generalize permF s = P at *
  replace q0 := hide q0; replace q1 := hide q1; replace q2 := hide q2; replace q3 := hide q3; replace qp := hide qp; replace hA := hide hA; replace hb := hide hb
  replace g0 := hide g0; replace g1 := hide g1; replace g2 := hide g2; replace g3 := hide g3; replace f1 := hide f1; replace f2 := hide f2; replace j3 := hide j3; replace j4 := hide j4; replace hk8 := hide hk8
  clear hk hn hm ht
  have tk0 : True := trivial
  have tk1 : True := trivial
  have tk2 : True := trivial
  have tk3 : True := trivial
  have tk4 : True := trivial
  go_enter Tryd.func7, Tryd.ntmps7
  go_upto_region 1 with (fail)
  generalize hW : World.alloc w _ = W at *
  clear hW
  go_wp2_with (first
    | (go_at_call 9; refine (live_any _).mono ?_; rintro e w1 ⟨rfl, hb1⟩
       have b1 : Below w.heap.size w w1 := bl_call (unhide hb) hb1
       have A1 : Blk w1 w.heap.size 24 (stC s) := Blk.below (unhide hA) hb1 (unhide hA).lt
       replace b1 := hide b1; replace A1 := hide A1; clear hb1)
    | (refine wpList_load_row rfl 24 (.tmp 3) rfl w.heap.size rfl 24 (stC s) (0, 0) _ (unhide A1) Tryd.underlying24 rfl size24 ?_)
    | (refine wpList_load_row rfl 24 (.tmp 3) rfl w.heap.size rfl 24 (stC s) (0, 0) _ (unhide A2) Tryd.underlying24 rfl size24 ?_)
    | (refine wpList_load_row rfl 24 (.tmp 3) rfl w.heap.size rfl 24 (stC s) (0, 0) _ (unhide A3) Tryd.underlying24 rfl size24 ?_)
    | (refine wpList_load_row rfl 24 (.tmp 3) rfl w.heap.size rfl 24 (stC s) (0, 0) _ (unhide A5) Tryd.underlying24 rfl size24 ?_)
    | (go_at_call 19; have _t := tk0; refine (unhide q0 w1 (unhide b1)).mono ?_; rintro e w2 ⟨Aa, ca, rfl, Ba, hb2⟩
       have b2 : Below w.heap.size w w2 := bl_call (unhide b1) hb2
       have A2 : Blk w2 w.heap.size 24 (stC s) := Blk.below (unhide A1) hb2 (unhide A1).lt
       replace b2 := hide b2; replace A2 := hide A2; replace Ba := hide Ba; clear hb2 tk0 _t)
    | (go_at_call 19; have _t := tk1; refine (unhide q1 w2 (unhide b2)).mono ?_; rintro e w3 ⟨Ab, cb, rfl, Bb, hb3⟩
       have b3 : Below w.heap.size w w3 := bl_call (unhide b2) hb3
       have A3 : Blk w3 w.heap.size 24 (stC s) := Blk.below (unhide A2) hb3 (unhide A2).lt
       have Ba3 := Bs.to (unhide Ba) hb3
       obtain ⟨Ab', cb', sb, Bb'⟩ := Bb.cut_h n (n : Int) rfl (by rw [unhide g1]; exact unhide j3)
       rw [← unhide f1] at Bb'
       replace b3 := hide b3; replace A3 := hide A3; replace Ba3 := hide Ba3; replace Bb' := hide Bb'; clear hb3 tk1 _t Ba Bb)
    | (go_at_call 12; have _t := tk2; refine (unhide qp w3 (unhide b3)).mono ?_; rintro e w4 ⟨rfl, hb4⟩
       have b4 : Below w.heap.size w w4 := bl_call (unhide b3) hb4
       have A4 : Blk w4 w.heap.size 24 (stC s) := Blk.below (unhide A3) hb4 (unhide A3).lt
       have Ba4 := Bs.to (unhide Ba3) hb4
       have Bb4 := Bs.to (unhide Bb') hb4
       replace b4 := hide b4; replace A4 := hide A4; replace Ba4 := hide Ba4; replace Bb4 := hide Bb4; clear hb4 tk2 _t Ba3 Bb')
    | (go_at_call 19; have _t := tk3; refine (unhide q2 w4 (unhide b4)).mono ?_; rintro e w5 ⟨Ac, cc, rfl, Bc, hb5⟩
       have b5 : Below w.heap.size w w5 := bl_call (unhide b4) hb5
       have A5 : Blk w5 w.heap.size 24 (stC s) := Blk.below (unhide A4) hb5 (unhide A4).lt
       have Ba5 := Bs.to (unhide Ba4) hb5
       have Bb5 := Bs.to (unhide Bb4) hb5
       replace b5 := hide b5; replace A5 := hide A5; replace Ba5 := hide Ba5; replace Bb5 := hide Bb5; replace Bc := hide Bc; clear hb5 tk3 _t Ba4 Bb4)
    | (go_at_call 19; refine (unhide q3 w5 (unhide b5)).mono ?_; rintro e w6 ⟨Ad, cd, rfl, Bd, hb6⟩
       have b6 : Below w.heap.size w w6 := bl_call (unhide b5) hb6
       have Ba6 := Bs.to (unhide Ba5) hb6
       have Bb6 := Bs.to (unhide Bb5) hb6
       have Bc6 := Bs.to (unhide Bc) hb6
       obtain ⟨Ad', cd', sd, Bd'⟩ := Bd.cut_l 8 8 rfl (by rw [unhide g3]; exact unhide j4)
       rw [unhide g3] at sd Bd'
       rw [← unhide f2] at Bd'
       replace b6 := hide b6; replace Ba6 := hide Ba6; replace Bb6 := hide Bb6; replace Bc6 := hide Bc6; replace Bd' := hide Bd'; clear hb6 Ba5 Bb5 Bc Bd)
    | (go_at_call 14; have _t := tk4; refine (same_true _ _ _ _ _ _ _ _ _ (unhide Ba6) (unhide Bb6) rfl).mono ?_; rintro e w7 ⟨rfl, rfl⟩; clear tk4 _t)
    | (go_at_call 14; refine (same_true _ _ _ _ _ _ _ _ _ (unhide Bc6) (unhide Bd') rfl).mono ?_; rintro e w7 ⟨rfl, rfl⟩)
    | fail)
  go_ret
  exact ⟨rfl, unhide b6⟩
theorem fewer_law (s : St) (a1 a2 : Int) (w : World) (ht : Tab w) (h1 : (Lit.int .u8 a1).wf = true) (h2 : (Lit.int .u8 a2).wf = true) :
    Calls Tryd.prog 7 #[stV s, .int .u8 a1, .int .u8 a2] w fun e w' => e = .returned (.bool true) ∧ Below w.heap.size w w' := by
  obtain ⟨n, rfl, hn⟩ := u8_range h1
  obtain ⟨m, rfl, hm⟩ := u8_range h2
  exact fewer_main s n m _ _ w ht hn hm rfl rfl
end Go.Proofs.YtdencbdbagikbaaDoor
