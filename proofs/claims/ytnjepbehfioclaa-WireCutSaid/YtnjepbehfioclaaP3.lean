import Derived.Test.YtnjepbehfioclaaP2
import Derived.Test.YtnjepbehfioclaaT7
import Derived.Test.YtnjepbehfioclaaX7
namespace Go.Proofs.Ytnjepbehfioclaa
open Go.RowKit
attribute [local go_sem] bz_size bz_toList run_store_float
set_option maxRecDepth 100000

theorem fileT_of (nm : List UInt8) (rk s b r n : Nat) : fileT ⟨nm, rk, (s : Int), (b : Int), (r : Int), (n : Int)⟩ = ((((((putN 1 nm.length) ++ nm) ++ putN 8 (keyF rk)) ++ putN 4 s) ++ putN 2 b) ++ putN 3 r) ++ putN 3 n := by
  simp [fileT, numsT]
theorem u64_of_nat {x : Nat} (h : x < 9223372036854775808) : (x : Int) % (18446744073709551616 : Int) = (x : Int) := by omega
set_option maxHeartbeats 1000000 in
theorem putFileN_any (base n c0 : Nat) (A : Option Addr) (l nm : List UInt8) (rk s b r d : Nat) (w : World) (h : w.ownsRow base 5 1 (.slice A n c0) n (l.flatMap bc)) (hb : base ≤ w.heap.size) (hn : n ≤ 100000000) (hm : nm.length ≤ 1000) (hk : rk < 18446744073709551616)
    (hs : s < 4294967296) (hb2 : b < 9223372036854775808) (hr : r < 9223372036854775808) (hd : d < 9223372036854775808) :
    Calls Try.prog 23 #[.slice A n c0, .agg #[.string (bz nm), .float .f64 rk, .int .u32 (s : Int), .int .i64 (b : Int), .int .i64 (r : Int), .int .i64 (d : Int)]] w fun e w' => ∃ A' c', e = .returned (.slice A' (n + (21 + nm.length)) c') ∧ w'.ownsRow base 5 1 (.slice A' (n + (21 + nm.length)) c') (n + (21 + nm.length)) ((l ++ fileT ⟨nm, rk, (s : Int), (b : Int), (r : Int), (d : Int)⟩).flatMap bc) ∧ Below base w w' ∧ Kept 5 w w' := by
  obtain ⟨i0, hi0, iz0, iz1, iz2⟩ := info_p info5
  have hT := fileT_of nm rk s b r d
  have hK := fun W => Key_any rk hk W
  have hkb := key_bound rk
  have e1 : (nm.length : Int) % (18446744073709551616 : Int) = (nm.length : Int) := u64_of_nat (by omega)
  have e2 : (s : Int) % (18446744073709551616 : Int) = (s : Int) := u64_of_nat (by omega)
  have e3 : (b : Int) % (18446744073709551616 : Int) = (b : Int) := u64_of_nat hb2
  have e4 : (r : Int) % (18446744073709551616 : Int) = (r : Int) := u64_of_nat hr
  have e5 : (d : Int) % (18446744073709551616 : Int) = (d : Int) := u64_of_nat hd
  have hP := fun (n c0 q k : Nat) (A : Option Addr) (l : List UInt8) (W : World) => putNumber_any base n c0 q k A l W
  have b0 : Blk (w.alloc (.cells #[.string (bz nm), .float .f64 rk, .int .u32 (s : Int), .int .i64 (b : Int), .int .i64 (r : Int), .int .i64 (d : Int)] 26)) w.heap.size 26 #[.string (bz nm), .float .f64 rk, .int .u32 (s : Int), .int .i64 (b : Int), .int .i64 (r : Int), .int .i64 (d : Int)] := Blk.new rfl
  have o0 := World.ownsRow.alloc h (.cells #[.string (bz nm), .float .f64 rk, .int .u32 (s : Int), .int .i64 (b : Int), .int .i64 (r : Int), .int .i64 (d : Int)] 26)
  have B0 : Below base w (w.alloc (.cells #[.string (bz nm), .float .f64 rk, .int .u32 (s : Int), .int .i64 (b : Int), .int .i64 (r : Int), .int .i64 (d : Int)] 26)) := bb_alloc (Below.refl _ _) hb _
  have K0 : Kept 5 w (w.alloc (.cells #[.string (bz nm), .float .f64 rk, .int .u32 (s : Int), .int .i64 (b : Int), .int .i64 (r : Int), .int .i64 (d : Int)] 26)) := (Kept.refl 5 w).alloc _
  obtain ⟨x0, x1, x2, x3, x4, x5⟩ := bk6 (f := ⟨nm, rk, (s : Int), (b : Int), (r : Int), (d : Int)⟩) b0
  replace hT := hide hT; replace hK := hide hK; replace hP := hide hP; replace b0 := hide b0; replace o0 := hide o0; replace B0 := hide B0; replace K0 := hide K0; replace hb := hide hb; replace hn := hide hn; replace hm := hide hm; replace hkb := hide hkb; replace hs := hide hs; replace hb2 := hide hb2; replace hr := hide hr; replace hd := hide hd
  clear h hk
  have t1 : True := trivial
  have t2 : True := trivial
  have t3 : True := trivial
  have t4 : True := trivial
  have t5 : True := trivial
  have t6 : True := trivial
  have t7 : True := trivial
  go_enter Try.func23, Try.ntmps23
  go_wp2_with (first
    | (have _t := t1; clear t1 _t; go_at_call 22
       refine (unhide hP n c0 nm.length 1 A l _ (unhide o0) (Nat.le_trans (unhide hb) (unhide B0).size) (by omega) (by have := unhide hn; have := unhide hm; omega) (by have := unhide hn; have := unhide hm; omega)).mono ?_
       rintro e w1 ⟨A1, c1, rfl, o1, B1', K1'⟩
       have b1 := hide (K1' _ _ _ (by decide) (unhide b0))
       have B1 := hide ((unhide B0).trans B1')
       have K1 := hide ((unhide K0).trans K1')
       obtain ⟨x0, x1, x2, x3, x4, x5⟩ := bk6 (f := ⟨nm, rk, (s : Int), (b : Int), (r : Int), (d : Int)⟩) (unhide b1)
       replace o1 := hide o1; clear B1' K1')
    | (have _t := t2; clear t2 _t; at_builtin
       refine Lib.wpList_append_own_string _ rfl (.tmp 11) (.tmp 13) 27 9 rfl base 5 i0 Try.underlying27 Try.underlying9 hi0 iz0 iz1 iz2 _ (n + 1) ((l ++ putN 1 nm.length).flatMap bc) rfl (unhide o1) (bz nm) rfl (by have := unhide hn; have := unhide hm; simp only [bz_size, maxLen]; omega) (by have := unhide hn; have := unhide hm; simp only [bz_size]; omega) (Nat.le_trans (unhide hb) (unhide B1).size) ?_
       intro v2 w2 o2 g2 _
       rw [str_cells, flat_app, bz_size] at o2
       obtain ⟨A2, c2, rfl⟩ := ownsRow_form o2
       have b2 := hide (((Kept.refl 5 w1).grown (unhide o1) g2) _ _ _ (by decide) (unhide b1))
       have B2 := hide ((unhide B1).grown g2 (Nat.le_trans (unhide hb) (unhide B1).size) (own_base (unhide o1)))
       have K2 := hide ((unhide K1).grown (unhide o1) g2)
       obtain ⟨x0, x1, x2, x3, x4, x5⟩ := bk6 (f := ⟨nm, rk, (s : Int), (b : Int), (r : Int), (d : Int)⟩) (unhide b2)
       replace o2 := hide o2; clear g2)
    | (go_at_call 36; refine (unhide hK _).mono ?_; rintro e wk ⟨rfl, rfl⟩)
    | (have _t := t3; clear t3 _t; go_at_call 22
       refine (unhide hP (n + 1 + nm.length) c2 (keyF rk) 8 A2 ((l ++ putN 1 nm.length) ++ nm) _ (unhide o2) (Nat.le_trans (unhide hb) (unhide B2).size) (by omega) (by have := unhide hn; have := unhide hm; omega) (unhide hkb)).mono ?_
       rintro e w3 ⟨A3, c3, rfl, o3, B3', K3'⟩
       have b3 := hide (K3' _ _ _ (by decide) (unhide b2))
       have B3 := hide ((unhide B2).trans B3')
       have K3 := hide ((unhide K2).trans K3')
       obtain ⟨x0, x1, x2, x3, x4, x5⟩ := bk6 (f := ⟨nm, rk, (s : Int), (b : Int), (r : Int), (d : Int)⟩) (unhide b3)
       replace o3 := hide o3; clear B3' K3')
    | (have _t := t4; clear t4 _t; go_at_call 22
       refine (unhide hP (n + 1 + nm.length + 8) c3 s 4 A3 (((l ++ putN 1 nm.length) ++ nm) ++ putN 8 (keyF rk)) _ (unhide o3) (Nat.le_trans (unhide hb) (unhide B3).size) (by omega) (by have := unhide hn; have := unhide hm; omega) (by have := unhide hs; omega)).mono ?_
       rintro e w4 ⟨A4, c4, rfl, o4, B4', K4'⟩
       have b4 := hide (K4' _ _ _ (by decide) (unhide b3))
       have B4 := hide ((unhide B3).trans B4')
       have K4 := hide ((unhide K3).trans K4')
       obtain ⟨x0, x1, x2, x3, x4, x5⟩ := bk6 (f := ⟨nm, rk, (s : Int), (b : Int), (r : Int), (d : Int)⟩) (unhide b4)
       replace o4 := hide o4; clear B4' K4')
    | (have _t := t5; clear t5 _t; go_at_call 22
       refine (unhide hP (n + 1 + nm.length + 8 + 4) c4 b 2 A4 ((((l ++ putN 1 nm.length) ++ nm) ++ putN 8 (keyF rk)) ++ putN 4 s) _ (unhide o4) (Nat.le_trans (unhide hb) (unhide B4).size) (by omega) (by have := unhide hn; have := unhide hm; omega) (by have := unhide hb2; omega)).mono ?_
       rintro e w5 ⟨A5, c5, rfl, o5, B5', K5'⟩
       have b5 := hide (K5' _ _ _ (by decide) (unhide b4))
       have B5 := hide ((unhide B4).trans B5')
       have K5 := hide ((unhide K4).trans K5')
       obtain ⟨x0, x1, x2, x3, x4, x5⟩ := bk6 (f := ⟨nm, rk, (s : Int), (b : Int), (r : Int), (d : Int)⟩) (unhide b5)
       replace o5 := hide o5; clear B5' K5')
    | (have _t := t6; clear t6 _t; go_at_call 22
       refine (unhide hP (n + 1 + nm.length + 8 + 4 + 2) c5 r 3 A5 (((((l ++ putN 1 nm.length) ++ nm) ++ putN 8 (keyF rk)) ++ putN 4 s) ++ putN 2 b) _ (unhide o5) (Nat.le_trans (unhide hb) (unhide B5).size) (by omega) (by have := unhide hn; have := unhide hm; omega) (by have := unhide hr; omega)).mono ?_
       rintro e w6 ⟨A6, c6, rfl, o6, B6', K6'⟩
       have b6 := hide (K6' _ _ _ (by decide) (unhide b5))
       have B6 := hide ((unhide B5).trans B6')
       have K6 := hide ((unhide K5).trans K6')
       obtain ⟨x0, x1, x2, x3, x4, x5⟩ := bk6 (f := ⟨nm, rk, (s : Int), (b : Int), (r : Int), (d : Int)⟩) (unhide b6)
       replace o6 := hide o6; clear B6' K6')
    | (have _t := t7; clear t7 _t; go_at_call 22
       refine (unhide hP (n + 1 + nm.length + 8 + 4 + 2 + 3) c6 d 3 A6 ((((((l ++ putN 1 nm.length) ++ nm) ++ putN 8 (keyF rk)) ++ putN 4 s) ++ putN 2 b) ++ putN 3 r) _ (unhide o6) (Nat.le_trans (unhide hb) (unhide B6).size) (by omega) (by have := unhide hn; have := unhide hm; omega) (by have := unhide hd; omega)).mono ?_
       rintro e w7 ⟨A7, c7, rfl, o7, B7', K7'⟩
       have b7 := hide (K7' _ _ _ (by decide) (unhide b6))
       have B7 := hide ((unhide B6).trans B7')
       have K7 := hide ((unhide K6).trans K7')
       obtain ⟨x0, x1, x2, x3, x4, x5⟩ := bk6 (f := ⟨nm, rk, (s : Int), (b : Int), (r : Int), (d : Int)⟩) (unhide b7)
       replace o7 := hide o7; clear B7' K7')
    | fail)
  go_ret
  have hl : ∀ (A7 : Option Addr) (c7 : Nat) (w7 : World), w7.ownsRow base 5 1 (.slice A7 (n + 1 + nm.length + 8 + 4 + 2 + 3 + 3) c7) (n + 1 + nm.length + 8 + 4 + 2 + 3 + 3) ((((((((l ++ putN 1 nm.length) ++ nm) ++ putN 8 (keyF rk)) ++ putN 4 s) ++ putN 2 b) ++ putN 3 r) ++ putN 3 d).flatMap bc) → w7.ownsRow base 5 1 (.slice A7 (n + (21 + nm.length)) c7) (n + (21 + nm.length)) ((l ++ fileT ⟨nm, rk, (s : Int), (b : Int), (r : Int), (d : Int)⟩).flatMap bc) := fun A7 c7 w7 h7 => by
    rw [unhide hT, show n + (21 + nm.length) = n + 1 + nm.length + 8 + 4 + 2 + 3 + 3 by omega]
    simpa only [List.append_assoc] using h7
  refine ⟨A7, c7, ?_, hl _ _ _ (unhide o7), unhide B7, unhide K7⟩
  rw [show n + (21 + nm.length) = n + 1 + nm.length + 8 + 4 + 2 + 3 + 3 by omega]
  exact ret_v rfl
end Go.Proofs.Ytnjepbehfioclaa
