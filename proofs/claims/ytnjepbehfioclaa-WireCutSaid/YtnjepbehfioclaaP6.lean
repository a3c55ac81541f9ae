import Derived.Test.YtnjepbehfioclaaP5
namespace Go.Proofs.Ytnjepbehfioclaa
open Go.RowKit
attribute [local go_sem] bz_size bz_toList run_store_float
set_option maxRecDepth 100000

/-- An append of a text as one step of a region that draws its order. -/
theorem step_appS {P : Program} {ops : Array Oper} {o : Oper} {a : Act} {w : World} {K : Act → World → Prop} {Q : Exit → Act → World → Prop} {E : Prop} (hgd : o.guard = none) (sl x : Operand) (t u : TypeId)
    (ho : o.op = .call { callee := .builtin .append, args := #[sl, x], argTypes := #[t, u] })
    (base : Nat) (e : TypeId) (i : TypeInfo) (ht : P.underlying t = some (.slice e)) (hu : P.underlying u = some .string) (hi : P.info? e = some i) (hz : i.zero = some (.int .u8 0)) (hsize : i.size = 1) (hby : i.bytes = 1)
    (v : Value) (n : Nat) (xs : List Value) (hs : a.eval sl = v) (hown : w.ownsRow base e 1 v n xs) (s : ByteArray) (hx : a.eval x = .string s)
    (h63 : n + s.size ≤ maxLen) (hbytes : n + s.size ≤ 140737488355328) (hbase : base ≤ w.heap.size)
    (h : ∀ v' w', w'.ownsRow base e 1 v' (n + s.size) (xs ++ Lib.strCells s) → w.grownBy w' v.ownBlock → K (a.put o.dst v') w') :
    if Region.wanted o (yielded ops a.tmps) = true then Oper.wp P o a w K Q else E := by
  have hw : Region.wanted o (yielded ops a.tmps) = true := by simp [Region.wanted, hgd]
  rw [if_pos hw]
  obtain ⟨v', w', hr, h2, h3, _⟩ := Lib.run_append_own_string (P := P) w base t u o.type e i ht hu hi hz hsize hby v n xs hown s h63 hbytes hbase
  unfold Oper.wp execOp
  simp only [ho, resolve, invoke, builtin, Sem.run_bind, Sem.run_pure, Result.andThen_ok, List.map_toArray, List.map_cons, List.map_nil, hs, hx, hr]
  exact h v' w' h2 h3
/-- A row of the call's own as an append's source. -/
theorem own_src {w : World} {base n c : Nat} {A : Option Addr} {l : List UInt8} (h : w.ownsRow base 5 1 (.slice A n c) n (l.flatMap bc)) : (l.flatMap bc).length = n * 1 ∧ SrcOk w A n (l.flatMap bc) := by
  have h1 : (l.flatMap bc).length = n * 1 := h.1
  have h2 : Bs base w.heap.size w (.slice A n c) l := Rd.of_own bc_len (by decide) h
  exact ⟨h1, (Rd.src bc_len h2).2⟩
set_option maxHeartbeats 1000000 in
theorem refOneN_any (nm : List UInt8) (rk s b r d : Nat) (w : World) (hm : nm.length ≤ 255) (hk : rk < 18446744073709551616) (hs : s < 4294967296) (hb2 : b < 9223372036854775808) (hr : r < 9223372036854775808) (hd : d < 9223372036854775808)
    (hM : ∀ W, Calls Try.prog 26 #[.agg #[.string (bz nm), .float .f64 rk, .int .u32 (s : Int), .int .i64 (b : Int), .int .i64 (r : Int), .int .i64 (d : Int)]] W fun e W' => e = .returned (.bool true) ∧ Below W.heap.size W W') :
    Calls Try.prog 13 #[.agg #[.string (bz nm), .float .f64 rk, .int .u32 (s : Int), .int .i64 (b : Int), .int .i64 (r : Int), .int .i64 (d : Int)]] w fun e w' => ∃ A' c', e = .returned (.tuple #[.slice A' (21 + nm.length) c', .int .i64 0]) ∧ w'.ownsRow w.heap.size 5 1 (.slice A' (21 + nm.length) c') (21 + nm.length) ((fileT ⟨nm, rk, (s : Int), (b : Int), (r : Int), (d : Int)⟩).flatMap bc) ∧ Below w.heap.size w w' := by
  obtain ⟨i0, hi0, iz0, iz1, iz2⟩ := info_p info5
  have hT := fileT_of nm rk s b r d
  have hK := fun W => refKey_any rk hk W
  have hkb := key_bound rk
  have e1 : (nm.length : Int) % (18446744073709551616 : Int) = (nm.length : Int) := u64_of_nat (by omega)
  have e1w : IntKind.u64.wrap (nm.length : Int) = (nm.length : Int) := by rw [IntKind.wrap_u64]; exact e1
  have e2 : (s : Int) % (18446744073709551616 : Int) = (s : Int) := u64_of_nat (by omega)
  have e3 : (b : Int) % (18446744073709551616 : Int) = (b : Int) := u64_of_nat hb2
  have e4 : (r : Int) % (18446744073709551616 : Int) = (r : Int) := u64_of_nat hr
  have e5 : (d : Int) % (18446744073709551616 : Int) = (d : Int) := u64_of_nat hd
  have b0 : Blk (w.alloc (.cells #[.string (bz nm), .float .f64 rk, .int .u32 (s : Int), .int .i64 (b : Int), .int .i64 (r : Int), .int .i64 (d : Int)] 26)) w.heap.size 26 #[.string (bz nm), .float .f64 rk, .int .u32 (s : Int), .int .i64 (b : Int), .int .i64 (r : Int), .int .i64 (d : Int)] := Blk.new rfl
  have B0 : Below w.heap.size w (w.alloc (.cells #[.string (bz nm), .float .f64 rk, .int .u32 (s : Int), .int .i64 (b : Int), .int .i64 (r : Int), .int .i64 (d : Int)] 26)) := bl_alloc (Below.refl _ _) _
  have hto := fun l : List UInt8 => flat_one bc_one l
  replace hT := hide hT; replace hK := hide hK; replace b0 := hide b0; replace B0 := hide B0; replace hm := hide hm; replace hkb := hide hkb; replace hs := hide hs; replace hb2 := hide hb2; replace hr := hide hr; replace hd := hide hd; replace hM := hide hM; replace hto := hide hto
  clear hk
  go_enter Try.func13, Try.ntmps13
  go_upto_region 3 with (first
    | (go_at_call 26; refine (unhide hM _).mono ?_; rintro e w1 ⟨rfl, B1'⟩
       have b1 := hide (Blk.below (unhide b0) B1' (unhide b0).lt)
       have B1 := hide ((unhide B0).trans (B1'.mono (unhide B0).size))
       clear B1')
    | fail)
  obtain ⟨x0, x1, x2, x3, x4, x5⟩ := bk6 (f := ⟨nm, rk, (s : Int), (b : Int), (r : Int), (d : Int)⟩) (unhide b1)
  have l1 : w.heap.size < w1.heap.size := (unhide b1).lt
  go_region_held3 (fun W => W.cell? ⟨w.heap.size, 0, none⟩ = some (.string (bz nm))) (first | with_reducible assumption | go_simp)
    (first
    | (go_at_call 25; (try simp only [e1w]); refine (refPut_any nm.length 1 w1.drew (by omega) (by have := unhide hm; omega)).mono ?_; rintro e w2 ⟨A2, c2, rfl, o2, B2'⟩
       have b2 := hide (Blk.below (unhide b1).drew B2' (unhide b1).lt)
       have B2 := hide ((unhide B1).drew.trans (B2'.mono (unhide B1).size))
       have l2 : w.heap.size < w2.heap.size := (unhide b2).lt
       have x0 : w2.cell? ⟨w.heap.size, 0, none⟩ = some (.string (bz nm)) := (unhide b2).cell 0
       have o2b := hide (ownsRow_mono (base' := w.heap.size) o2 (unhide B1).size)
       clear B2' o2)
    | (refine step_appS rfl (.tmp 12) (.tmp 14) 27 9 rfl w.heap.size 5 i0 Try.underlying27 Try.underlying9 hi0 iz0 iz1 iz2 _ 1 ((putN 1 nm.length).flatMap bc) rfl (unhide o2b) (bz nm) rfl (by have := unhide hm; simp only [bz_size, maxLen]; omega) (by have := unhide hm; simp only [bz_size]; omega) (unhide B2).size ?_
       intro v3 w3 o3 g3
       rw [str_cells, flat_app, bz_size] at o3
       obtain ⟨A3, c3, rfl⟩ := ownsRow_form o3
       have b3 := hide (((Kept.refl 5 w2).grown (unhide o2b) g3) _ _ _ (by decide) (unhide b2))
       have B3 := hide ((unhide B2).grown g3 (unhide B2).size (own_base (unhide o2b)))
       have x0 : w3.cell? ⟨w.heap.size, 0, none⟩ = some (.string (bz nm)) := (unhide b3).cell 0
       replace o3 := hide o3; clear g3)
    | fail)
  obtain ⟨x0, x1, x2, x3, x4, x5⟩ := bk6 (f := ⟨nm, rk, (s : Int), (b : Int), (r : Int), (d : Int)⟩) (unhide b3)
  have t0 : True := trivial
  have t1 : True := trivial
  have t2 : True := trivial
  have t3 : True := trivial
  have t4 : True := trivial
  go_wp2_with (first
    | (go_at_call 27; refine (unhide hK _).mono ?_; rintro e wk ⟨rfl, rfl⟩)
    | (have _t := t0; clear t0 _t; go_at_call 25; refine (refPut_any (keyF rk) 8 _ (by omega) (unhide hkb)).mono ?_; rintro e wp0 ⟨Ap0, cp0, rfl, op0, Bp0'⟩
       have bp0 := hide (Blk.below (unhide b3) Bp0' (unhide b3).lt)
       have Bp0 := hide ((unhide B3).trans (Bp0'.mono (unhide B3).size))
       have s0 : True := trivial
       have m3 := hide (own_below (unhide o3) Bp0' (Nat.le_refl _))
       replace op0 := hide op0; clear Bp0')
    | (have _t := s0; clear s0 _t; at_builtin
       refine wpList_app _ rfl (.tmp 16) (.tmp 20) 27 rfl w.heap.size 5 i0 _ 1 1 Try.underlying27 hi0 iz0 iz1 iz2 rfl (Nat.succ_pos _) _ (1 + nm.length) ((putN 1 nm.length ++ nm).flatMap bc) rfl (unhide m3) Ap0 8 cp0 ((putN 8 (keyF rk)).flatMap bc) rfl (own_src (unhide op0)).1 (own_src (unhide op0)).2 (unhide hto _) (by have := unhide hm; simp only [maxLen]; omega) (by have := unhide hm; omega) (unhide Bp0).size ?_
       intro v4 w4 o4 g4
       rw [flat_app] at o4
       obtain ⟨A4, c4, rfl⟩ := ownsRow_form o4
       have b4 := hide (((Kept.refl 5 wp0).grown (unhide m3) g4) _ _ _ (by decide) (unhide bp0))
       have B4 := hide ((unhide Bp0).grown g4 (unhide Bp0).size (own_base (unhide m3)))
       obtain ⟨x0, x1, x2, x3, x4, x5⟩ := bk6 (f := ⟨nm, rk, (s : Int), (b : Int), (r : Int), (d : Int)⟩) (unhide b4)
       replace o4 := hide o4; clear g4)
    | (have _t := t1; clear t1 _t; go_at_call 25; refine (refPut_any s 4 _ (by omega) (by have := unhide hs; omega)).mono ?_; rintro e wp1 ⟨Ap1, cp1, rfl, op1, Bp1'⟩
       have bp1 := hide (Blk.below (unhide b4) Bp1' (unhide b4).lt)
       have Bp1 := hide ((unhide B4).trans (Bp1'.mono (unhide B4).size))
       have s1 : True := trivial
       have m4 := hide (own_below (unhide o4) Bp1' (Nat.le_refl _))
       replace op1 := hide op1; clear Bp1')
    | (have _t := s1; clear s1 _t; at_builtin
       refine wpList_app _ rfl (.tmp 22) (.tmp 26) 27 rfl w.heap.size 5 i0 _ 1 1 Try.underlying27 hi0 iz0 iz1 iz2 rfl (Nat.succ_pos _) _ ((1 + nm.length) + 8) (((putN 1 nm.length ++ nm) ++ putN 8 (keyF rk)).flatMap bc) rfl (unhide m4) Ap1 4 cp1 ((putN 4 s).flatMap bc) rfl (own_src (unhide op1)).1 (own_src (unhide op1)).2 (unhide hto _) (by have := unhide hm; simp only [maxLen]; omega) (by have := unhide hm; omega) (unhide Bp1).size ?_
       intro v5 w5 o5 g5
       rw [flat_app] at o5
       obtain ⟨A5, c5, rfl⟩ := ownsRow_form o5
       have b5 := hide (((Kept.refl 5 wp1).grown (unhide m4) g5) _ _ _ (by decide) (unhide bp1))
       have B5 := hide ((unhide Bp1).grown g5 (unhide Bp1).size (own_base (unhide m4)))
       obtain ⟨x0, x1, x2, x3, x4, x5⟩ := bk6 (f := ⟨nm, rk, (s : Int), (b : Int), (r : Int), (d : Int)⟩) (unhide b5)
       replace o5 := hide o5; clear g5)
    | (have _t := t2; clear t2 _t; go_at_call 25; refine (refPut_any b 2 _ (by omega) (by have := unhide hb2; omega)).mono ?_; rintro e wp2 ⟨Ap2, cp2, rfl, op2, Bp2'⟩
       have bp2 := hide (Blk.below (unhide b5) Bp2' (unhide b5).lt)
       have Bp2 := hide ((unhide B5).trans (Bp2'.mono (unhide B5).size))
       have s2 : True := trivial
       have m5 := hide (own_below (unhide o5) Bp2' (Nat.le_refl _))
       replace op2 := hide op2; clear Bp2')
    | (have _t := s2; clear s2 _t; at_builtin
       refine wpList_app _ rfl (.tmp 28) (.tmp 32) 27 rfl w.heap.size 5 i0 _ 1 1 Try.underlying27 hi0 iz0 iz1 iz2 rfl (Nat.succ_pos _) _ (((1 + nm.length) + 8) + 4) ((((putN 1 nm.length ++ nm) ++ putN 8 (keyF rk)) ++ putN 4 s).flatMap bc) rfl (unhide m5) Ap2 2 cp2 ((putN 2 b).flatMap bc) rfl (own_src (unhide op2)).1 (own_src (unhide op2)).2 (unhide hto _) (by have := unhide hm; simp only [maxLen]; omega) (by have := unhide hm; omega) (unhide Bp2).size ?_
       intro v6 w6 o6 g6
       rw [flat_app] at o6
       obtain ⟨A6, c6, rfl⟩ := ownsRow_form o6
       have b6 := hide (((Kept.refl 5 wp2).grown (unhide m5) g6) _ _ _ (by decide) (unhide bp2))
       have B6 := hide ((unhide Bp2).grown g6 (unhide Bp2).size (own_base (unhide m5)))
       obtain ⟨x0, x1, x2, x3, x4, x5⟩ := bk6 (f := ⟨nm, rk, (s : Int), (b : Int), (r : Int), (d : Int)⟩) (unhide b6)
       replace o6 := hide o6; clear g6)
    | (have _t := t3; clear t3 _t; go_at_call 25; refine (refPut_any r 3 _ (by omega) (by have := unhide hr; omega)).mono ?_; rintro e wp3 ⟨Ap3, cp3, rfl, op3, Bp3'⟩
       have bp3 := hide (Blk.below (unhide b6) Bp3' (unhide b6).lt)
       have Bp3 := hide ((unhide B6).trans (Bp3'.mono (unhide B6).size))
       have s3 : True := trivial
       have m6 := hide (own_below (unhide o6) Bp3' (Nat.le_refl _))
       replace op3 := hide op3; clear Bp3')
    | (have _t := s3; clear s3 _t; at_builtin
       refine wpList_app _ rfl (.tmp 34) (.tmp 38) 27 rfl w.heap.size 5 i0 _ 1 1 Try.underlying27 hi0 iz0 iz1 iz2 rfl (Nat.succ_pos _) _ ((((1 + nm.length) + 8) + 4) + 2) (((((putN 1 nm.length ++ nm) ++ putN 8 (keyF rk)) ++ putN 4 s) ++ putN 2 b).flatMap bc) rfl (unhide m6) Ap3 3 cp3 ((putN 3 r).flatMap bc) rfl (own_src (unhide op3)).1 (own_src (unhide op3)).2 (unhide hto _) (by have := unhide hm; simp only [maxLen]; omega) (by have := unhide hm; omega) (unhide Bp3).size ?_
       intro v7 w7 o7 g7
       rw [flat_app] at o7
       obtain ⟨A7, c7, rfl⟩ := ownsRow_form o7
       have b7 := hide (((Kept.refl 5 wp3).grown (unhide m6) g7) _ _ _ (by decide) (unhide bp3))
       have B7 := hide ((unhide Bp3).grown g7 (unhide Bp3).size (own_base (unhide m6)))
       obtain ⟨x0, x1, x2, x3, x4, x5⟩ := bk6 (f := ⟨nm, rk, (s : Int), (b : Int), (r : Int), (d : Int)⟩) (unhide b7)
       replace o7 := hide o7; clear g7)
    | (have _t := t4; clear t4 _t; go_at_call 25; refine (refPut_any d 3 _ (by omega) (by have := unhide hd; omega)).mono ?_; rintro e wp4 ⟨Ap4, cp4, rfl, op4, Bp4'⟩
       have bp4 := hide (Blk.below (unhide b7) Bp4' (unhide b7).lt)
       have Bp4 := hide ((unhide B7).trans (Bp4'.mono (unhide B7).size))
       have s4 : True := trivial
       have m7 := hide (own_below (unhide o7) Bp4' (Nat.le_refl _))
       replace op4 := hide op4; clear Bp4')
    | (have _t := s4; clear s4 _t; at_builtin
       refine wpList_app _ rfl (.tmp 40) (.tmp 44) 27 rfl w.heap.size 5 i0 _ 1 1 Try.underlying27 hi0 iz0 iz1 iz2 rfl (Nat.succ_pos _) _ (((((1 + nm.length) + 8) + 4) + 2) + 3) ((((((putN 1 nm.length ++ nm) ++ putN 8 (keyF rk)) ++ putN 4 s) ++ putN 2 b) ++ putN 3 r).flatMap bc) rfl (unhide m7) Ap4 3 cp4 ((putN 3 d).flatMap bc) rfl (own_src (unhide op4)).1 (own_src (unhide op4)).2 (unhide hto _) (by have := unhide hm; simp only [maxLen]; omega) (by have := unhide hm; omega) (unhide Bp4).size ?_
       intro v8 w8 o8 g8
       rw [flat_app] at o8
       obtain ⟨A8, c8, rfl⟩ := ownsRow_form o8
       have b8 := hide (((Kept.refl 5 wp4).grown (unhide m7) g8) _ _ _ (by decide) (unhide bp4))
       have B8 := hide ((unhide Bp4).grown g8 (unhide Bp4).size (own_base (unhide m7)))
       obtain ⟨x0, x1, x2, x3, x4, x5⟩ := bk6 (f := ⟨nm, rk, (s : Int), (b : Int), (r : Int), (d : Int)⟩) (unhide b8)
       replace o8 := hide o8; clear g8)
    | fail)
  go_ret2
  have o9 := unhide o8
  rw [← unhide hT, show ((((((1 + nm.length) + 8) + 4) + 2) + 3) + 3) = 21 + nm.length by omega] at o9
  refine ⟨A8, c8, ?_, o9, unhide B8⟩
  rw [show 21 + nm.length = ((((((1 + nm.length) + 8) + 4) + 2) + 3) + 3) by omega]
  exact ret_te rfl rfl
end Go.Proofs.Ytnjepbehfioclaa
