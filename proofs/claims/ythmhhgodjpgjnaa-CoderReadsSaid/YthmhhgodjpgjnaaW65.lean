import Derived.Test.YthmhhgodjpgjnaaW64
import Derived.Test.YthmhhgodjpgjnaaW60
namespace Go.Proofs.Ythmhhgodjpgjnaa
open Go.RowKit

theorem Rdg.setlow {base g gc cc gt ct : Nat} {w : World} {r : Rdr} {t : List Int} (h : Rdg base g gc cc gt ct w r t) (hg : base ≤ g) {p : Addr} (hp : p.block < base) (u : Value) : Rdg base g gc cc gt ct (w.setCell p u) r t :=
  ⟨h.blk.far (by omega) u, ownsRow_setCell' h.c hp u, ownsRow_setCell' h.text hp u⟩

theorem rd4 {base g gc cc gt ct gb n4 : Nat} {w w8 : World} {r : Rdr} {t : List Int} {n : Nat} {v : Value} {xs : List Value} {a b c d x y z u : Value} (R : Rdg base g gc cc gt ct w8 r t) (P : w8.ownsRow n4 3 1 v n xs) (K : Blk w8 gb 40 #[a, b, c, d]) (B : Below w.heap.size w w8) (h : w.heap.size ≤ gb) :
    Rdg base g gc cc gt ct ((((((w8.alloc (.cells #[x, y, z, u] 40)).setCell ⟨gb, 0, none⟩ x).setCell ⟨gb, 1, none⟩ y).setCell ⟨gb, 2, none⟩ z).setCell ⟨gb, 3, none⟩ u)) r t ∧
    ((((((w8.alloc (.cells #[x, y, z, u] 40)).setCell ⟨gb, 0, none⟩ x).setCell ⟨gb, 1, none⟩ y).setCell ⟨gb, 2, none⟩ z).setCell ⟨gb, 3, none⟩ u)).ownsRow n4 3 1 v n xs ∧
    Blk ((((((w8.alloc (.cells #[x, y, z, u] 40)).setCell ⟨gb, 0, none⟩ x).setCell ⟨gb, 1, none⟩ y).setCell ⟨gb, 2, none⟩ z).setCell ⟨gb, 3, none⟩ u)) gb 40 #[x, y, z, u] ∧
    Below w.heap.size w ((((((w8.alloc (.cells #[x, y, z, u] 40)).setCell ⟨gb, 0, none⟩ x).setCell ⟨gb, 1, none⟩ y).setCell ⟨gb, 2, none⟩ z).setCell ⟨gb, 3, none⟩ u)) := by
  have K6 := K.alloc (.cells #[x, y, z, u] 40)
  have hne : g ≠ gb := Blk.ne_ R.blk K (by decide)
  refine ⟨⟨set4_blk (R.blk.alloc _) hne, set4_own (R.c.alloc _) K6 (by decide), set4_own (R.text.alloc _) K6 (by decide)⟩, set4_own (P.alloc _) K6 (by decide), K6.set4, set4_below (B.alloc B.size _) h⟩

set_option maxRecDepth 100000 in
set_option maxHeartbeats 2000000 in
theorem reads_main (n : Nat) (v v' : Value) (t a : List Int) (lo lo' : Nat) (w : World) (h2 : Os lo w.heap.size w v t) (h3 : Is lo' w.heap.size w v' a) (ht : okB t) (hm : t.length ≤ 500) (ha : a.length ≤ 300) (hn : n ≤ 60) (h : startE n t = 0) :
    Calls Try.prog 4 #[.int .i64 n, v, v'] w fun e w' => e = .returned (.bool true) ∧ Below w.heap.size w w' := by
  obtain ⟨i5, hi5, iz0, iz1, iz2⟩ := info5'
  have hN := fun v W (hv : Os 0 W.heap.size W v t) => NewReader_good n (by omega) 0 v t W hv ht (by omega) h
  have hR := fun W (hb : Below w.heap.size w W) => refStart_ok n (by omega) lo v t W (h2.grow hb) ht h
  have hM := fun W (hb : Below w.heap.size w W) => h2.grow hb
  have hok := okR_start (n := (n : Int)) (by omega) h ht
  have hlen5 := (startE_iff.1 h).2.1
  have hused : (startR (n : Int) t).used ≤ t.length := by simp only [startR]; omega
  obtain ⟨B, d, rfl, y1, y2, _⟩ := Os.open h2
  obtain ⟨C, f, rfl, z1, z2, z3⟩ := h3.open
  clear h2 h3
  have b0 : ¬ (500 : Int) < (t.length : Int) := by omega
  have b1 : ¬ (300 : Int) < (a.length : Int) := by omega
  have b2 : ¬ 60 < (n : Int) := by omega
  have t1 : 0 + t.length ≤ maxLen := by simp only [maxLen]; omega
  have t2 : (0 + t.length) * 1 ≤ 140737488355328 := by omega
  have t7 : (t.flatMap byc).length = t.length * 1 := flat_len byc_len t
  have t8 := flat_one byc_one t
  generalize startR n t = r0 at *
  replace hN := hide hN; replace hR := hide hR; replace hM := hide hM; replace t1 := hide t1; replace t2 := hide t2; replace t7 := hide t7; replace t8 := hide t8; replace hok := hide hok; replace hused := hide hused; replace z3 := hide z3; replace ht := hide ht; replace hlen5 := hide hlen5
  clear h
  go_enter Try.func4, Try.ntmps4
  go_wp2_with (first
    | (go_at_call 9; refine (live_any _).mono ?_; rintro e w1 ⟨rfl, hb1⟩
       have hS := (Rd.src byc_len (unhide hM w1 hb1)).2
       replace hb1 := hide hb1; replace hS := hide hS)
    | (at_builtin
       refine wpList_app _ rfl (.const (.slice none 0 0)) (.tmp 43) 23 rfl w.heap.size 5 i5 _ 1 1 Try.underlying23 hi5 iz0 iz1 iz2 rfl (Nat.succ_pos _) _ 0 [] rfl (World.ownsRow_nil _ _ _ _) B t.length d (t.flatMap byc) rfl (unhide t7) (unhide hS) (unhide t8) (unhide t1) (unhide t2) (unhide hb1).size ?_
       intro v3 w3 o3 g3
       rw [Nat.zero_add, List.nil_append] at o3
       obtain ⟨A3, c3, rfl⟩ := ownsRow_form o3
       obtain ⟨gx, _, rfl, _, _⟩ := own_pos o3 (by have := unhide hlen5; omega)
       have B3 : Below w.heap.size w w3 := bl_grown (unhide hb1) g3 (own_base (World.ownsRow_nil w1 w.heap.size 5 1))
       have l3 := own_lt o3
       replace o3 := hide o3; replace B3 := hide B3; replace l3 := hide l3
       clear g3)
    | (go_at_call 16; refine (unhide hN _ _ (Os.own (unhide o3))).mono ?_; rintro e w4 ⟨g, gc, gt, ct, rfl, R4, hg, hb4⟩
       have B4 := bl_call (unhide B3) hb4
       have o4 := own_below (unhide o3) hb4 (Nat.le_refl _)
       have g4 := R4.blk.lt
       have c4 := (own_lt R4.c).1
       have s4 := hb4.size
       replace B4 := hide B4; replace o4 := hide o4; replace R4 := hide R4; replace hg := hide hg; replace g4 := hide g4; replace c4 := hide c4; replace s4 := hide s4
       clear hb4)
    | (go_at_call 17; refine (unhide hR _ (unhide B4)).mono ?_; rintro e w5 ⟨v5, rfl, ⟨A5, c5, rfl, P5⟩, hb5⟩
       have B5 := bl_call (unhide B4) hb5
       have o5 := own_below (unhide o4) hb5 (Nat.le_refl _)
       have R5 := (unhide R4).below hb5
       have s5 := hb5.size
       replace B5 := hide B5; replace o5 := hide o5; replace R5 := hide R5; replace P5 := hide P5; replace s5 := hide s5
       clear hb5)
    | fail)
  have R6 := (unhide R5).alloc (.cells #[.slice A5 r0.c.length c5, .int .u32 r0.span, .int .u32 r0.code, .int .i64 r0.used] 40)
  have o6 := (unhide o5).alloc (.cells #[.slice A5 r0.c.length c5, .int .u32 r0.span, .int .u32 r0.code, .int .i64 r0.used] 40)
  have P6 := (unhide P5).alloc (.cells #[.slice A5 r0.c.length c5, .int .u32 r0.span, .int .u32 r0.code, .int .i64 r0.used] 40)
  have K6 : Blk (w5.alloc (.cells #[.slice A5 r0.c.length c5, .int .u32 r0.span, .int .u32 r0.code, .int .i64 r0.used] 40)) w5.heap.size 40 #[.slice A5 r0.c.length c5, .int .u32 r0.span, .int .u32 r0.code, .int .i64 r0.used] := Blk.new rfl
  have B6 := (unhide B5).alloc (unhide B5).size (.cells #[.slice A5 r0.c.length c5, .int .u32 r0.span, .int .u32 r0.code, .int .i64 r0.used] 40)
  have hgb : w4.heap.size ≤ w5.heap.size := unhide s5
  have hx4 : gx < w3.heap.size := (unhide l3).1
  have hx0 : w.heap.size ≤ gx := (unhide l3).2
  have h34 : w3.heap.size ≤ w4.heap.size := unhide s4
  have hg4 : g < w4.heap.size := unhide g4
  have hc4 : gc < w4.heap.size := unhide c4
  have hg3 : w3.heap.size ≤ g := unhide hg
  generalize w5.alloc (.cells #[.slice A5 r0.c.length c5, .int .u32 r0.span, .int .u32 r0.code, .int .i64 r0.used] 40) = w6 at *
  generalize w5.heap.size = gb at *
  generalize w4.heap.size = n4 at *
  have hgc3 : w3.heap.size ≤ gc := (own_lt R6.c).2
  have hb3 : w.heap.size ≤ w3.heap.size := (unhide B3).size
  generalize w3.heap.size = n3 at *
  replace R6 := hide R6; replace o6 := hide o6; replace P6 := hide P6; replace K6 := hide K6; replace B6 := hide B6
  have hord : Hid (w.heap.size ≤ gx ∧ gx < n3 ∧ n3 ≤ g ∧ n3 ≤ gc ∧ g < n4 ∧ gc < n4 ∧ n4 ≤ gb ∧ w.heap.size ≤ n3) := hide ⟨hx0, hx4, hg3, hgc3, hg4, hc4, hgb, hb3⟩
  clear R5 o5 P5 B5 hgb hx4 hx0 h34 hg4 hc4 hg3 hgc3 hb3 s4 s5 l3 g4 c4 hg R4 o4 B4 o3 B3 hb1 hS hN hR
  go_loopw [89] (fun i wr => ∃ (k : Nat) (m : List Int), k ≤ t.length ∧ i = .int .i64 k ∧ Hid (m.length = t.length) ∧ Hid (wr.ownsRow w.heap.size 5 1 (.slice (some ⟨gx, 0, none⟩) t.length c3) t.length (m.flatMap byc)) ∧
    Hid (Rdg n3 g gc n gt ct wr r0 t) ∧ Hid (wr.ownsRow n4 3 1 (.slice A5 r0.c.length c5) r0.c.length (r0.c.flatMap ivc)) ∧ Hid (Blk wr gb 40 #[.slice A5 r0.c.length c5, .int .u32 r0.span, .int .u32 r0.code, .int .i64 r0.used]) ∧ Hid (Below w.heap.size w wr)) (fun i _ => t.length - (intOf i).toNat)
  case atStart => exact ⟨0, t, Nat.zero_le _, rfl, hide rfl, o6, R6, P6, K6, B6⟩
  case round =>
    obtain ⟨k, m, hk, rfl, hml, ho, hR, hP, hK, hB⟩ := hrel
    clear R6 o6 P6 K6 B6
    by_cases hlt : k < t.length
    · have hkm : k < m.length := by rw [unhide hml]; exact hlt
      have c0 := (own_cell (unhide ho) k hlt).trans (byc_at m k hkm)
      obtain ⟨_, cur, e9, _, hcur⟩ := own_pos (unhide ho) (by omega)
      injection e9 with e9
      injection e9 with e9
      subst e9
      have fx := hcur.frozen k
      have i1 : IntKind.i64.wrap ((k : Int) + 1) = (k : Int) + 1 := IntWalk.i64_in _ (by omega)
      have hk0 : (0 : Int) ≤ (k : Int) := by omega
      have hk1 : (k : Int) < (t.length : Int) := by omega
      obtain ⟨z, hz⟩ : ∃ z, z = bits .xor .u8 m[k] 255 := ⟨_, rfl⟩
      obtain ⟨p1, p2, p3, p4, p5, p6, p7, p8⟩ := unhide hord
      have o7 := own_put (k := k) (unhide ho) (.int .u8 z)
      rw [byc_set] at o7
      have R7 := (unhide hR).setlow p3 (p := ⟨gx, k, none⟩) p2 (.int .u8 z)
      have P7 := ownsRow_setCell' (unhide hP) (a := ⟨gx, k, none⟩) (by show gx < n4; omega) (.int .u8 z)
      have K7 := (unhide hK).far (p := ⟨gx, k, none⟩) (by show gb ≠ gx; omega) (.int .u8 z)
      have B7 := (unhide hB).setCell (p := ⟨gx, k, none⟩) p1 (.int .u8 z)
      have hml2 : (m.set k z).length = t.length := by rw [List.length_set]; exact unhide hml
      have xl := (own_lt (unhide ho)).1
      replace o7 := hide o7; replace R7 := hide R7; replace P7 := hide P7; replace K7 := hide K7; replace B7 := hide B7; replace hml2 := hide hml2
      clear hcur p1 p2 p3 p4 p5 p6 p7 p8 ho hR hP hK hB
      generalize m[k] = mk at *
      clear hkm
      go_wp2_with fail
      clear i1
      subst hz
      go_roundw
      case rel => exact ⟨k + 1, m.set k _, by omega, by go_num, hml2, o7, R7, P7, K7, B7⟩
      case measure => simp [intOf]; omega
    · obtain rfl : k = t.length := by omega
      clear ho hml
      go_wp2_with fail
      go_loopg [101] a.length (fun kk i wr => ∃ (k : Nat) (r : Rdr) (A5 : Option Addr) (c5 : Nat), kk + k = a.length ∧ i = .int .i64 k ∧ Hid (OkR r) ∧ Hid (r.used ≤ t.length) ∧
        Hid (Rdg n3 g gc n gt ct wr r t) ∧ Hid (wr.ownsRow n4 3 1 (.slice A5 r.c.length c5) r.c.length (r.c.flatMap ivc)) ∧ Hid (Blk wr gb 40 #[.slice A5 r.c.length c5, .int .u32 r.span, .int .u32 r.code, .int .i64 r.used]) ∧ Hid (Below w.heap.size w wr))
      case atStart => exact ⟨0, r0, A5, c5, by omega, rfl, hok, hused, hR, hP, hK, hB⟩
      case round =>
        clear hR hP hK hB hok hused
        generalize wr = wx at *
        obtain ⟨k, r, A6, c6, hk, rfl, hkr, hur, hR, hP, hK, hB⟩ := hrel
        by_cases hlt : k < a.length
        · obtain ⟨b, off, rfl, g1, g2, q0⟩ := unhide z3 k hlt
          have c0 := ((unhide hB).cell (p := ⟨b, off + k, none⟩) g2).trans q0
          have z9 : b < wx.heap.size := World.block_lt_of_cell? wx _ c0
          generalize a[k] = i at *
          have hX := fun W hW => Next_any n3 g gc n gt ct i r t W hW (unhide hkr) (unhide ht) (by omega) (unhide hur)
          have hY := fun W hb hv hp => refNext_any n4 lo i (.agg #[.slice A6 r.c.length c6, .int .u32 r.span, .int .u32 r.code, .int .i64 r.used]) (.slice B t.length d) r t W hb ⟨A6, c6, rfl, hp⟩ hv (unhide hkr) (unhide ht) (by omega) (unhide hur)
          have hkr2 := nextR_ok (i := i) (unhide ht) (unhide hkr)
          have hur2 := nextR_used (t := t) (r := r) (i := i) (unhide hur)
          have hst := nextR_still (t := t) (r := r) (i := i)
          generalize nextR t r i = Y at *
          obtain ⟨y0, r', y2⟩ := Y
          simp only [] at hX hY hkr2 hur2 hst
          have i1 : IntKind.i64.wrap ((k : Int) + 1) = (k : Int) + 1 := IntWalk.i64_in _ (by omega)
          have hk0 : (0 : Int) ≤ (k : Int) := by omega
          have hk1 : (k : Int) < (a.length : Int) := by omega
          replace hX := hide hX; replace hY := hide hY; replace hkr2 := hide hkr2; replace hur2 := hide hur2; replace hst := hide hst; replace i1 := hide i1
          clear q0
          go_upto_region 21 with (first
            | (go_at_call 18; refine (unhide hX _ (unhide hR)).mono ?_; rintro e w7 ⟨rfl, R7, b7⟩
               obtain ⟨p1, p2, p3, p4, p5, p6, p7, p8⟩ := unhide hord
               have P7 := own_but_lt (unhide hP) b7 (by simp only [List.mem_cons, List.not_mem_nil, or_false]; rintro q (rfl | rfl) <;> assumption)
               have K7 := (unhide hK).but b7 (by simp only [List.mem_cons, List.not_mem_nil, or_false]; rintro (rfl | rfl) <;> omega)
               have B7 : Below w.heap.size w w7 := (unhide hB).trans (b7.below (by simp only [List.mem_cons, List.not_mem_nil, or_false]; rintro q (rfl | rfl) <;> omega) (unhide hB).size)
               have n7 : n4 ≤ w7.heap.size := by have := K7.lt; omega
               have d0 := K7.cell 0; have d1 := K7.cell 1; have d2 := K7.cell 2; have d3 := K7.cell 3
               simp at d0 d1 d2 d3
               replace P7 := hide P7; replace K7 := hide K7; replace B7 := hide B7; replace R7 := hide R7; replace n7 := hide n7
               clear b7 p1 p2 p3 p4 p5 p6 p7 p8)
            | (go_at_call 20; refine (unhide hY _ (unhide n7) (unhide hM _ (unhide B7)) (unhide P7)).mono ?_; rintro e w8 ⟨v8, rfl, ⟨A8, c8, rfl, P8⟩, b8⟩
               have R8 := (unhide R7).below b8
               have K8 := (unhide K7).below b8 (unhide K7).lt
               have B8 := bl_call (unhide B7) b8
               have K9 := K8.alloc (.cells #[.slice A8 r'.c.length c8, .int .u32 r'.span, .int .u32 r'.code, .int .i64 r'.used] 40)
               have e0 := K9.cell 0; have e1 := K9.cell 1; have e2 := K9.cell 2; have e3 := K9.cell 3
               simp at e0 e1 e2 e3
               have f0 := K9.frozen 0; have f1 := K9.frozen 1; have f2 := K9.frozen 2; have f3 := K9.frozen 3
               replace P8 := hide P8; replace K8 := hide K8; replace B8 := hide B8; replace R8 := hide R8
               clear b8 K9)
            | fail)
          obtain ⟨R9, P9, K9, B9⟩ := rd4 (x := .slice A8 r'.c.length c8) (y := .int .u32 r'.span) (z := .int .u32 r'.code) (u := .int .i64 r'.used) (unhide R8) (unhide P8) (unhide K8) (unhide B8) (by have := unhide hord; omega)
          clear d0 d1 d2 d3 e0 e1 e2 e3 f0 f1 f2 f3 R8 P8 K8 B8 R7 P7 K7 B7 n7 hR hP hK hB c0
          generalize (((((w8.alloc (.cells #[.slice A8 r'.c.length c8, .int .u32 r'.span, .int .u32 r'.code, .int .i64 r'.used] 40)).setCell ⟨gb, 0, none⟩ (.slice A8 r'.c.length c8)).setCell ⟨gb, 1, none⟩ (.int .u32 r'.span)).setCell ⟨gb, 2, none⟩ (.int .u32 r'.code)).setCell ⟨gb, 3, none⟩ (.int .i64 r'.used)) = w9 at *
          have d3 : w9.cell? ⟨g, 3, none⟩ = some (.int .i64 r'.used) := R9.blk.cell 3
          have e3 : w9.cell? ⟨gb, 3, none⟩ = some (.int .i64 r'.used) := K9.cell 3
          have gl := R9.blk.lt
          have bl := K9.lt
          replace R9 := hide R9; replace P9 := hide P9; replace K9 := hide K9; replace B9 := hide B9
          go_quiet ((go_at_call 19; refine Calls.quiet_of_same ((Used_any g r'.used _ (by assumption)).mono fun e w' h => ⟨h.1, h.2.symm⟩)))
          have R9' := (unhide R9).drewN nq; have P9' : (w9.drewN nq).ownsRow n4 3 1 (.slice A8 r'.c.length c8) r'.c.length (r'.c.flatMap ivc) := unhide P9; have K9' := (unhide K9).drewN nq; have B9' := below_drewN (unhide B9) nq
          generalize w9.drewN nq = wy at *
          replace R9' := hide R9'; replace P9' := hide P9'; replace K9' := hide K9'; replace B9' := hide B9'
          clear R9 P9 K9 B9 d3 e3 gl bl
          by_cases he : y2 = 0
          · subst he
            have i1' := unhide i1
            go_wp2_with fail
            clear i1'
            go_roundg (a.length - (k + 1))
            case measure => omega
            case rel => exact ⟨k + 1, r', A8, c8, by omega, by go_num, hkr2, hur2, R9', P9', K9', B9'⟩
          · have he' : (y2 != 0) = true := by simpa using he
            obtain ⟨rfl, rfl⟩ := unhide hst he
            have i1' := unhide i1
            go_wp2_with (first
              | (go_at_call 18; refine (unhide hX _ (unhide R9')).mono ?_; rintro e wz ⟨rfl, Rz, bz⟩
                 obtain ⟨p1, p2, p3, p4, p5, p6, p7, p8⟩ := unhide hord
                 have Pz := own_but_lt (unhide P9') bz (by simp only [List.mem_cons, List.not_mem_nil, or_false]; rintro q (rfl | rfl) <;> assumption)
                 have Kz := (unhide K9').but bz (by simp only [List.mem_cons, List.not_mem_nil, or_false]; rintro (rfl | rfl) <;> omega)
                 have Bz : Below w.heap.size w wz := (unhide B9').trans (bz.below (by simp only [List.mem_cons, List.not_mem_nil, or_false]; rintro q (rfl | rfl) <;> omega) (unhide B9').size)
                 replace Pz := hide Pz; replace Kz := hide Kz; replace Bz := hide Bz; replace Rz := hide Rz
                 clear bz p1 p2 p3 p4 p5 p6 p7 p8)
              | fail)
            clear i1'
            go_roundg (a.length - (k + 1))
            case measure => omega
            case rel => exact ⟨k + 1, r', A8, c8, by omega, by go_num, hkr2, hur2, Rz, Pz, Kz, Bz⟩
        · obtain rfl : k = a.length := by omega
          go_wp2_with fail
          go_ret
          exact ⟨rfl, unhide hB⟩
end Go.Proofs.Ythmhhgodjpgjnaa
