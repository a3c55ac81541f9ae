import Derived.Test.YtnjepbehfioclaaR2
namespace Go.Proofs.Ytnjepbehfioclaa
open Go.RowKit
attribute [local go_sem] bz_size bz_toList run_store_float
set_option maxRecDepth 100000

set_option maxHeartbeats 1000000 in
theorem file_bad1 (g : Nat) (l0 : List UInt8)  (h1 : Stops 41 g #[.pointer (some ⟨g, 0, none⟩), .int .i64 1] l0) (w : World) (h : RdB g w l0) :
    Calls Try.prog 42 #[.pointer (some ⟨g, 0, none⟩)] w fun e w' => e = stopE ∧ But [g] w w' := by
  have hg : g < w.heap.size := h.lt
  replace h1 := hide h1
  have t1 : True := trivial
  have R0 := hide ((h.alloc (.cells #[.string ⟨#[]⟩, .float .f64 0, .int .u32 0, .int .i64 0, .int .i64 0, .int .i64 0] 26)).alloc (.cells #[.string ⟨#[]⟩, .float .f64 0, .int .u32 0, .int .i64 0, .int .i64 0, .int .i64 0] 26))
  have X0 : Hid (Blk ((w.alloc (.cells #[.string ⟨#[]⟩, .float .f64 0, .int .u32 0, .int .i64 0, .int .i64 0, .int .i64 0] 26)).alloc (.cells #[.string ⟨#[]⟩, .float .f64 0, .int .u32 0, .int .i64 0, .int .i64 0, .int .i64 0] 26)) (w.heap.size + 1) 26 #[.string ⟨#[]⟩, .float .f64 0, .int .u32 0, .int .i64 0, .int .i64 0, .int .i64 0]) := hide (Blk.new (by simp only [World.size_alloc]))
  have P0 : Hid (Blk ((w.alloc (.cells #[.string ⟨#[]⟩, .float .f64 0, .int .u32 0, .int .i64 0, .int .i64 0, .int .i64 0] 26)).alloc (.cells #[.string ⟨#[]⟩, .float .f64 0, .int .u32 0, .int .i64 0, .int .i64 0, .int .i64 0] 26)) w.heap.size 26 #[.string ⟨#[]⟩, .float .f64 0, .int .u32 0, .int .i64 0, .int .i64 0, .int .i64 0]) := hide ((Blk.new rfl).alloc _)
  have B0 := hide (((But.refl [g] w).alloc (.cells #[.string ⟨#[]⟩, .float .f64 0, .int .u32 0, .int .i64 0, .int .i64 0, .int .i64 0] 26)).alloc (.cells #[.string ⟨#[]⟩, .float .f64 0, .int .u32 0, .int .i64 0, .int .i64 0, .int .i64 0] 26))
  clear h
  go_enter Try.func42, Try.ntmps42
  go_upto_region 2 with fail
  generalize (w.alloc (.cells #[.string ⟨#[]⟩, .float .f64 0, .int .u32 0, .int .i64 0, .int .i64 0, .int .i64 0] 26)).alloc (.cells #[.string ⟨#[]⟩, .float .f64 0, .int .u32 0, .int .i64 0, .int .i64 0, .int .i64 0] 26) = W0 at *
  go_wp2_with (first
    | (have _t := t1; clear t1 _t; go_at_call 41
       refine (unhide h1 _ (unhide R0)).mono ?_
       rintro e w1 ⟨rfl, K1⟩)
    | fail)
  exact ⟨rfl, rfl, (unhide B0).trans K1⟩
set_option maxHeartbeats 1000000 in
theorem file_bad2 (g : Nat) (l0 l1 : List UInt8) (n : Nat) (h1 : Reads 41 g #[.pointer (some ⟨g, 0, none⟩), .int .i64 1] l0 l1 (.int .i64 (n : Int))) (h2 : Stops 54 g #[.pointer (some ⟨g, 0, none⟩), .int .i64 (n : Int)] l1) (w : World) (h : RdB g w l0) :
    Calls Try.prog 42 #[.pointer (some ⟨g, 0, none⟩)] w fun e w' => e = stopE ∧ But [g] w w' := by
  have hg : g < w.heap.size := h.lt
  replace h1 := hide h1
  replace h2 := hide h2
  have t1 : True := trivial
  have t2 : True := trivial
  have R0 := hide ((h.alloc (.cells #[.string ⟨#[]⟩, .float .f64 0, .int .u32 0, .int .i64 0, .int .i64 0, .int .i64 0] 26)).alloc (.cells #[.string ⟨#[]⟩, .float .f64 0, .int .u32 0, .int .i64 0, .int .i64 0, .int .i64 0] 26))
  have X0 : Hid (Blk ((w.alloc (.cells #[.string ⟨#[]⟩, .float .f64 0, .int .u32 0, .int .i64 0, .int .i64 0, .int .i64 0] 26)).alloc (.cells #[.string ⟨#[]⟩, .float .f64 0, .int .u32 0, .int .i64 0, .int .i64 0, .int .i64 0] 26)) (w.heap.size + 1) 26 #[.string ⟨#[]⟩, .float .f64 0, .int .u32 0, .int .i64 0, .int .i64 0, .int .i64 0]) := hide (Blk.new (by simp only [World.size_alloc]))
  have P0 : Hid (Blk ((w.alloc (.cells #[.string ⟨#[]⟩, .float .f64 0, .int .u32 0, .int .i64 0, .int .i64 0, .int .i64 0] 26)).alloc (.cells #[.string ⟨#[]⟩, .float .f64 0, .int .u32 0, .int .i64 0, .int .i64 0, .int .i64 0] 26)) w.heap.size 26 #[.string ⟨#[]⟩, .float .f64 0, .int .u32 0, .int .i64 0, .int .i64 0, .int .i64 0]) := hide ((Blk.new rfl).alloc _)
  have B0 := hide (((But.refl [g] w).alloc (.cells #[.string ⟨#[]⟩, .float .f64 0, .int .u32 0, .int .i64 0, .int .i64 0, .int .i64 0] 26)).alloc (.cells #[.string ⟨#[]⟩, .float .f64 0, .int .u32 0, .int .i64 0, .int .i64 0, .int .i64 0] 26))
  clear h
  go_enter Try.func42, Try.ntmps42
  go_upto_region 2 with fail
  generalize (w.alloc (.cells #[.string ⟨#[]⟩, .float .f64 0, .int .u32 0, .int .i64 0, .int .i64 0, .int .i64 0] 26)).alloc (.cells #[.string ⟨#[]⟩, .float .f64 0, .int .u32 0, .int .i64 0, .int .i64 0, .int .i64 0] 26) = W0 at *
  go_wp2_with (first
    | (have _t := t1; clear t1 _t; go_at_call 41
       refine (unhide h1 _ (unhide R0)).mono ?_
       rintro e w1 ⟨rfl, R1, K1⟩
       have X1 : Blk w1 (w.heap.size + 1) 26 #[.string ⟨#[]⟩, .float .f64 0, .int .u32 0, .int .i64 0, .int .i64 0, .int .i64 0] := (unhide X0).but K1 (by simp; omega)
       have B1 := hide ((unhide B0).trans K1)
       obtain ⟨⟨x0, x1, x2, x3, x4, x5⟩, ⟨y0, y1, y2, y3, y4, y5⟩⟩ := rd_cells X1
       have z1 : w.heap.size + 1 < w1.heap.size := X1.lt
       replace X1 := hide X1; replace R1 := hide R1
       clear K1)
    | (have _t := t2; clear t2 _t; go_at_call 54
       refine (unhide h2 _ (unhide R1)).mono ?_
       rintro e w2 ⟨rfl, K2⟩)
    | fail)
  exact ⟨rfl, rfl, (unhide B1).trans K2⟩
set_option maxHeartbeats 1000000 in
theorem file_bad3 (g : Nat) (l0 l1 : List UInt8) (n : Nat) (l2 nm : List UInt8) (h1 : Reads 41 g #[.pointer (some ⟨g, 0, none⟩), .int .i64 1] l0 l1 (.int .i64 (n : Int))) (h2 : Takes g n l1 l2 nm) (h3 : Stops 55 g #[.pointer (some ⟨g, 0, none⟩)] l2) (w : World) (h : RdB g w l0) :
    Calls Try.prog 42 #[.pointer (some ⟨g, 0, none⟩)] w fun e w' => e = stopE ∧ But [g] w w' := by
  have hg : g < w.heap.size := h.lt
  replace h1 := hide h1
  replace h2 := hide h2
  replace h3 := hide h3
  have t1 : True := trivial
  have t2 : True := trivial
  have t3 : True := trivial
  have R0 := hide ((h.alloc (.cells #[.string ⟨#[]⟩, .float .f64 0, .int .u32 0, .int .i64 0, .int .i64 0, .int .i64 0] 26)).alloc (.cells #[.string ⟨#[]⟩, .float .f64 0, .int .u32 0, .int .i64 0, .int .i64 0, .int .i64 0] 26))
  have X0 : Hid (Blk ((w.alloc (.cells #[.string ⟨#[]⟩, .float .f64 0, .int .u32 0, .int .i64 0, .int .i64 0, .int .i64 0] 26)).alloc (.cells #[.string ⟨#[]⟩, .float .f64 0, .int .u32 0, .int .i64 0, .int .i64 0, .int .i64 0] 26)) (w.heap.size + 1) 26 #[.string ⟨#[]⟩, .float .f64 0, .int .u32 0, .int .i64 0, .int .i64 0, .int .i64 0]) := hide (Blk.new (by simp only [World.size_alloc]))
  have P0 : Hid (Blk ((w.alloc (.cells #[.string ⟨#[]⟩, .float .f64 0, .int .u32 0, .int .i64 0, .int .i64 0, .int .i64 0] 26)).alloc (.cells #[.string ⟨#[]⟩, .float .f64 0, .int .u32 0, .int .i64 0, .int .i64 0, .int .i64 0] 26)) w.heap.size 26 #[.string ⟨#[]⟩, .float .f64 0, .int .u32 0, .int .i64 0, .int .i64 0, .int .i64 0]) := hide ((Blk.new rfl).alloc _)
  have B0 := hide (((But.refl [g] w).alloc (.cells #[.string ⟨#[]⟩, .float .f64 0, .int .u32 0, .int .i64 0, .int .i64 0, .int .i64 0] 26)).alloc (.cells #[.string ⟨#[]⟩, .float .f64 0, .int .u32 0, .int .i64 0, .int .i64 0, .int .i64 0] 26))
  clear h
  go_enter Try.func42, Try.ntmps42
  go_upto_region 2 with fail
  generalize (w.alloc (.cells #[.string ⟨#[]⟩, .float .f64 0, .int .u32 0, .int .i64 0, .int .i64 0, .int .i64 0] 26)).alloc (.cells #[.string ⟨#[]⟩, .float .f64 0, .int .u32 0, .int .i64 0, .int .i64 0, .int .i64 0] 26) = W0 at *
  go_wp2_with (first
    | (have _t := t1; clear t1 _t; go_at_call 41
       refine (unhide h1 _ (unhide R0)).mono ?_
       rintro e w1 ⟨rfl, R1, K1⟩
       have X1 : Blk w1 (w.heap.size + 1) 26 #[.string ⟨#[]⟩, .float .f64 0, .int .u32 0, .int .i64 0, .int .i64 0, .int .i64 0] := (unhide X0).but K1 (by simp; omega)
       have B1 := hide ((unhide B0).trans K1)
       obtain ⟨⟨x0, x1, x2, x3, x4, x5⟩, ⟨y0, y1, y2, y3, y4, y5⟩⟩ := rd_cells X1
       have z1 : w.heap.size + 1 < w1.heap.size := X1.lt
       replace X1 := hide X1; replace R1 := hide R1
       clear K1)
    | (have _t := t2; clear t2 _t; go_at_call 54
       refine (unhide h2 _ (unhide R1)).mono ?_
       rintro e w2 ⟨A, c, rfl, bs, R2, K2⟩
       have X2 : Blk w2 (w.heap.size + 1) 26 #[.string ⟨#[]⟩, .float .f64 0, .int .u32 0, .int .i64 0, .int .i64 0, .int .i64 0] := (unhide X1).but K2 (by simp; omega)
       have B2 := hide ((unhide B1).trans K2)
       obtain ⟨⟨x0, x1, x2, x3, x4, x5⟩, ⟨y0, y1, y2, y3, y4, y5⟩⟩ := rd_cells X2
       have z2 : w.heap.size + 1 < w2.heap.size := X2.lt
       replace X2 := hide X2; replace R2 := hide R2
       have hcv := bs.convert
       clear bs
       clear K2)
    | (have _t := t3; clear t3 _t; go_at_call 55
       have S2 := hide (RdB.far (p := ⟨w.heap.size + 1, 0, none⟩) (unhide R2) (by simp only []; omega) (.string (bz nm)))
       have Y2 : Hid (Blk _ (w.heap.size + 1) 26 #[.string (bz nm), .float .f64 0, .int .u32 0, .int .i64 0, .int .i64 0, .int .i64 0]) := hide (by simpa using (unhide X2).set 0 (.string (bz nm)))
       have C2 := hide ((unhide B2).far (p := ⟨w.heap.size + 1, 0, none⟩) (by simp only []; omega) (.string (bz nm)))
       refine (unhide h3 _ (unhide S2)).mono ?_
       rintro e w3 ⟨rfl, K3⟩)
    | fail)
  exact ⟨rfl, rfl, (unhide C2).trans K3⟩
set_option maxHeartbeats 1000000 in
theorem file_bad4 (g : Nat) (l0 l1 : List UInt8) (n : Nat) (l2 nm : List UInt8) (l3 : List UInt8) (z : Nat) (h1 : Reads 41 g #[.pointer (some ⟨g, 0, none⟩), .int .i64 1] l0 l1 (.int .i64 (n : Int))) (h2 : Takes g n l1 l2 nm) (h3 : Reads 55 g #[.pointer (some ⟨g, 0, none⟩)] l2 l3 (.float .f64 z)) (h4 : Stops 41 g #[.pointer (some ⟨g, 0, none⟩), .int .i64 4] l3) (w : World) (h : RdB g w l0) :
    Calls Try.prog 42 #[.pointer (some ⟨g, 0, none⟩)] w fun e w' => e = stopE ∧ But [g] w w' := by
  have hg : g < w.heap.size := h.lt
  replace h1 := hide h1
  replace h2 := hide h2
  replace h3 := hide h3
  replace h4 := hide h4
  have t1 : True := trivial
  have t2 : True := trivial
  have t3 : True := trivial
  have t4 : True := trivial
  have R0 := hide ((h.alloc (.cells #[.string ⟨#[]⟩, .float .f64 0, .int .u32 0, .int .i64 0, .int .i64 0, .int .i64 0] 26)).alloc (.cells #[.string ⟨#[]⟩, .float .f64 0, .int .u32 0, .int .i64 0, .int .i64 0, .int .i64 0] 26))
  have X0 : Hid (Blk ((w.alloc (.cells #[.string ⟨#[]⟩, .float .f64 0, .int .u32 0, .int .i64 0, .int .i64 0, .int .i64 0] 26)).alloc (.cells #[.string ⟨#[]⟩, .float .f64 0, .int .u32 0, .int .i64 0, .int .i64 0, .int .i64 0] 26)) (w.heap.size + 1) 26 #[.string ⟨#[]⟩, .float .f64 0, .int .u32 0, .int .i64 0, .int .i64 0, .int .i64 0]) := hide (Blk.new (by simp only [World.size_alloc]))
  have P0 : Hid (Blk ((w.alloc (.cells #[.string ⟨#[]⟩, .float .f64 0, .int .u32 0, .int .i64 0, .int .i64 0, .int .i64 0] 26)).alloc (.cells #[.string ⟨#[]⟩, .float .f64 0, .int .u32 0, .int .i64 0, .int .i64 0, .int .i64 0] 26)) w.heap.size 26 #[.string ⟨#[]⟩, .float .f64 0, .int .u32 0, .int .i64 0, .int .i64 0, .int .i64 0]) := hide ((Blk.new rfl).alloc _)
  have B0 := hide (((But.refl [g] w).alloc (.cells #[.string ⟨#[]⟩, .float .f64 0, .int .u32 0, .int .i64 0, .int .i64 0, .int .i64 0] 26)).alloc (.cells #[.string ⟨#[]⟩, .float .f64 0, .int .u32 0, .int .i64 0, .int .i64 0, .int .i64 0] 26))
  clear h
  go_enter Try.func42, Try.ntmps42
  go_upto_region 2 with fail
  generalize (w.alloc (.cells #[.string ⟨#[]⟩, .float .f64 0, .int .u32 0, .int .i64 0, .int .i64 0, .int .i64 0] 26)).alloc (.cells #[.string ⟨#[]⟩, .float .f64 0, .int .u32 0, .int .i64 0, .int .i64 0, .int .i64 0] 26) = W0 at *
  go_wp2_with (first
    | (have _t := t1; clear t1 _t; go_at_call 41
       refine (unhide h1 _ (unhide R0)).mono ?_
       rintro e w1 ⟨rfl, R1, K1⟩
       have X1 : Blk w1 (w.heap.size + 1) 26 #[.string ⟨#[]⟩, .float .f64 0, .int .u32 0, .int .i64 0, .int .i64 0, .int .i64 0] := (unhide X0).but K1 (by simp; omega)
       have B1 := hide ((unhide B0).trans K1)
       obtain ⟨⟨x0, x1, x2, x3, x4, x5⟩, ⟨y0, y1, y2, y3, y4, y5⟩⟩ := rd_cells X1
       have z1 : w.heap.size + 1 < w1.heap.size := X1.lt
       replace X1 := hide X1; replace R1 := hide R1
       clear K1)
    | (have _t := t2; clear t2 _t; go_at_call 54
       refine (unhide h2 _ (unhide R1)).mono ?_
       rintro e w2 ⟨A, c, rfl, bs, R2, K2⟩
       have X2 : Blk w2 (w.heap.size + 1) 26 #[.string ⟨#[]⟩, .float .f64 0, .int .u32 0, .int .i64 0, .int .i64 0, .int .i64 0] := (unhide X1).but K2 (by simp; omega)
       have B2 := hide ((unhide B1).trans K2)
       obtain ⟨⟨x0, x1, x2, x3, x4, x5⟩, ⟨y0, y1, y2, y3, y4, y5⟩⟩ := rd_cells X2
       have z2 : w.heap.size + 1 < w2.heap.size := X2.lt
       replace X2 := hide X2; replace R2 := hide R2
       have hcv := bs.convert
       clear bs
       clear K2)
    | (have _t := t3; clear t3 _t; go_at_call 55
       have S2 := hide (RdB.far (p := ⟨w.heap.size + 1, 0, none⟩) (unhide R2) (by simp only []; omega) (.string (bz nm)))
       have Y2 : Hid (Blk _ (w.heap.size + 1) 26 #[.string (bz nm), .float .f64 0, .int .u32 0, .int .i64 0, .int .i64 0, .int .i64 0]) := hide (by simpa using (unhide X2).set 0 (.string (bz nm)))
       have C2 := hide ((unhide B2).far (p := ⟨w.heap.size + 1, 0, none⟩) (by simp only []; omega) (.string (bz nm)))
       refine (unhide h3 _ (unhide S2)).mono ?_
       rintro e w3 ⟨rfl, R3, K3⟩
       have X3 : Blk w3 (w.heap.size + 1) 26 #[.string (bz nm), .float .f64 0, .int .u32 0, .int .i64 0, .int .i64 0, .int .i64 0] := (unhide Y2).but K3 (by simp; omega)
       have B3 := hide ((unhide C2).trans K3)
       obtain ⟨⟨x0, x1, x2, x3, x4, x5⟩, ⟨y0, y1, y2, y3, y4, y5⟩⟩ := rd_cells X3
       have z3 : w.heap.size + 1 < w3.heap.size := X3.lt
       replace X3 := hide X3; replace R3 := hide R3
       clear K3)
    | (have _t := t4; clear t4 _t; go_at_call 41
       have S3 := hide (RdB.far (p := ⟨w.heap.size + 1, 1, none⟩) (unhide R3) (by simp only []; omega) (.float .f64 z))
       have Y3 : Hid (Blk _ (w.heap.size + 1) 26 #[.string (bz nm), .float .f64 z, .int .u32 0, .int .i64 0, .int .i64 0, .int .i64 0]) := hide (by simpa using (unhide X3).set 1 (.float .f64 z))
       have C3 := hide ((unhide B3).far (p := ⟨w.heap.size + 1, 1, none⟩) (by simp only []; omega) (.float .f64 z))
       refine (unhide h4 _ (unhide S3)).mono ?_
       rintro e w4 ⟨rfl, K4⟩)
    | fail)
  exact ⟨rfl, rfl, (unhide C3).trans K4⟩
set_option maxHeartbeats 1000000 in
theorem file_bad5 (g : Nat) (l0 l1 : List UInt8) (n : Nat) (l2 nm : List UInt8) (l3 : List UInt8) (z : Nat) (l4 : List UInt8) (s : Nat) (h1 : Reads 41 g #[.pointer (some ⟨g, 0, none⟩), .int .i64 1] l0 l1 (.int .i64 (n : Int))) (h2 : Takes g n l1 l2 nm) (h3 : Reads 55 g #[.pointer (some ⟨g, 0, none⟩)] l2 l3 (.float .f64 z)) (h4 : Reads 41 g #[.pointer (some ⟨g, 0, none⟩), .int .i64 4] l3 l4 (.int .i64 (s : Int))) (h5 : Stops 41 g #[.pointer (some ⟨g, 0, none⟩), .int .i64 2] l4) (hs : s < 4294967296) (w : World) (h : RdB g w l0) :
    Calls Try.prog 42 #[.pointer (some ⟨g, 0, none⟩)] w fun e w' => e = stopE ∧ But [g] w w' := by
  have hg : g < w.heap.size := h.lt
  have e1 : (s : Int) % (4294967296 : Int) = (s : Int) := by omega
  have e2 : IntKind.u32.wrap (s : Int) = (s : Int) := by rw [IntKind.wrap_u32]; exact e1
  replace hs := hide hs
  replace h1 := hide h1
  replace h2 := hide h2
  replace h3 := hide h3
  replace h4 := hide h4
  replace h5 := hide h5
  have t1 : True := trivial
  have t2 : True := trivial
  have t3 : True := trivial
  have t4 : True := trivial
  have t5 : True := trivial
  have R0 := hide ((h.alloc (.cells #[.string ⟨#[]⟩, .float .f64 0, .int .u32 0, .int .i64 0, .int .i64 0, .int .i64 0] 26)).alloc (.cells #[.string ⟨#[]⟩, .float .f64 0, .int .u32 0, .int .i64 0, .int .i64 0, .int .i64 0] 26))
  have X0 : Hid (Blk ((w.alloc (.cells #[.string ⟨#[]⟩, .float .f64 0, .int .u32 0, .int .i64 0, .int .i64 0, .int .i64 0] 26)).alloc (.cells #[.string ⟨#[]⟩, .float .f64 0, .int .u32 0, .int .i64 0, .int .i64 0, .int .i64 0] 26)) (w.heap.size + 1) 26 #[.string ⟨#[]⟩, .float .f64 0, .int .u32 0, .int .i64 0, .int .i64 0, .int .i64 0]) := hide (Blk.new (by simp only [World.size_alloc]))
  have P0 : Hid (Blk ((w.alloc (.cells #[.string ⟨#[]⟩, .float .f64 0, .int .u32 0, .int .i64 0, .int .i64 0, .int .i64 0] 26)).alloc (.cells #[.string ⟨#[]⟩, .float .f64 0, .int .u32 0, .int .i64 0, .int .i64 0, .int .i64 0] 26)) w.heap.size 26 #[.string ⟨#[]⟩, .float .f64 0, .int .u32 0, .int .i64 0, .int .i64 0, .int .i64 0]) := hide ((Blk.new rfl).alloc _)
  have B0 := hide (((But.refl [g] w).alloc (.cells #[.string ⟨#[]⟩, .float .f64 0, .int .u32 0, .int .i64 0, .int .i64 0, .int .i64 0] 26)).alloc (.cells #[.string ⟨#[]⟩, .float .f64 0, .int .u32 0, .int .i64 0, .int .i64 0, .int .i64 0] 26))
  clear h
  go_enter Try.func42, Try.ntmps42
  go_upto_region 2 with fail
  generalize (w.alloc (.cells #[.string ⟨#[]⟩, .float .f64 0, .int .u32 0, .int .i64 0, .int .i64 0, .int .i64 0] 26)).alloc (.cells #[.string ⟨#[]⟩, .float .f64 0, .int .u32 0, .int .i64 0, .int .i64 0, .int .i64 0] 26) = W0 at *
  go_wp2_with (first
    | (have _t := t1; clear t1 _t; go_at_call 41
       refine (unhide h1 _ (unhide R0)).mono ?_
       rintro e w1 ⟨rfl, R1, K1⟩
       have X1 : Blk w1 (w.heap.size + 1) 26 #[.string ⟨#[]⟩, .float .f64 0, .int .u32 0, .int .i64 0, .int .i64 0, .int .i64 0] := (unhide X0).but K1 (by simp; omega)
       have B1 := hide ((unhide B0).trans K1)
       obtain ⟨⟨x0, x1, x2, x3, x4, x5⟩, ⟨y0, y1, y2, y3, y4, y5⟩⟩ := rd_cells X1
       have z1 : w.heap.size + 1 < w1.heap.size := X1.lt
       replace X1 := hide X1; replace R1 := hide R1
       clear K1)
    | (have _t := t2; clear t2 _t; go_at_call 54
       refine (unhide h2 _ (unhide R1)).mono ?_
       rintro e w2 ⟨A, c, rfl, bs, R2, K2⟩
       have X2 : Blk w2 (w.heap.size + 1) 26 #[.string ⟨#[]⟩, .float .f64 0, .int .u32 0, .int .i64 0, .int .i64 0, .int .i64 0] := (unhide X1).but K2 (by simp; omega)
       have B2 := hide ((unhide B1).trans K2)
       obtain ⟨⟨x0, x1, x2, x3, x4, x5⟩, ⟨y0, y1, y2, y3, y4, y5⟩⟩ := rd_cells X2
       have z2 : w.heap.size + 1 < w2.heap.size := X2.lt
       replace X2 := hide X2; replace R2 := hide R2
       have hcv := bs.convert
       clear bs
       clear K2)
    | (have _t := t3; clear t3 _t; go_at_call 55
       have S2 := hide (RdB.far (p := ⟨w.heap.size + 1, 0, none⟩) (unhide R2) (by simp only []; omega) (.string (bz nm)))
       have Y2 : Hid (Blk _ (w.heap.size + 1) 26 #[.string (bz nm), .float .f64 0, .int .u32 0, .int .i64 0, .int .i64 0, .int .i64 0]) := hide (by simpa using (unhide X2).set 0 (.string (bz nm)))
       have C2 := hide ((unhide B2).far (p := ⟨w.heap.size + 1, 0, none⟩) (by simp only []; omega) (.string (bz nm)))
       refine (unhide h3 _ (unhide S2)).mono ?_
       rintro e w3 ⟨rfl, R3, K3⟩
       have X3 : Blk w3 (w.heap.size + 1) 26 #[.string (bz nm), .float .f64 0, .int .u32 0, .int .i64 0, .int .i64 0, .int .i64 0] := (unhide Y2).but K3 (by simp; omega)
       have B3 := hide ((unhide C2).trans K3)
       obtain ⟨⟨x0, x1, x2, x3, x4, x5⟩, ⟨y0, y1, y2, y3, y4, y5⟩⟩ := rd_cells X3
       have z3 : w.heap.size + 1 < w3.heap.size := X3.lt
       replace X3 := hide X3; replace R3 := hide R3
       clear K3)
    | (have _t := t4; clear t4 _t; go_at_call 41
       have S3 := hide (RdB.far (p := ⟨w.heap.size + 1, 1, none⟩) (unhide R3) (by simp only []; omega) (.float .f64 z))
       have Y3 : Hid (Blk _ (w.heap.size + 1) 26 #[.string (bz nm), .float .f64 z, .int .u32 0, .int .i64 0, .int .i64 0, .int .i64 0]) := hide (by simpa using (unhide X3).set 1 (.float .f64 z))
       have C3 := hide ((unhide B3).far (p := ⟨w.heap.size + 1, 1, none⟩) (by simp only []; omega) (.float .f64 z))
       refine (unhide h4 _ (unhide S3)).mono ?_
       rintro e w4 ⟨rfl, R4, K4⟩
       have X4 : Blk w4 (w.heap.size + 1) 26 #[.string (bz nm), .float .f64 z, .int .u32 0, .int .i64 0, .int .i64 0, .int .i64 0] := (unhide Y3).but K4 (by simp; omega)
       have B4 := hide ((unhide C3).trans K4)
       obtain ⟨⟨x0, x1, x2, x3, x4, x5⟩, ⟨y0, y1, y2, y3, y4, y5⟩⟩ := rd_cells X4
       have z4 : w.heap.size + 1 < w4.heap.size := X4.lt
       replace X4 := hide X4; replace R4 := hide R4
       clear K4)
    | (have _t := t5; clear t5 _t; go_at_call 41
       have S4 := hide (RdB.far (p := ⟨w.heap.size + 1, 2, none⟩) (unhide R4) (by simp only []; omega) (.int .u32 (s : Int)))
       have Y4 : Hid (Blk _ (w.heap.size + 1) 26 #[.string (bz nm), .float .f64 z, .int .u32 (s : Int), .int .i64 0, .int .i64 0, .int .i64 0]) := hide (by simpa using (unhide X4).set 2 (.int .u32 (s : Int)))
       have C4 := hide ((unhide B4).far (p := ⟨w.heap.size + 1, 2, none⟩) (by simp only []; omega) (.int .u32 (s : Int)))
       refine (unhide h5 _ (unhide S4)).mono ?_
       rintro e w5 ⟨rfl, K5⟩)
    | fail)
  exact ⟨rfl, rfl, (unhide C4).trans K5⟩
set_option maxHeartbeats 1000000 in
theorem file_bad6 (g : Nat) (l0 l1 : List UInt8) (n : Nat) (l2 nm : List UInt8) (l3 : List UInt8) (z : Nat) (l4 : List UInt8) (s : Nat) (l5 : List UInt8) (b : Nat) (h1 : Reads 41 g #[.pointer (some ⟨g, 0, none⟩), .int .i64 1] l0 l1 (.int .i64 (n : Int))) (h2 : Takes g n l1 l2 nm) (h3 : Reads 55 g #[.pointer (some ⟨g, 0, none⟩)] l2 l3 (.float .f64 z)) (h4 : Reads 41 g #[.pointer (some ⟨g, 0, none⟩), .int .i64 4] l3 l4 (.int .i64 (s : Int))) (h5 : Reads 41 g #[.pointer (some ⟨g, 0, none⟩), .int .i64 2] l4 l5 (.int .i64 (b : Int))) (h6 : Stops 41 g #[.pointer (some ⟨g, 0, none⟩), .int .i64 3] l5) (hs : s < 4294967296) (w : World) (h : RdB g w l0) :
    Calls Try.prog 42 #[.pointer (some ⟨g, 0, none⟩)] w fun e w' => e = stopE ∧ But [g] w w' := by
  have hg : g < w.heap.size := h.lt
  have e1 : (s : Int) % (4294967296 : Int) = (s : Int) := by omega
  have e2 : IntKind.u32.wrap (s : Int) = (s : Int) := by rw [IntKind.wrap_u32]; exact e1
  replace hs := hide hs
  replace h1 := hide h1
  replace h2 := hide h2
  replace h3 := hide h3
  replace h4 := hide h4
  replace h5 := hide h5
  replace h6 := hide h6
  have t1 : True := trivial
  have t2 : True := trivial
  have t3 : True := trivial
  have t4 : True := trivial
  have t5 : True := trivial
  have t6 : True := trivial
  have R0 := hide ((h.alloc (.cells #[.string ⟨#[]⟩, .float .f64 0, .int .u32 0, .int .i64 0, .int .i64 0, .int .i64 0] 26)).alloc (.cells #[.string ⟨#[]⟩, .float .f64 0, .int .u32 0, .int .i64 0, .int .i64 0, .int .i64 0] 26))
  have X0 : Hid (Blk ((w.alloc (.cells #[.string ⟨#[]⟩, .float .f64 0, .int .u32 0, .int .i64 0, .int .i64 0, .int .i64 0] 26)).alloc (.cells #[.string ⟨#[]⟩, .float .f64 0, .int .u32 0, .int .i64 0, .int .i64 0, .int .i64 0] 26)) (w.heap.size + 1) 26 #[.string ⟨#[]⟩, .float .f64 0, .int .u32 0, .int .i64 0, .int .i64 0, .int .i64 0]) := hide (Blk.new (by simp only [World.size_alloc]))
  have P0 : Hid (Blk ((w.alloc (.cells #[.string ⟨#[]⟩, .float .f64 0, .int .u32 0, .int .i64 0, .int .i64 0, .int .i64 0] 26)).alloc (.cells #[.string ⟨#[]⟩, .float .f64 0, .int .u32 0, .int .i64 0, .int .i64 0, .int .i64 0] 26)) w.heap.size 26 #[.string ⟨#[]⟩, .float .f64 0, .int .u32 0, .int .i64 0, .int .i64 0, .int .i64 0]) := hide ((Blk.new rfl).alloc _)
  have B0 := hide (((But.refl [g] w).alloc (.cells #[.string ⟨#[]⟩, .float .f64 0, .int .u32 0, .int .i64 0, .int .i64 0, .int .i64 0] 26)).alloc (.cells #[.string ⟨#[]⟩, .float .f64 0, .int .u32 0, .int .i64 0, .int .i64 0, .int .i64 0] 26))
  clear h
  go_enter Try.func42, Try.ntmps42
  go_upto_region 2 with fail
  generalize (w.alloc (.cells #[.string ⟨#[]⟩, .float .f64 0, .int .u32 0, .int .i64 0, .int .i64 0, .int .i64 0] 26)).alloc (.cells #[.string ⟨#[]⟩, .float .f64 0, .int .u32 0, .int .i64 0, .int .i64 0, .int .i64 0] 26) = W0 at *
  go_wp2_with (first
    | (have _t := t1; clear t1 _t; go_at_call 41
       refine (unhide h1 _ (unhide R0)).mono ?_
       rintro e w1 ⟨rfl, R1, K1⟩
       have X1 : Blk w1 (w.heap.size + 1) 26 #[.string ⟨#[]⟩, .float .f64 0, .int .u32 0, .int .i64 0, .int .i64 0, .int .i64 0] := (unhide X0).but K1 (by simp; omega)
       have B1 := hide ((unhide B0).trans K1)
       obtain ⟨⟨x0, x1, x2, x3, x4, x5⟩, ⟨y0, y1, y2, y3, y4, y5⟩⟩ := rd_cells X1
       have z1 : w.heap.size + 1 < w1.heap.size := X1.lt
       replace X1 := hide X1; replace R1 := hide R1
       clear K1)
    | (have _t := t2; clear t2 _t; go_at_call 54
       refine (unhide h2 _ (unhide R1)).mono ?_
       rintro e w2 ⟨A, c, rfl, bs, R2, K2⟩
       have X2 : Blk w2 (w.heap.size + 1) 26 #[.string ⟨#[]⟩, .float .f64 0, .int .u32 0, .int .i64 0, .int .i64 0, .int .i64 0] := (unhide X1).but K2 (by simp; omega)
       have B2 := hide ((unhide B1).trans K2)
       obtain ⟨⟨x0, x1, x2, x3, x4, x5⟩, ⟨y0, y1, y2, y3, y4, y5⟩⟩ := rd_cells X2
       have z2 : w.heap.size + 1 < w2.heap.size := X2.lt
       replace X2 := hide X2; replace R2 := hide R2
       have hcv := bs.convert
       clear bs
       clear K2)
    | (have _t := t3; clear t3 _t; go_at_call 55
       have S2 := hide (RdB.far (p := ⟨w.heap.size + 1, 0, none⟩) (unhide R2) (by simp only []; omega) (.string (bz nm)))
       have Y2 : Hid (Blk _ (w.heap.size + 1) 26 #[.string (bz nm), .float .f64 0, .int .u32 0, .int .i64 0, .int .i64 0, .int .i64 0]) := hide (by simpa using (unhide X2).set 0 (.string (bz nm)))
       have C2 := hide ((unhide B2).far (p := ⟨w.heap.size + 1, 0, none⟩) (by simp only []; omega) (.string (bz nm)))
       refine (unhide h3 _ (unhide S2)).mono ?_
       rintro e w3 ⟨rfl, R3, K3⟩
       have X3 : Blk w3 (w.heap.size + 1) 26 #[.string (bz nm), .float .f64 0, .int .u32 0, .int .i64 0, .int .i64 0, .int .i64 0] := (unhide Y2).but K3 (by simp; omega)
       have B3 := hide ((unhide C2).trans K3)
       obtain ⟨⟨x0, x1, x2, x3, x4, x5⟩, ⟨y0, y1, y2, y3, y4, y5⟩⟩ := rd_cells X3
       have z3 : w.heap.size + 1 < w3.heap.size := X3.lt
       replace X3 := hide X3; replace R3 := hide R3
       clear K3)
    | (have _t := t4; clear t4 _t; go_at_call 41
       have S3 := hide (RdB.far (p := ⟨w.heap.size + 1, 1, none⟩) (unhide R3) (by simp only []; omega) (.float .f64 z))
       have Y3 : Hid (Blk _ (w.heap.size + 1) 26 #[.string (bz nm), .float .f64 z, .int .u32 0, .int .i64 0, .int .i64 0, .int .i64 0]) := hide (by simpa using (unhide X3).set 1 (.float .f64 z))
       have C3 := hide ((unhide B3).far (p := ⟨w.heap.size + 1, 1, none⟩) (by simp only []; omega) (.float .f64 z))
       refine (unhide h4 _ (unhide S3)).mono ?_
       rintro e w4 ⟨rfl, R4, K4⟩
       have X4 : Blk w4 (w.heap.size + 1) 26 #[.string (bz nm), .float .f64 z, .int .u32 0, .int .i64 0, .int .i64 0, .int .i64 0] := (unhide Y3).but K4 (by simp; omega)
       have B4 := hide ((unhide C3).trans K4)
       obtain ⟨⟨x0, x1, x2, x3, x4, x5⟩, ⟨y0, y1, y2, y3, y4, y5⟩⟩ := rd_cells X4
       have z4 : w.heap.size + 1 < w4.heap.size := X4.lt
       replace X4 := hide X4; replace R4 := hide R4
       clear K4)
    | (have _t := t5; clear t5 _t; go_at_call 41
       have S4 := hide (RdB.far (p := ⟨w.heap.size + 1, 2, none⟩) (unhide R4) (by simp only []; omega) (.int .u32 (s : Int)))
       have Y4 : Hid (Blk _ (w.heap.size + 1) 26 #[.string (bz nm), .float .f64 z, .int .u32 (s : Int), .int .i64 0, .int .i64 0, .int .i64 0]) := hide (by simpa using (unhide X4).set 2 (.int .u32 (s : Int)))
       have C4 := hide ((unhide B4).far (p := ⟨w.heap.size + 1, 2, none⟩) (by simp only []; omega) (.int .u32 (s : Int)))
       refine (unhide h5 _ (unhide S4)).mono ?_
       rintro e w5 ⟨rfl, R5, K5⟩
       have X5 : Blk w5 (w.heap.size + 1) 26 #[.string (bz nm), .float .f64 z, .int .u32 (s : Int), .int .i64 0, .int .i64 0, .int .i64 0] := (unhide Y4).but K5 (by simp; omega)
       have B5 := hide ((unhide C4).trans K5)
       obtain ⟨⟨x0, x1, x2, x3, x4, x5⟩, ⟨y0, y1, y2, y3, y4, y5⟩⟩ := rd_cells X5
       have z5 : w.heap.size + 1 < w5.heap.size := X5.lt
       replace X5 := hide X5; replace R5 := hide R5
       clear K5)
    | (have _t := t6; clear t6 _t; go_at_call 41
       have S5 := hide (RdB.far (p := ⟨w.heap.size + 1, 3, none⟩) (unhide R5) (by simp only []; omega) (.int .i64 (b : Int)))
       have Y5 : Hid (Blk _ (w.heap.size + 1) 26 #[.string (bz nm), .float .f64 z, .int .u32 (s : Int), .int .i64 (b : Int), .int .i64 0, .int .i64 0]) := hide (by simpa using (unhide X5).set 3 (.int .i64 (b : Int)))
       have C5 := hide ((unhide B5).far (p := ⟨w.heap.size + 1, 3, none⟩) (by simp only []; omega) (.int .i64 (b : Int)))
       refine (unhide h6 _ (unhide S5)).mono ?_
       rintro e w6 ⟨rfl, K6⟩)
    | fail)
  exact ⟨rfl, rfl, (unhide C5).trans K6⟩
set_option maxHeartbeats 1000000 in
theorem file_bad7 (g : Nat) (l0 l1 : List UInt8) (n : Nat) (l2 nm : List UInt8) (l3 : List UInt8) (z : Nat) (l4 : List UInt8) (s : Nat) (l5 : List UInt8) (b : Nat) (l6 : List UInt8) (r : Nat) (h1 : Reads 41 g #[.pointer (some ⟨g, 0, none⟩), .int .i64 1] l0 l1 (.int .i64 (n : Int))) (h2 : Takes g n l1 l2 nm) (h3 : Reads 55 g #[.pointer (some ⟨g, 0, none⟩)] l2 l3 (.float .f64 z)) (h4 : Reads 41 g #[.pointer (some ⟨g, 0, none⟩), .int .i64 4] l3 l4 (.int .i64 (s : Int))) (h5 : Reads 41 g #[.pointer (some ⟨g, 0, none⟩), .int .i64 2] l4 l5 (.int .i64 (b : Int))) (h6 : Reads 41 g #[.pointer (some ⟨g, 0, none⟩), .int .i64 3] l5 l6 (.int .i64 (r : Int))) (h7 : Stops 41 g #[.pointer (some ⟨g, 0, none⟩), .int .i64 3] l6) (hs : s < 4294967296) (w : World) (h : RdB g w l0) :
    Calls Try.prog 42 #[.pointer (some ⟨g, 0, none⟩)] w fun e w' => e = stopE ∧ But [g] w w' := by
  have hg : g < w.heap.size := h.lt
  have e1 : (s : Int) % (4294967296 : Int) = (s : Int) := by omega
  have e2 : IntKind.u32.wrap (s : Int) = (s : Int) := by rw [IntKind.wrap_u32]; exact e1
  replace hs := hide hs
  replace h1 := hide h1
  replace h2 := hide h2
  replace h3 := hide h3
  replace h4 := hide h4
  replace h5 := hide h5
  replace h6 := hide h6
  replace h7 := hide h7
  have t1 : True := trivial
  have t2 : True := trivial
  have t3 : True := trivial
  have t4 : True := trivial
  have t5 : True := trivial
  have t6 : True := trivial
  have t7 : True := trivial
  have R0 := hide ((h.alloc (.cells #[.string ⟨#[]⟩, .float .f64 0, .int .u32 0, .int .i64 0, .int .i64 0, .int .i64 0] 26)).alloc (.cells #[.string ⟨#[]⟩, .float .f64 0, .int .u32 0, .int .i64 0, .int .i64 0, .int .i64 0] 26))
  have X0 : Hid (Blk ((w.alloc (.cells #[.string ⟨#[]⟩, .float .f64 0, .int .u32 0, .int .i64 0, .int .i64 0, .int .i64 0] 26)).alloc (.cells #[.string ⟨#[]⟩, .float .f64 0, .int .u32 0, .int .i64 0, .int .i64 0, .int .i64 0] 26)) (w.heap.size + 1) 26 #[.string ⟨#[]⟩, .float .f64 0, .int .u32 0, .int .i64 0, .int .i64 0, .int .i64 0]) := hide (Blk.new (by simp only [World.size_alloc]))
  have P0 : Hid (Blk ((w.alloc (.cells #[.string ⟨#[]⟩, .float .f64 0, .int .u32 0, .int .i64 0, .int .i64 0, .int .i64 0] 26)).alloc (.cells #[.string ⟨#[]⟩, .float .f64 0, .int .u32 0, .int .i64 0, .int .i64 0, .int .i64 0] 26)) w.heap.size 26 #[.string ⟨#[]⟩, .float .f64 0, .int .u32 0, .int .i64 0, .int .i64 0, .int .i64 0]) := hide ((Blk.new rfl).alloc _)
  have B0 := hide (((But.refl [g] w).alloc (.cells #[.string ⟨#[]⟩, .float .f64 0, .int .u32 0, .int .i64 0, .int .i64 0, .int .i64 0] 26)).alloc (.cells #[.string ⟨#[]⟩, .float .f64 0, .int .u32 0, .int .i64 0, .int .i64 0, .int .i64 0] 26))
  clear h
  go_enter Try.func42, Try.ntmps42
  go_upto_region 2 with fail
  generalize (w.alloc (.cells #[.string ⟨#[]⟩, .float .f64 0, .int .u32 0, .int .i64 0, .int .i64 0, .int .i64 0] 26)).alloc (.cells #[.string ⟨#[]⟩, .float .f64 0, .int .u32 0, .int .i64 0, .int .i64 0, .int .i64 0] 26) = W0 at *
  go_wp2_with (first
    | (have _t := t1; clear t1 _t; go_at_call 41
       refine (unhide h1 _ (unhide R0)).mono ?_
       rintro e w1 ⟨rfl, R1, K1⟩
       have X1 : Blk w1 (w.heap.size + 1) 26 #[.string ⟨#[]⟩, .float .f64 0, .int .u32 0, .int .i64 0, .int .i64 0, .int .i64 0] := (unhide X0).but K1 (by simp; omega)
       have B1 := hide ((unhide B0).trans K1)
       obtain ⟨⟨x0, x1, x2, x3, x4, x5⟩, ⟨y0, y1, y2, y3, y4, y5⟩⟩ := rd_cells X1
       have z1 : w.heap.size + 1 < w1.heap.size := X1.lt
       replace X1 := hide X1; replace R1 := hide R1
       clear K1)
    | (have _t := t2; clear t2 _t; go_at_call 54
       refine (unhide h2 _ (unhide R1)).mono ?_
       rintro e w2 ⟨A, c, rfl, bs, R2, K2⟩
       have X2 : Blk w2 (w.heap.size + 1) 26 #[.string ⟨#[]⟩, .float .f64 0, .int .u32 0, .int .i64 0, .int .i64 0, .int .i64 0] := (unhide X1).but K2 (by simp; omega)
       have B2 := hide ((unhide B1).trans K2)
       obtain ⟨⟨x0, x1, x2, x3, x4, x5⟩, ⟨y0, y1, y2, y3, y4, y5⟩⟩ := rd_cells X2
       have z2 : w.heap.size + 1 < w2.heap.size := X2.lt
       replace X2 := hide X2; replace R2 := hide R2
       have hcv := bs.convert
       clear bs
       clear K2)
    | (have _t := t3; clear t3 _t; go_at_call 55
       have S2 := hide (RdB.far (p := ⟨w.heap.size + 1, 0, none⟩) (unhide R2) (by simp only []; omega) (.string (bz nm)))
       have Y2 : Hid (Blk _ (w.heap.size + 1) 26 #[.string (bz nm), .float .f64 0, .int .u32 0, .int .i64 0, .int .i64 0, .int .i64 0]) := hide (by simpa using (unhide X2).set 0 (.string (bz nm)))
       have C2 := hide ((unhide B2).far (p := ⟨w.heap.size + 1, 0, none⟩) (by simp only []; omega) (.string (bz nm)))
       refine (unhide h3 _ (unhide S2)).mono ?_
       rintro e w3 ⟨rfl, R3, K3⟩
       have X3 : Blk w3 (w.heap.size + 1) 26 #[.string (bz nm), .float .f64 0, .int .u32 0, .int .i64 0, .int .i64 0, .int .i64 0] := (unhide Y2).but K3 (by simp; omega)
       have B3 := hide ((unhide C2).trans K3)
       obtain ⟨⟨x0, x1, x2, x3, x4, x5⟩, ⟨y0, y1, y2, y3, y4, y5⟩⟩ := rd_cells X3
       have z3 : w.heap.size + 1 < w3.heap.size := X3.lt
       replace X3 := hide X3; replace R3 := hide R3
       clear K3)
    | (have _t := t4; clear t4 _t; go_at_call 41
       have S3 := hide (RdB.far (p := ⟨w.heap.size + 1, 1, none⟩) (unhide R3) (by simp only []; omega) (.float .f64 z))
       have Y3 : Hid (Blk _ (w.heap.size + 1) 26 #[.string (bz nm), .float .f64 z, .int .u32 0, .int .i64 0, .int .i64 0, .int .i64 0]) := hide (by simpa using (unhide X3).set 1 (.float .f64 z))
       have C3 := hide ((unhide B3).far (p := ⟨w.heap.size + 1, 1, none⟩) (by simp only []; omega) (.float .f64 z))
       refine (unhide h4 _ (unhide S3)).mono ?_
       rintro e w4 ⟨rfl, R4, K4⟩
       have X4 : Blk w4 (w.heap.size + 1) 26 #[.string (bz nm), .float .f64 z, .int .u32 0, .int .i64 0, .int .i64 0, .int .i64 0] := (unhide Y3).but K4 (by simp; omega)
       have B4 := hide ((unhide C3).trans K4)
       obtain ⟨⟨x0, x1, x2, x3, x4, x5⟩, ⟨y0, y1, y2, y3, y4, y5⟩⟩ := rd_cells X4
       have z4 : w.heap.size + 1 < w4.heap.size := X4.lt
       replace X4 := hide X4; replace R4 := hide R4
       clear K4)
    | (have _t := t5; clear t5 _t; go_at_call 41
       have S4 := hide (RdB.far (p := ⟨w.heap.size + 1, 2, none⟩) (unhide R4) (by simp only []; omega) (.int .u32 (s : Int)))
       have Y4 : Hid (Blk _ (w.heap.size + 1) 26 #[.string (bz nm), .float .f64 z, .int .u32 (s : Int), .int .i64 0, .int .i64 0, .int .i64 0]) := hide (by simpa using (unhide X4).set 2 (.int .u32 (s : Int)))
       have C4 := hide ((unhide B4).far (p := ⟨w.heap.size + 1, 2, none⟩) (by simp only []; omega) (.int .u32 (s : Int)))
       refine (unhide h5 _ (unhide S4)).mono ?_
       rintro e w5 ⟨rfl, R5, K5⟩
       have X5 : Blk w5 (w.heap.size + 1) 26 #[.string (bz nm), .float .f64 z, .int .u32 (s : Int), .int .i64 0, .int .i64 0, .int .i64 0] := (unhide Y4).but K5 (by simp; omega)
       have B5 := hide ((unhide C4).trans K5)
       obtain ⟨⟨x0, x1, x2, x3, x4, x5⟩, ⟨y0, y1, y2, y3, y4, y5⟩⟩ := rd_cells X5
       have z5 : w.heap.size + 1 < w5.heap.size := X5.lt
       replace X5 := hide X5; replace R5 := hide R5
       clear K5)
    | (have _t := t6; clear t6 _t; go_at_call 41
       have S5 := hide (RdB.far (p := ⟨w.heap.size + 1, 3, none⟩) (unhide R5) (by simp only []; omega) (.int .i64 (b : Int)))
       have Y5 : Hid (Blk _ (w.heap.size + 1) 26 #[.string (bz nm), .float .f64 z, .int .u32 (s : Int), .int .i64 (b : Int), .int .i64 0, .int .i64 0]) := hide (by simpa using (unhide X5).set 3 (.int .i64 (b : Int)))
       have C5 := hide ((unhide B5).far (p := ⟨w.heap.size + 1, 3, none⟩) (by simp only []; omega) (.int .i64 (b : Int)))
       refine (unhide h6 _ (unhide S5)).mono ?_
       rintro e w6 ⟨rfl, R6, K6⟩
       have X6 : Blk w6 (w.heap.size + 1) 26 #[.string (bz nm), .float .f64 z, .int .u32 (s : Int), .int .i64 (b : Int), .int .i64 0, .int .i64 0] := (unhide Y5).but K6 (by simp; omega)
       have B6 := hide ((unhide C5).trans K6)
       obtain ⟨⟨x0, x1, x2, x3, x4, x5⟩, ⟨y0, y1, y2, y3, y4, y5⟩⟩ := rd_cells X6
       have z6 : w.heap.size + 1 < w6.heap.size := X6.lt
       replace X6 := hide X6; replace R6 := hide R6
       clear K6)
    | (have _t := t7; clear t7 _t; go_at_call 41
       have S6 := hide (RdB.far (p := ⟨w.heap.size + 1, 4, none⟩) (unhide R6) (by simp only []; omega) (.int .i64 (r : Int)))
       have Y6 : Hid (Blk _ (w.heap.size + 1) 26 #[.string (bz nm), .float .f64 z, .int .u32 (s : Int), .int .i64 (b : Int), .int .i64 (r : Int), .int .i64 0]) := hide (by simpa using (unhide X6).set 4 (.int .i64 (r : Int)))
       have C6 := hide ((unhide B6).far (p := ⟨w.heap.size + 1, 4, none⟩) (by simp only []; omega) (.int .i64 (r : Int)))
       refine (unhide h7 _ (unhide S6)).mono ?_
       rintro e w7 ⟨rfl, K7⟩)
    | fail)
  exact ⟨rfl, rfl, (unhide C6).trans K7⟩
set_option maxHeartbeats 1000000 in
theorem file_ok (g : Nat) (l0 l1 : List UInt8) (n : Nat) (l2 nm : List UInt8) (l3 : List UInt8) (z : Nat) (l4 : List UInt8) (s : Nat) (l5 : List UInt8) (b : Nat) (l6 : List UInt8) (r : Nat) (l7 : List UInt8) (d : Nat) (h1 : Reads 41 g #[.pointer (some ⟨g, 0, none⟩), .int .i64 1] l0 l1 (.int .i64 (n : Int))) (h2 : Takes g n l1 l2 nm) (h3 : Reads 55 g #[.pointer (some ⟨g, 0, none⟩)] l2 l3 (.float .f64 z)) (h4 : Reads 41 g #[.pointer (some ⟨g, 0, none⟩), .int .i64 4] l3 l4 (.int .i64 (s : Int))) (h5 : Reads 41 g #[.pointer (some ⟨g, 0, none⟩), .int .i64 2] l4 l5 (.int .i64 (b : Int))) (h6 : Reads 41 g #[.pointer (some ⟨g, 0, none⟩), .int .i64 3] l5 l6 (.int .i64 (r : Int))) (h7 : Reads 41 g #[.pointer (some ⟨g, 0, none⟩), .int .i64 3] l6 l7 (.int .i64 (d : Int))) (hs : s < 4294967296) (w : World) (h : RdB g w l0) :
    Calls Try.prog 42 #[.pointer (some ⟨g, 0, none⟩)] w fun e w' => e = .returned (.agg #[.string (bz nm), .float .f64 z, .int .u32 (s : Int), .int .i64 (b : Int), .int .i64 (r : Int), .int .i64 (d : Int)]) ∧ RdB g w' l7 ∧ But [g] w w' := by
  have hg : g < w.heap.size := h.lt
  have e1 : (s : Int) % (4294967296 : Int) = (s : Int) := by omega
  have e2 : IntKind.u32.wrap (s : Int) = (s : Int) := by rw [IntKind.wrap_u32]; exact e1
  replace hs := hide hs
  replace h1 := hide h1
  replace h2 := hide h2
  replace h3 := hide h3
  replace h4 := hide h4
  replace h5 := hide h5
  replace h6 := hide h6
  replace h7 := hide h7
  have t1 : True := trivial
  have t2 : True := trivial
  have t3 : True := trivial
  have t4 : True := trivial
  have t5 : True := trivial
  have t6 : True := trivial
  have t7 : True := trivial
  have R0 := hide ((h.alloc (.cells #[.string ⟨#[]⟩, .float .f64 0, .int .u32 0, .int .i64 0, .int .i64 0, .int .i64 0] 26)).alloc (.cells #[.string ⟨#[]⟩, .float .f64 0, .int .u32 0, .int .i64 0, .int .i64 0, .int .i64 0] 26))
  have X0 : Hid (Blk ((w.alloc (.cells #[.string ⟨#[]⟩, .float .f64 0, .int .u32 0, .int .i64 0, .int .i64 0, .int .i64 0] 26)).alloc (.cells #[.string ⟨#[]⟩, .float .f64 0, .int .u32 0, .int .i64 0, .int .i64 0, .int .i64 0] 26)) (w.heap.size + 1) 26 #[.string ⟨#[]⟩, .float .f64 0, .int .u32 0, .int .i64 0, .int .i64 0, .int .i64 0]) := hide (Blk.new (by simp only [World.size_alloc]))
  have P0 : Hid (Blk ((w.alloc (.cells #[.string ⟨#[]⟩, .float .f64 0, .int .u32 0, .int .i64 0, .int .i64 0, .int .i64 0] 26)).alloc (.cells #[.string ⟨#[]⟩, .float .f64 0, .int .u32 0, .int .i64 0, .int .i64 0, .int .i64 0] 26)) w.heap.size 26 #[.string ⟨#[]⟩, .float .f64 0, .int .u32 0, .int .i64 0, .int .i64 0, .int .i64 0]) := hide ((Blk.new rfl).alloc _)
  have B0 := hide (((But.refl [g] w).alloc (.cells #[.string ⟨#[]⟩, .float .f64 0, .int .u32 0, .int .i64 0, .int .i64 0, .int .i64 0] 26)).alloc (.cells #[.string ⟨#[]⟩, .float .f64 0, .int .u32 0, .int .i64 0, .int .i64 0, .int .i64 0] 26))
  clear h
  go_enter Try.func42, Try.ntmps42
  go_upto_region 2 with fail
  generalize (w.alloc (.cells #[.string ⟨#[]⟩, .float .f64 0, .int .u32 0, .int .i64 0, .int .i64 0, .int .i64 0] 26)).alloc (.cells #[.string ⟨#[]⟩, .float .f64 0, .int .u32 0, .int .i64 0, .int .i64 0, .int .i64 0] 26) = W0 at *
  go_wp2_with (first
    | (have _t := t1; clear t1 _t; go_at_call 41
       refine (unhide h1 _ (unhide R0)).mono ?_
       rintro e w1 ⟨rfl, R1, K1⟩
       have X1 : Blk w1 (w.heap.size + 1) 26 #[.string ⟨#[]⟩, .float .f64 0, .int .u32 0, .int .i64 0, .int .i64 0, .int .i64 0] := (unhide X0).but K1 (by simp; omega)
       have B1 := hide ((unhide B0).trans K1)
       obtain ⟨⟨x0, x1, x2, x3, x4, x5⟩, ⟨y0, y1, y2, y3, y4, y5⟩⟩ := rd_cells X1
       have z1 : w.heap.size + 1 < w1.heap.size := X1.lt
       replace X1 := hide X1; replace R1 := hide R1
       have P1 := hide (Blk.but (unhide P0) K1 (by simp; omega))
       clear K1)
    | (have _t := t2; clear t2 _t; go_at_call 54
       refine (unhide h2 _ (unhide R1)).mono ?_
       rintro e w2 ⟨A, c, rfl, bs, R2, K2⟩
       have X2 : Blk w2 (w.heap.size + 1) 26 #[.string ⟨#[]⟩, .float .f64 0, .int .u32 0, .int .i64 0, .int .i64 0, .int .i64 0] := (unhide X1).but K2 (by simp; omega)
       have B2 := hide ((unhide B1).trans K2)
       obtain ⟨⟨x0, x1, x2, x3, x4, x5⟩, ⟨y0, y1, y2, y3, y4, y5⟩⟩ := rd_cells X2
       have z2 : w.heap.size + 1 < w2.heap.size := X2.lt
       replace X2 := hide X2; replace R2 := hide R2
       have P2 := hide (Blk.but (unhide P1) K2 (by simp; omega))
       have hcv := bs.convert
       clear bs
       clear K2)
    | (have _t := t3; clear t3 _t; go_at_call 55
       have S2 := hide (RdB.far (p := ⟨w.heap.size + 1, 0, none⟩) (unhide R2) (by simp only []; omega) (.string (bz nm)))
       have Y2 : Hid (Blk _ (w.heap.size + 1) 26 #[.string (bz nm), .float .f64 0, .int .u32 0, .int .i64 0, .int .i64 0, .int .i64 0]) := hide (by simpa using (unhide X2).set 0 (.string (bz nm)))
       have C2 := hide ((unhide B2).far (p := ⟨w.heap.size + 1, 0, none⟩) (by simp only []; omega) (.string (bz nm)))
       refine (unhide h3 _ (unhide S2)).mono ?_
       rintro e w3 ⟨rfl, R3, K3⟩
       have X3 : Blk w3 (w.heap.size + 1) 26 #[.string (bz nm), .float .f64 0, .int .u32 0, .int .i64 0, .int .i64 0, .int .i64 0] := (unhide Y2).but K3 (by simp; omega)
       have B3 := hide ((unhide C2).trans K3)
       obtain ⟨⟨x0, x1, x2, x3, x4, x5⟩, ⟨y0, y1, y2, y3, y4, y5⟩⟩ := rd_cells X3
       have z3 : w.heap.size + 1 < w3.heap.size := X3.lt
       replace X3 := hide X3; replace R3 := hide R3
       have P3 := hide (Blk.but (Blk.far (p := ⟨w.heap.size + 1, 0, none⟩) (unhide P2) (by simp only []; omega) (.string (bz nm))) K3 (by simp; omega))
       clear K3)
    | (have _t := t4; clear t4 _t; go_at_call 41
       have S3 := hide (RdB.far (p := ⟨w.heap.size + 1, 1, none⟩) (unhide R3) (by simp only []; omega) (.float .f64 z))
       have Y3 : Hid (Blk _ (w.heap.size + 1) 26 #[.string (bz nm), .float .f64 z, .int .u32 0, .int .i64 0, .int .i64 0, .int .i64 0]) := hide (by simpa using (unhide X3).set 1 (.float .f64 z))
       have C3 := hide ((unhide B3).far (p := ⟨w.heap.size + 1, 1, none⟩) (by simp only []; omega) (.float .f64 z))
       refine (unhide h4 _ (unhide S3)).mono ?_
       rintro e w4 ⟨rfl, R4, K4⟩
       have X4 : Blk w4 (w.heap.size + 1) 26 #[.string (bz nm), .float .f64 z, .int .u32 0, .int .i64 0, .int .i64 0, .int .i64 0] := (unhide Y3).but K4 (by simp; omega)
       have B4 := hide ((unhide C3).trans K4)
       obtain ⟨⟨x0, x1, x2, x3, x4, x5⟩, ⟨y0, y1, y2, y3, y4, y5⟩⟩ := rd_cells X4
       have z4 : w.heap.size + 1 < w4.heap.size := X4.lt
       replace X4 := hide X4; replace R4 := hide R4
       have P4 := hide (Blk.but (Blk.far (p := ⟨w.heap.size + 1, 1, none⟩) (unhide P3) (by simp only []; omega) (.float .f64 z)) K4 (by simp; omega))
       clear K4)
    | (have _t := t5; clear t5 _t; go_at_call 41
       have S4 := hide (RdB.far (p := ⟨w.heap.size + 1, 2, none⟩) (unhide R4) (by simp only []; omega) (.int .u32 (s : Int)))
       have Y4 : Hid (Blk _ (w.heap.size + 1) 26 #[.string (bz nm), .float .f64 z, .int .u32 (s : Int), .int .i64 0, .int .i64 0, .int .i64 0]) := hide (by simpa using (unhide X4).set 2 (.int .u32 (s : Int)))
       have C4 := hide ((unhide B4).far (p := ⟨w.heap.size + 1, 2, none⟩) (by simp only []; omega) (.int .u32 (s : Int)))
       refine (unhide h5 _ (unhide S4)).mono ?_
       rintro e w5 ⟨rfl, R5, K5⟩
       have X5 : Blk w5 (w.heap.size + 1) 26 #[.string (bz nm), .float .f64 z, .int .u32 (s : Int), .int .i64 0, .int .i64 0, .int .i64 0] := (unhide Y4).but K5 (by simp; omega)
       have B5 := hide ((unhide C4).trans K5)
       obtain ⟨⟨x0, x1, x2, x3, x4, x5⟩, ⟨y0, y1, y2, y3, y4, y5⟩⟩ := rd_cells X5
       have z5 : w.heap.size + 1 < w5.heap.size := X5.lt
       replace X5 := hide X5; replace R5 := hide R5
       have P5 := hide (Blk.but (Blk.far (p := ⟨w.heap.size + 1, 2, none⟩) (unhide P4) (by simp only []; omega) (.int .u32 (s : Int))) K5 (by simp; omega))
       clear K5)
    | (have _t := t6; clear t6 _t; go_at_call 41
       have S5 := hide (RdB.far (p := ⟨w.heap.size + 1, 3, none⟩) (unhide R5) (by simp only []; omega) (.int .i64 (b : Int)))
       have Y5 : Hid (Blk _ (w.heap.size + 1) 26 #[.string (bz nm), .float .f64 z, .int .u32 (s : Int), .int .i64 (b : Int), .int .i64 0, .int .i64 0]) := hide (by simpa using (unhide X5).set 3 (.int .i64 (b : Int)))
       have C5 := hide ((unhide B5).far (p := ⟨w.heap.size + 1, 3, none⟩) (by simp only []; omega) (.int .i64 (b : Int)))
       refine (unhide h6 _ (unhide S5)).mono ?_
       rintro e w6 ⟨rfl, R6, K6⟩
       have X6 : Blk w6 (w.heap.size + 1) 26 #[.string (bz nm), .float .f64 z, .int .u32 (s : Int), .int .i64 (b : Int), .int .i64 0, .int .i64 0] := (unhide Y5).but K6 (by simp; omega)
       have B6 := hide ((unhide C5).trans K6)
       obtain ⟨⟨x0, x1, x2, x3, x4, x5⟩, ⟨y0, y1, y2, y3, y4, y5⟩⟩ := rd_cells X6
       have z6 : w.heap.size + 1 < w6.heap.size := X6.lt
       replace X6 := hide X6; replace R6 := hide R6
       have P6 := hide (Blk.but (Blk.far (p := ⟨w.heap.size + 1, 3, none⟩) (unhide P5) (by simp only []; omega) (.int .i64 (b : Int))) K6 (by simp; omega))
       clear K6)
    | (have _t := t7; clear t7 _t; go_at_call 41
       have S6 := hide (RdB.far (p := ⟨w.heap.size + 1, 4, none⟩) (unhide R6) (by simp only []; omega) (.int .i64 (r : Int)))
       have Y6 : Hid (Blk _ (w.heap.size + 1) 26 #[.string (bz nm), .float .f64 z, .int .u32 (s : Int), .int .i64 (b : Int), .int .i64 (r : Int), .int .i64 0]) := hide (by simpa using (unhide X6).set 4 (.int .i64 (r : Int)))
       have C6 := hide ((unhide B6).far (p := ⟨w.heap.size + 1, 4, none⟩) (by simp only []; omega) (.int .i64 (r : Int)))
       refine (unhide h7 _ (unhide S6)).mono ?_
       rintro e w7 ⟨rfl, R7, K7⟩
       have X7 : Blk w7 (w.heap.size + 1) 26 #[.string (bz nm), .float .f64 z, .int .u32 (s : Int), .int .i64 (b : Int), .int .i64 (r : Int), .int .i64 0] := (unhide Y6).but K7 (by simp; omega)
       have B7 := hide ((unhide C6).trans K7)
       obtain ⟨⟨x0, x1, x2, x3, x4, x5⟩, ⟨y0, y1, y2, y3, y4, y5⟩⟩ := rd_cells X7
       have z7 : w.heap.size + 1 < w7.heap.size := X7.lt
       replace X7 := hide X7; replace R7 := hide R7
       have P7 := hide (Blk.but (Blk.far (p := ⟨w.heap.size + 1, 4, none⟩) (unhide P6) (by simp only []; omega) (.int .i64 (r : Int))) K7 (by simp; omega))
       obtain ⟨⟨xx0, xx1, xx2, xx3, xx4, xx5⟩, ⟨yy0, yy1, yy2, yy3, yy4, yy5⟩⟩ := rd_cells (unhide P7)
       clear K7)
    | fail)
  refine ret_file rfl w.heap.size #[.string (bz nm), .float .f64 z, .int .u32 (s : Int), .int .i64 (b : Int), .int .i64 (r : Int), .int .i64 (d : Int)] rfl rfl (set6_blk (Blk.far (p := ⟨w.heap.size + 1, 5, none⟩) (unhide P7) (by simp only []; omega) (.int .i64 (d : Int))) _ _ _ _ _ _) rfl ⟨rfl, ?_, ?_⟩
  · exact set6_rd (RdB.far (p := ⟨w.heap.size + 1, 5, none⟩) (unhide R7) (by simp only []; omega) (.int .i64 (d : Int))) hg _ _ _ _ _ _
  · exact set6_but (But.far (p := ⟨w.heap.size + 1, 5, none⟩) (unhide B7) (by simp only []; omega) (.int .i64 (d : Int))) (Nat.le_refl _) _ _ _ _ _ _
end Go.Proofs.Ytnjepbehfioclaa
