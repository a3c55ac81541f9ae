import Derived.Test.YthkccpemgmpadaaGreatDoorU22
import Derived.Test.YthkccpemgmpadaaGreatDoorU16
namespace Go.Proofs.YthkccpemgmpadaaGreatDoor.P
set_option maxRecDepth 100000
open Go.RowKit
section
variable (lo lo' : Nat) (v v' : Value) (r : Rdr) (t : List Int) (w : World) (hlo : lo ≤ w.heap.size) (hv : RgT lo w v r t) (hv' : Os lo' w.heap.size w v' t) (ht : okB t) (hl : t.length ≤ 1000000)
set_option maxHeartbeats 1000000 in
include hlo hv hv' ht hl in
theorem refTok_stop (h : (nextR t r 0).2.2 ≠ 0) :
    Calls Tryz.prog 52 #[v, v'] w fun e w' => ∃ (z0 z1 z2 : Int) (B : Option Addr) (cB : Nat) (r3 : Rdr), e = .returned (.tuple #[.agg #[.int .u8 z0, .int .i64 z1, .int .i64 z2], .agg (rgc B cB r3), .bool false]) ∧ Below w.heap.size w w' := by
  obtain ⟨⟨A, cA, rfl, hI⟩, hok, hus⟩ := hv
  have hN := fun (W : World) (h : W.ownsRow lo 3 1 (.slice A r.c.length cA) r.c.length (r.c.flatMap ivc)) (hb : Below w.heap.size w W) => refNext_any lo lo' 0 (.agg (rgc A cA r)) v' r t W (Nat.le_trans hlo hb.size) ⟨A, cA, rfl, h⟩ (hv'.grow hb) hok ht hl hus
  unfold rgc at hN
  have ok1 := nextR_ok (i := 0) ht hok
  have us1 := nextR_used (i := 0) hus
  generalize nextR t r 0 = X at *
  obtain ⟨b, r1, er⟩ := X
  simp only [] at hN ok1 us1 h
  have h0' : (er == 0) = false := by simpa using h
  have bx := Bx.init w (.slice A r.c.length cA) (.int .u32 r.span) (.int .u32 r.code) (.int .i64 r.used)
  have I1 := ((hI.alloc (.cells #[.slice A r.c.length cA, .int .u32 r.span, .int .u32 r.code, .int .i64 r.used] 74)).alloc (.cells #[.int .u8 0, .int .i64 0, .int .i64 0] 79)).alloc (.cells #[.slice none 0 0, .int .u32 0, .int .u32 0, .int .i64 0] 74)
  obtain ⟨g2, hg2⟩ : ∃ g2, g2 = w.heap.size := ⟨_, rfl⟩
  obtain ⟨g4, hg4⟩ : ∃ g4, g4 = w.heap.size + 1 := ⟨_, rfl⟩
  obtain ⟨g5, hg5⟩ : ∃ g5, g5 = w.heap.size + 2 := ⟨_, rfl⟩
  rw [← hg4, ← hg5] at bx
  replace bx : Bx g2 g4 g5 w (((w.alloc (.cells #[.slice A r.c.length cA, .int .u32 r.span, .int .u32 r.code, .int .i64 r.used] 74)).alloc (.cells #[.int .u8 0, .int .i64 0, .int .i64 0] 79)).alloc (.cells #[.slice none 0 0, .int .u32 0, .int .u32 0, .int .i64 0] 74)) (.slice A r.c.length cA) (.int .u32 r.span) (.int .u32 r.code) (.int .i64 r.used) := by rw [hg2]; exact bx
  clear h
  replace hN := hide hN; replace bx := hide bx; replace I1 := hide I1; replace ok1 := hide ok1; replace us1 := hide us1
  clear hI hok hus hlo hv' ht hl
  go_enter Tryz.func52, Tryz.ntmps52
  go_wp2_with fail
  rw [← hg5, ← hg4, ← hg2]
  clear hg5 hg4 hg2
  go_wp2_with (first
    | (go_at_call 80; refine (unhide hN _ (unhide I1) (unhide bx).below).mono ?_; rintro e w1 ⟨v2, rfl, ⟨A2, c2, rfl, o2⟩, hb1⟩
       have b1' := (unhide bx).call hb1
       obtain ⟨y2, p0, p1, p2, p3, f0, f1, f2, f3⟩ := b1'.cells2
       have b2 := hide (b1'.put (.slice A2 r1.c.length c2) (.int .u32 r1.span) (.int .u32 r1.code) (.int .i64 r1.used))
       have i2 := hide (b1'.row o2 (.slice A2 r1.c.length c2) (.int .u32 r1.span) (.int .u32 r1.code) (.int .i64 r1.used))
       clear b1' hb1 o2)
    | fail)
  clear p0 p1 p2 p3 f0 f1 f2 f3 y2
  obtain ⟨wB, hwB⟩ : ∃ wB, wB = ((((w1.setCell ⟨g2, 0, none⟩ (.slice A2 r1.c.length c2)).setCell ⟨g2, 1, none⟩ (.int .u32 r1.span)).setCell ⟨g2, 2, none⟩ (.int .u32 r1.code)).setCell ⟨g2, 3, none⟩ (.int .i64 r1.used)) := ⟨_, rfl⟩
  rw [← hwB] at b2 ⊢
  clear hwB
  obtain ⟨⟨y2, p0, p1, p2, p3, f0, f1, f2, f3⟩, ⟨y4, s0, s1, s2, h0, h1, h2⟩, ⟨y5, t0, t1, t2, t3, k0, k1, k2, k3⟩, m1, m2, m3, m4, m5, m6⟩ := (unhide b2).cells
  go_region
  all_goals go_wp2_with fail
  obtain ⟨z4, z5, zb, zo⟩ := (unhide b2).out (.int .u8 0) (.int .i64 0) (.int .i64 0) (.slice A2 r1.c.length c2) (.int .u32 r1.span) (.int .u32 r1.code) (.int .i64 r1.used)
  refine ret_tok rfl g4 g5 (.int .u8 0) (.int .i64 0) (.int .i64 0) (.slice A2 r1.c.length c2) (.int .u32 r1.span) (.int .u32 r1.code) (.int .i64 r1.used) _ rfl rfl rfl z4 z5 rfl ?_
  exact ⟨0, 0, 0, A2, c2, r1, rfl, zb⟩
set_option maxHeartbeats 1000000 in
include hlo hv hv' ht hl in
theorem refTok_litnone (h0 : (nextR t r 0).2.2 = 0) (hb : (nextR t r 0).1 = false) (h1 : treeR t 0 8 1 (nextR t r 0).2.1 = none) :
    Calls Tryz.prog 52 #[v, v'] w fun e w' => ∃ (z0 z1 z2 : Int) (B : Option Addr) (cB : Nat) (r3 : Rdr), e = .returned (.tuple #[.agg #[.int .u8 z0, .int .i64 z1, .int .i64 z2], .agg (rgc B cB r3), .bool false]) ∧ Below w.heap.size w w' := by
  obtain ⟨⟨A, cA, rfl, hI⟩, hok, hus⟩ := hv
  have hN := fun (W : World) (h : W.ownsRow lo 3 1 (.slice A r.c.length cA) r.c.length (r.c.flatMap ivc)) (hb : Below w.heap.size w W) => refNext_any lo lo' 0 (.agg (rgc A cA r)) v' r t W (Nat.le_trans hlo hb.size) ⟨A, cA, rfl, h⟩ (hv'.grow hb) hok ht hl hus
  unfold rgc at hN
  have ok1 := nextR_ok (i := 0) ht hok
  have us1 := nextR_used (i := 0) hus
  generalize nextR t r 0 = X at *
  obtain ⟨b, r1, er⟩ := X
  simp only [] at hN ok1 us1 h0 hb h1
  subst h0 hb
  have hT := fun (A : Option Addr) (c : Nat) (W : World) (k : W.ownsRow lo 3 1 (.slice A r1.c.length c) r1.c.length (r1.c.flatMap ivc)) (hb : Below w.heap.size w W) => refTree_none lo lo' 8 0 (.agg (rgc A c r1)) v' r1 t W (Nat.le_trans hlo hb.size) ⟨⟨A, c, rfl, k⟩, ok1, us1⟩ (hv'.grow hb) ht hl (by omega) (by omega) h1
  unfold rgc at hT
  clear h1
  have bx := Bx.init w (.slice A r.c.length cA) (.int .u32 r.span) (.int .u32 r.code) (.int .i64 r.used)
  have I1 := ((hI.alloc (.cells #[.slice A r.c.length cA, .int .u32 r.span, .int .u32 r.code, .int .i64 r.used] 74)).alloc (.cells #[.int .u8 0, .int .i64 0, .int .i64 0] 79)).alloc (.cells #[.slice none 0 0, .int .u32 0, .int .u32 0, .int .i64 0] 74)
  obtain ⟨g2, hg2⟩ : ∃ g2, g2 = w.heap.size := ⟨_, rfl⟩
  obtain ⟨g4, hg4⟩ : ∃ g4, g4 = w.heap.size + 1 := ⟨_, rfl⟩
  obtain ⟨g5, hg5⟩ : ∃ g5, g5 = w.heap.size + 2 := ⟨_, rfl⟩
  rw [← hg4, ← hg5] at bx
  replace bx : Bx g2 g4 g5 w (((w.alloc (.cells #[.slice A r.c.length cA, .int .u32 r.span, .int .u32 r.code, .int .i64 r.used] 74)).alloc (.cells #[.int .u8 0, .int .i64 0, .int .i64 0] 79)).alloc (.cells #[.slice none 0 0, .int .u32 0, .int .u32 0, .int .i64 0] 74)) (.slice A r.c.length cA) (.int .u32 r.span) (.int .u32 r.code) (.int .i64 r.used) := by rw [hg2]; exact bx
  replace hN := hide hN; replace bx := hide bx; replace I1 := hide I1; replace ok1 := hide ok1; replace us1 := hide us1
  replace hT := hide hT
  clear hI hok hus hlo hv' ht hl
  go_enter Tryz.func52, Tryz.ntmps52
  go_wp2_with fail
  rw [← hg5, ← hg4, ← hg2]
  clear hg5 hg4 hg2
  go_wp2_with (first
    | (go_at_call 80; refine (unhide hN _ (unhide I1) (unhide bx).below).mono ?_; rintro e w1 ⟨v2, rfl, ⟨A2, c2, rfl, o2⟩, hb1⟩
       have b1' := (unhide bx).call hb1
       obtain ⟨y2, p0, p1, p2, p3, f0, f1, f2, f3⟩ := b1'.cells2
       have b2 := hide (b1'.put (.slice A2 r1.c.length c2) (.int .u32 r1.span) (.int .u32 r1.code) (.int .i64 r1.used))
       have i2 := hide (b1'.row o2 (.slice A2 r1.c.length c2) (.int .u32 r1.span) (.int .u32 r1.code) (.int .i64 r1.used))
       clear b1' hb1 o2)
    | fail)
  clear p0 p1 p2 p3 f0 f1 f2 f3 y2
  obtain ⟨wB, hwB⟩ : ∃ wB, wB = ((((w1.setCell ⟨g2, 0, none⟩ (.slice A2 r1.c.length c2)).setCell ⟨g2, 1, none⟩ (.int .u32 r1.span)).setCell ⟨g2, 2, none⟩ (.int .u32 r1.code)).setCell ⟨g2, 3, none⟩ (.int .i64 r1.used)) := ⟨_, rfl⟩
  rw [← hwB] at b2 i2 ⊢
  clear hwB
  obtain ⟨y2, p0, p1, p2, p3, f0, f1, f2, f3⟩ := (unhide b2).cells2
  go_wp2_with (first
    | (go_at_call 81; refine (unhide hT _ _ _ (unhide i2) (unhide b2).below).mono ?_; rintro e w3 ⟨B3, cB3, r3, rfl, hb3⟩
       have b3 := hide (((unhide b2).call hb3).call (bl_alloc (Below.refl _ _) (.cells #[.slice B3 r3.c.length cB3, .int .u32 r3.span, .int .u32 r3.code, .int .i64 r3.used] 74)))
       have kk := hide (Blk.new (w := w3) (g := w3.heap.size) (t := 74) (cs := #[.slice B3 r3.c.length cB3, .int .u32 r3.span, .int .u32 r3.code, .int .i64 r3.used]) rfl)
       have n5 := (show g5 ≠ w3.heap.size from by have := ((unhide b2).call hb3).k5.lt; omega)
       clear hb3)
    | fail)
  clear p0 p1 p2 p3 f0 f1 f2 f3 y2 b2 i2
  obtain ⟨wC, hwC⟩ : ∃ wC, wC = w3.alloc (.cells #[.slice B3 r3.c.length cB3, .int .u32 r3.span, .int .u32 r3.code, .int .i64 r3.used] 74) := ⟨_, rfl⟩
  rw [← hwC] at b3 kk ⊢
  have n4 : g4 ≠ w3.heap.size := fun e => (unhide b3).k4.ne_ (unhide kk) (by decide) e
  have l3 : w3.heap.size < wC.heap.size := (unhide kk).lt
  have d0 := (unhide kk).cell 0; have d1 := (unhide kk).cell 1; have d2 := (unhide kk).cell 2; have d3 := (unhide kk).cell 3
  simp at d0 d1 d2 d3
  clear hwC
  generalize w3.heap.size = gk at *
  have n4' := n4.symm
  have n5' := n5.symm
  obtain ⟨⟨y2, p0, p1, p2, p3, f0, f1, f2, f3⟩, ⟨y4, s0, s1, s2, h0, h1, h2⟩, ⟨y5, t0, t1, t2, t3, k0, k1, k2, k3⟩, m1, m2, m3, m4, m5, m6⟩ := (unhide b3).cells
  go_region
  all_goals go_wp2_with fail
  obtain ⟨z4, z5, zb, zo⟩ := (unhide b3).out (.int .u8 0) (.int .i64 0) (.int .i64 0) (.slice B3 r3.c.length cB3) (.int .u32 r3.span) (.int .u32 r3.code) (.int .i64 r3.used)
  refine ret_tok rfl g4 g5 (.int .u8 0) (.int .i64 0) (.int .i64 0) (.slice B3 r3.c.length cB3) (.int .u32 r3.span) (.int .u32 r3.code) (.int .i64 r3.used) _ rfl rfl rfl z4 z5 rfl ?_
  exact ⟨0, 0, 0, B3, cB3, r3, rfl, zb⟩
set_option maxHeartbeats 1000000 in
include hlo hv hv' ht hl in
theorem refTok_lit (h0 : (nextR t r 0).2.2 = 0) (hb : (nextR t r 0).1 = false) (m : Nat) (r2 : Rdr) (h1 : treeR t 0 8 1 (nextR t r 0).2.1 = some (m, r2)) :
    Calls Tryz.prog 52 #[v, v'] w fun e w' => ∃ v2, e = .returned (.tuple #[tkV ⟨UInt8.ofNat (m - 256), 0, 0⟩, v2, .bool true]) ∧ RgT lo w' v2 r2 t ∧ Below w.heap.size w w' := by
  obtain ⟨⟨A, cA, rfl, hI⟩, hok, hus⟩ := hv
  have hN := fun (W : World) (h : W.ownsRow lo 3 1 (.slice A r.c.length cA) r.c.length (r.c.flatMap ivc)) (hb : Below w.heap.size w W) => refNext_any lo lo' 0 (.agg (rgc A cA r)) v' r t W (Nat.le_trans hlo hb.size) ⟨A, cA, rfl, h⟩ (hv'.grow hb) hok ht hl hus
  unfold rgc at hN
  have ok1 := nextR_ok (i := 0) ht hok
  have us1 := nextR_used (i := 0) hus
  generalize nextR t r 0 = X at *
  obtain ⟨b, r1, er⟩ := X
  simp only [] at hN ok1 us1 h0 hb h1
  subst h0 hb
  have hT := fun (A : Option Addr) (c : Nat) (W : World) (k : W.ownsRow lo 3 1 (.slice A r1.c.length c) r1.c.length (r1.c.flatMap ivc)) (hb : Below w.heap.size w W) => refTree_some lo lo' 8 0 (.agg (rgc A c r1)) v' r1 t W (Nat.le_trans hlo hb.size) ⟨⟨A, c, rfl, k⟩, ok1, us1⟩ (hv'.grow hb) ht hl (by omega) (by omega) m r2 h1
  unfold rgc at hT
  have hge := treeR_ge 8 1 h1
  simp at hge
  have hb8 : (m : Int) - 2 ^ ((8 : Nat)) = ((m - 256 : Nat) : Int) := by omega
  rw [hb8] at hT
  have hm8 : m - 256 < 256 := by omega
  have hx : ((m - 256 : Nat) : Int) = M.n8 (UInt8.ofNat (m - 256)) := by unfold M.n8; simp; omega
  generalize m - 256 = V at *
  clear hb8 hge h1
  have bx := Bx.init w (.slice A r.c.length cA) (.int .u32 r.span) (.int .u32 r.code) (.int .i64 r.used)
  have I1 := ((hI.alloc (.cells #[.slice A r.c.length cA, .int .u32 r.span, .int .u32 r.code, .int .i64 r.used] 74)).alloc (.cells #[.int .u8 0, .int .i64 0, .int .i64 0] 79)).alloc (.cells #[.slice none 0 0, .int .u32 0, .int .u32 0, .int .i64 0] 74)
  obtain ⟨g2, hg2⟩ : ∃ g2, g2 = w.heap.size := ⟨_, rfl⟩
  obtain ⟨g4, hg4⟩ : ∃ g4, g4 = w.heap.size + 1 := ⟨_, rfl⟩
  obtain ⟨g5, hg5⟩ : ∃ g5, g5 = w.heap.size + 2 := ⟨_, rfl⟩
  rw [← hg4, ← hg5] at bx
  replace bx : Bx g2 g4 g5 w (((w.alloc (.cells #[.slice A r.c.length cA, .int .u32 r.span, .int .u32 r.code, .int .i64 r.used] 74)).alloc (.cells #[.int .u8 0, .int .i64 0, .int .i64 0] 79)).alloc (.cells #[.slice none 0 0, .int .u32 0, .int .u32 0, .int .i64 0] 74)) (.slice A r.c.length cA) (.int .u32 r.span) (.int .u32 r.code) (.int .i64 r.used) := by rw [hg2]; exact bx
  replace hN := hide hN; replace bx := hide bx; replace I1 := hide I1; replace ok1 := hide ok1; replace us1 := hide us1
  replace hT := hide hT
  replace hx := hide hx
  clear hI hok hus hlo hv' ht hl
  go_enter Tryz.func52, Tryz.ntmps52
  go_wp2_with fail
  rw [← hg5, ← hg4, ← hg2]
  clear hg5 hg4 hg2
  go_wp2_with (first
    | (go_at_call 80; refine (unhide hN _ (unhide I1) (unhide bx).below).mono ?_; rintro e w1 ⟨v2, rfl, ⟨A2, c2, rfl, o2⟩, hb1⟩
       have b1' := (unhide bx).call hb1
       obtain ⟨y2, p0, p1, p2, p3, f0, f1, f2, f3⟩ := b1'.cells2
       have b2 := hide (b1'.put (.slice A2 r1.c.length c2) (.int .u32 r1.span) (.int .u32 r1.code) (.int .i64 r1.used))
       have i2 := hide (b1'.row o2 (.slice A2 r1.c.length c2) (.int .u32 r1.span) (.int .u32 r1.code) (.int .i64 r1.used))
       clear b1' hb1 o2)
    | fail)
  clear p0 p1 p2 p3 f0 f1 f2 f3 y2
  obtain ⟨wB, hwB⟩ : ∃ wB, wB = ((((w1.setCell ⟨g2, 0, none⟩ (.slice A2 r1.c.length c2)).setCell ⟨g2, 1, none⟩ (.int .u32 r1.span)).setCell ⟨g2, 2, none⟩ (.int .u32 r1.code)).setCell ⟨g2, 3, none⟩ (.int .i64 r1.used)) := ⟨_, rfl⟩
  rw [← hwB] at b2 i2 ⊢
  clear hwB
  obtain ⟨y2, p0, p1, p2, p3, f0, f1, f2, f3⟩ := (unhide b2).cells2
  go_wp2_with (first
    | (go_at_call 81; refine (unhide hT _ _ _ (unhide i2) (unhide b2).below).mono ?_; rintro e w3 ⟨A3, c3, rfl, o3, ok3, us3, hb3⟩
       have b3 := hide (((unhide b2).call hb3).call (bl_alloc (Below.refl _ _) (.cells #[.slice A3 r2.c.length c3, .int .u32 r2.span, .int .u32 r2.code, .int .i64 r2.used] 74)))
       have o4 := hide (o3.alloc (.cells #[.slice A3 r2.c.length c3, .int .u32 r2.span, .int .u32 r2.code, .int .i64 r2.used] 74))
       have kk := hide (Blk.new (w := w3) (g := w3.heap.size) (t := 74) (cs := #[.slice A3 r2.c.length c3, .int .u32 r2.span, .int .u32 r2.code, .int .i64 r2.used]) rfl)
       clear hb3 o3)
    | fail)
  clear p0 p1 p2 p3 f0 f1 f2 f3 y2 b2 i2
  obtain ⟨wC, hwC⟩ : ∃ wC, wC = w3.alloc (.cells #[.slice A3 r2.c.length c3, .int .u32 r2.span, .int .u32 r2.code, .int .i64 r2.used] 74) := ⟨_, rfl⟩
  rw [← hwC] at b3 o4 kk ⊢
  have n4 : g4 ≠ w3.heap.size := fun e => (unhide b3).k4.ne_ (unhide kk) (by decide) e
  have n5 : g5 ≠ w3.heap.size := fun e => by
    have h5 := (unhide b3).k5
    rw [e] at h5
    have := h5.uniq (unhide kk)
    simp at this
    exact absurd this.2.1 (by have := ok3.span; omega)
  have l3 : w3.heap.size < wC.heap.size := (unhide kk).lt
  have d0 := (unhide kk).cell 0; have d1 := (unhide kk).cell 1; have d2 := (unhide kk).cell 2; have d3 := (unhide kk).cell 3
  simp at d0 d1 d2 d3
  clear hwC
  generalize w3.heap.size = gk at *
  have n4' := n4.symm
  have n5' := n5.symm
  replace ok3 := hide ok3; replace us3 := hide us3
  obtain ⟨⟨y2, p0, p1, p2, p3, f0, f1, f2, f3⟩, ⟨y4, s0, s1, s2, h0, h1, h2⟩, ⟨y5, t0, t1, t2, t3, k0, k1, k2, k3⟩, m1, m2, m3, m4, m5, m6⟩ := (unhide b3).cells
  go_region
  all_goals go_wp2_with fail
  obtain ⟨z4, z5, zb, zo⟩ := (unhide b3).out (.int .u8 (V : Int)) (.int .i64 0) (.int .i64 0) (.slice A3 r2.c.length c3) (.int .u32 r2.span) (.int .u32 r2.code) (.int .i64 r2.used)
  refine ret_tok rfl g4 g5 (.int .u8 (V : Int)) (.int .i64 0) (.int .i64 0) (.slice A3 r2.c.length c3) (.int .u32 r2.span) (.int .u32 r2.code) (.int .i64 r2.used) _ rfl rfl rfl z4 z5 rfl ?_
  exact ⟨_, by rw [unhide hx]; rfl, ⟨⟨A3, c3, rfl, zo _ _ _ _ (unhide o4)⟩, unhide ok3, unhide us3⟩, zb⟩
set_option maxHeartbeats 1000000 in
include hlo hv hv' ht hl in
theorem refTok_again1 (h0 : (nextR t r 0).2.2 = 0) (hb : (nextR t r 0).1 = true) (h1 : treeR t 256 4 1 (nextR t r 0).2.1 = none) :
    Calls Tryz.prog 52 #[v, v'] w fun e w' => ∃ (z0 z1 z2 : Int) (B : Option Addr) (cB : Nat) (r3 : Rdr), e = .returned (.tuple #[.agg #[.int .u8 z0, .int .i64 z1, .int .i64 z2], .agg (rgc B cB r3), .bool false]) ∧ Below w.heap.size w w' := by
  obtain ⟨⟨A, cA, rfl, hI⟩, hok, hus⟩ := hv
  have hN := fun (W : World) (h : W.ownsRow lo 3 1 (.slice A r.c.length cA) r.c.length (r.c.flatMap ivc)) (hb : Below w.heap.size w W) => refNext_any lo lo' 0 (.agg (rgc A cA r)) v' r t W (Nat.le_trans hlo hb.size) ⟨A, cA, rfl, h⟩ (hv'.grow hb) hok ht hl hus
  unfold rgc at hN
  have ok1 := nextR_ok (i := 0) ht hok
  have us1 := nextR_used (i := 0) hus
  generalize nextR t r 0 = X at *
  obtain ⟨b, r1, er⟩ := X
  simp only [] at hN ok1 us1 h0 hb h1
  subst h0 hb
  have hT := fun (A : Option Addr) (c : Nat) (W : World) (k : W.ownsRow lo 3 1 (.slice A r1.c.length c) r1.c.length (r1.c.flatMap ivc)) (hb : Below w.heap.size w W) => refTree_none lo lo' 4 256 (.agg (rgc A c r1)) v' r1 t W (Nat.le_trans hlo hb.size) ⟨⟨A, c, rfl, k⟩, ok1, us1⟩ (hv'.grow hb) ht hl (by omega) (by omega) h1
  unfold rgc at hT
  clear h1
  have bx := Bx.init w (.slice A r.c.length cA) (.int .u32 r.span) (.int .u32 r.code) (.int .i64 r.used)
  have I1 := ((hI.alloc (.cells #[.slice A r.c.length cA, .int .u32 r.span, .int .u32 r.code, .int .i64 r.used] 74)).alloc (.cells #[.int .u8 0, .int .i64 0, .int .i64 0] 79)).alloc (.cells #[.slice none 0 0, .int .u32 0, .int .u32 0, .int .i64 0] 74)
  obtain ⟨g2, hg2⟩ : ∃ g2, g2 = w.heap.size := ⟨_, rfl⟩
  obtain ⟨g4, hg4⟩ : ∃ g4, g4 = w.heap.size + 1 := ⟨_, rfl⟩
  obtain ⟨g5, hg5⟩ : ∃ g5, g5 = w.heap.size + 2 := ⟨_, rfl⟩
  rw [← hg4, ← hg5] at bx
  replace bx : Bx g2 g4 g5 w (((w.alloc (.cells #[.slice A r.c.length cA, .int .u32 r.span, .int .u32 r.code, .int .i64 r.used] 74)).alloc (.cells #[.int .u8 0, .int .i64 0, .int .i64 0] 79)).alloc (.cells #[.slice none 0 0, .int .u32 0, .int .u32 0, .int .i64 0] 74)) (.slice A r.c.length cA) (.int .u32 r.span) (.int .u32 r.code) (.int .i64 r.used) := by rw [hg2]; exact bx
  replace hN := hide hN; replace bx := hide bx; replace I1 := hide I1; replace ok1 := hide ok1; replace us1 := hide us1
  replace hT := hide hT
  clear hI hok hus hlo hv' ht hl
  go_enter Tryz.func52, Tryz.ntmps52
  go_wp2_with fail
  rw [← hg5, ← hg4, ← hg2]
  clear hg5 hg4 hg2
  go_wp2_with (first
    | (go_at_call 80; refine (unhide hN _ (unhide I1) (unhide bx).below).mono ?_; rintro e w1 ⟨v2, rfl, ⟨A2, c2, rfl, o2⟩, hb1⟩
       have b1' := (unhide bx).call hb1
       obtain ⟨y2, p0, p1, p2, p3, f0, f1, f2, f3⟩ := b1'.cells2
       have b2 := hide (b1'.put (.slice A2 r1.c.length c2) (.int .u32 r1.span) (.int .u32 r1.code) (.int .i64 r1.used))
       have i2 := hide (b1'.row o2 (.slice A2 r1.c.length c2) (.int .u32 r1.span) (.int .u32 r1.code) (.int .i64 r1.used))
       clear b1' hb1 o2)
    | fail)
  clear p0 p1 p2 p3 f0 f1 f2 f3 y2
  obtain ⟨wB, hwB⟩ : ∃ wB, wB = ((((w1.setCell ⟨g2, 0, none⟩ (.slice A2 r1.c.length c2)).setCell ⟨g2, 1, none⟩ (.int .u32 r1.span)).setCell ⟨g2, 2, none⟩ (.int .u32 r1.code)).setCell ⟨g2, 3, none⟩ (.int .i64 r1.used)) := ⟨_, rfl⟩
  rw [← hwB] at b2 i2 ⊢
  clear hwB
  obtain ⟨y2, p0, p1, p2, p3, f0, f1, f2, f3⟩ := (unhide b2).cells2
  go_wp2_with (first
    | (go_at_call 81; refine (unhide hT _ _ _ (unhide i2) (unhide b2).below).mono ?_; rintro e w3 ⟨B3, cB3, r3, rfl, hb3⟩
       clear y2 p0 p1 p2 p3 f0 f1 f2 f3
       have b1' := (unhide b2).call hb3
       obtain ⟨y2, p0, p1, p2, p3, f0, f1, f2, f3⟩ := b1'.cells2
       have b3 := hide (b1'.put (.slice B3 r3.c.length cB3) (.int .u32 r3.span) (.int .u32 r3.code) (.int .i64 r3.used))
       clear b1' hb3 b2 i2)
    | fail)
  clear p0 p1 p2 p3 f0 f1 f2 f3 y2
  obtain ⟨wC, hwC⟩ : ∃ wC, wC = ((((w3.setCell ⟨g2, 0, none⟩ (.slice B3 r3.c.length cB3)).setCell ⟨g2, 1, none⟩ (.int .u32 r3.span)).setCell ⟨g2, 2, none⟩ (.int .u32 r3.code)).setCell ⟨g2, 3, none⟩ (.int .i64 r3.used)) := ⟨_, rfl⟩
  rw [← hwC] at b3 ⊢
  clear hwC
  obtain ⟨⟨y2, p0, p1, p2, p3, f0, f1, f2, f3⟩, ⟨y4, s0, s1, s2, h0, h1, h2⟩, ⟨y5, t0, t1, t2, t3, k0, k1, k2, k3⟩, m1, m2, m3, m4, m5, m6⟩ := (unhide b3).cells
  go_region
  all_goals go_wp2_with fail
  obtain ⟨z4, z5, zb, zo⟩ := (unhide b3).out (.int .u8 0) (.int .i64 0) (.int .i64 0) (.slice B3 r3.c.length cB3) (.int .u32 r3.span) (.int .u32 r3.code) (.int .i64 r3.used)
  refine ret_tok rfl g4 g5 (.int .u8 0) (.int .i64 0) (.int .i64 0) (.slice B3 r3.c.length cB3) (.int .u32 r3.span) (.int .u32 r3.code) (.int .i64 r3.used) _ rfl rfl rfl z4 z5 rfl ?_
  exact ⟨0, 0, 0, B3, cB3, r3, rfl, zb⟩
set_option maxHeartbeats 1000000 in
include hlo hv hv' ht hl in
theorem refTok_again2 (h0 : (nextR t r 0).2.2 = 0) (hb : (nextR t r 0).1 = true) (m : Nat) (r2 : Rdr) (h1 : treeR t 256 4 1 (nextR t r 0).2.1 = some (m, r2)) (h2 : treeR t 272 8 1 r2 = none) :
    Calls Tryz.prog 52 #[v, v'] w fun e w' => ∃ (z0 z1 z2 : Int) (B : Option Addr) (cB : Nat) (r3 : Rdr), e = .returned (.tuple #[.agg #[.int .u8 z0, .int .i64 z1, .int .i64 z2], .agg (rgc B cB r3), .bool false]) ∧ Below w.heap.size w w' := by
  obtain ⟨⟨A, cA, rfl, hI⟩, hok, hus⟩ := hv
  have hN := fun (W : World) (h : W.ownsRow lo 3 1 (.slice A r.c.length cA) r.c.length (r.c.flatMap ivc)) (hb : Below w.heap.size w W) => refNext_any lo lo' 0 (.agg (rgc A cA r)) v' r t W (Nat.le_trans hlo hb.size) ⟨A, cA, rfl, h⟩ (hv'.grow hb) hok ht hl hus
  unfold rgc at hN
  have ok1 := nextR_ok (i := 0) ht hok
  have us1 := nextR_used (i := 0) hus
  generalize nextR t r 0 = X at *
  obtain ⟨b, r1, er⟩ := X
  simp only [] at hN ok1 us1 h0 hb h1
  subst h0 hb
  have hT := fun (A : Option Addr) (c : Nat) (W : World) (k : W.ownsRow lo 3 1 (.slice A r1.c.length c) r1.c.length (r1.c.flatMap ivc)) (hb : Below w.heap.size w W) => refTree_some lo lo' 4 256 (.agg (rgc A c r1)) v' r1 t W (Nat.le_trans hlo hb.size) ⟨⟨A, c, rfl, k⟩, ok1, us1⟩ (hv'.grow hb) ht hl (by omega) (by omega) m r2 h1
  unfold rgc at hT
  have hge := treeR_ge 4 1 h1
  simp at hge
  have hb4 : (m : Int) - 2 ^ 4 = (m : Int) - 16 := by omega
  rw [show ((4 : Nat) : Int) = 4 from rfl, hb4] at hT
  have hT2 := fun (ok2 : OkR r2) (us2 : r2.used ≤ t.length) (A : Option Addr) (c : Nat) (W : World) (k : W.ownsRow lo 3 1 (.slice A r2.c.length c) r2.c.length (r2.c.flatMap ivc)) (hb : Below w.heap.size w W) => refTree_none lo lo' 8 272 (.agg (rgc A c r2)) v' r2 t W (Nat.le_trans hlo hb.size) ⟨⟨A, c, rfl, k⟩, ok2, us2⟩ (hv'.grow hb) ht hl (by omega) (by omega) h2
  unfold rgc at hT2
  clear h1 h2 hb4
  have bx := Bx.init w (.slice A r.c.length cA) (.int .u32 r.span) (.int .u32 r.code) (.int .i64 r.used)
  have I1 := ((hI.alloc (.cells #[.slice A r.c.length cA, .int .u32 r.span, .int .u32 r.code, .int .i64 r.used] 74)).alloc (.cells #[.int .u8 0, .int .i64 0, .int .i64 0] 79)).alloc (.cells #[.slice none 0 0, .int .u32 0, .int .u32 0, .int .i64 0] 74)
  obtain ⟨g2, hg2⟩ : ∃ g2, g2 = w.heap.size := ⟨_, rfl⟩
  obtain ⟨g4, hg4⟩ : ∃ g4, g4 = w.heap.size + 1 := ⟨_, rfl⟩
  obtain ⟨g5, hg5⟩ : ∃ g5, g5 = w.heap.size + 2 := ⟨_, rfl⟩
  rw [← hg4, ← hg5] at bx
  replace bx : Bx g2 g4 g5 w (((w.alloc (.cells #[.slice A r.c.length cA, .int .u32 r.span, .int .u32 r.code, .int .i64 r.used] 74)).alloc (.cells #[.int .u8 0, .int .i64 0, .int .i64 0] 79)).alloc (.cells #[.slice none 0 0, .int .u32 0, .int .u32 0, .int .i64 0] 74)) (.slice A r.c.length cA) (.int .u32 r.span) (.int .u32 r.code) (.int .i64 r.used) := by rw [hg2]; exact bx
  replace hN := hide hN; replace bx := hide bx; replace I1 := hide I1; replace ok1 := hide ok1; replace us1 := hide us1
  replace hT := hide hT
  replace hT2 := hide hT2
  clear hI hok hus hlo hv' ht hl
  go_enter Tryz.func52, Tryz.ntmps52
  go_wp2_with fail
  rw [← hg5, ← hg4, ← hg2]
  clear hg5 hg4 hg2
  go_wp2_with (first
    | (go_at_call 80; refine (unhide hN _ (unhide I1) (unhide bx).below).mono ?_; rintro e w1 ⟨v2, rfl, ⟨A2, c2, rfl, o2⟩, hb1⟩
       have b1' := (unhide bx).call hb1
       obtain ⟨y2, p0, p1, p2, p3, f0, f1, f2, f3⟩ := b1'.cells2
       have b2 := hide (b1'.put (.slice A2 r1.c.length c2) (.int .u32 r1.span) (.int .u32 r1.code) (.int .i64 r1.used))
       have i2 := hide (b1'.row o2 (.slice A2 r1.c.length c2) (.int .u32 r1.span) (.int .u32 r1.code) (.int .i64 r1.used))
       clear b1' hb1 o2)
    | fail)
  clear p0 p1 p2 p3 f0 f1 f2 f3 y2
  obtain ⟨wB, hwB⟩ : ∃ wB, wB = ((((w1.setCell ⟨g2, 0, none⟩ (.slice A2 r1.c.length c2)).setCell ⟨g2, 1, none⟩ (.int .u32 r1.span)).setCell ⟨g2, 2, none⟩ (.int .u32 r1.code)).setCell ⟨g2, 3, none⟩ (.int .i64 r1.used)) := ⟨_, rfl⟩
  rw [← hwB] at b2 i2 ⊢
  clear hwB
  obtain ⟨y2, p0, p1, p2, p3, f0, f1, f2, f3⟩ := (unhide b2).cells2
  go_wp2_with (first
    | (go_at_call 81; refine (unhide hT _ _ _ (unhide i2) (unhide b2).below).mono ?_; rintro e w3 ⟨A3, c3, rfl, o3, ok3, us3, hb3⟩
       clear y2 p0 p1 p2 p3 f0 f1 f2 f3
       have b1' := (unhide b2).call hb3
       obtain ⟨y2, p0, p1, p2, p3, f0, f1, f2, f3⟩ := b1'.cells2
       have b3 := hide (b1'.put (.slice A3 r2.c.length c3) (.int .u32 r2.span) (.int .u32 r2.code) (.int .i64 r2.used))
       have i3 := hide (b1'.row o3 (.slice A3 r2.c.length c3) (.int .u32 r2.span) (.int .u32 r2.code) (.int .i64 r2.used))
       have hU2 := hide (unhide hT2 ok3 us3)
       clear b1' hb3 b2 i2 o3 hT hT2)
    | fail)
  clear p0 p1 p2 p3 f0 f1 f2 f3 y2
  obtain ⟨wC, hwC⟩ : ∃ wC, wC = ((((w3.setCell ⟨g2, 0, none⟩ (.slice A3 r2.c.length c3)).setCell ⟨g2, 1, none⟩ (.int .u32 r2.span)).setCell ⟨g2, 2, none⟩ (.int .u32 r2.code)).setCell ⟨g2, 3, none⟩ (.int .i64 r2.used)) := ⟨_, rfl⟩
  rw [← hwC] at b3 i3 ⊢
  clear hwC
  obtain ⟨y2, p0, p1, p2, p3, f0, f1, f2, f3⟩ := (unhide b3).cells2
  go_wp2_with (first
    | (go_at_call 81; refine (unhide hU2 _ _ _ (unhide i3) (unhide b3).below).mono ?_; rintro e w5 ⟨B5, cB5, r5, rfl, hb5⟩
       clear y2 p0 p1 p2 p3 f0 f1 f2 f3
       have b1' := (unhide b3).call hb5
       obtain ⟨y2, p0, p1, p2, p3, f0, f1, f2, f3⟩ := b1'.cells2
       have b5 := hide (b1'.put (.slice B5 r5.c.length cB5) (.int .u32 r5.span) (.int .u32 r5.code) (.int .i64 r5.used))
       clear b1' hb5 b3 i3)
    | fail)
  clear p0 p1 p2 p3 f0 f1 f2 f3 y2
  obtain ⟨wD, hwD⟩ : ∃ wD, wD = ((((w5.setCell ⟨g2, 0, none⟩ (.slice B5 r5.c.length cB5)).setCell ⟨g2, 1, none⟩ (.int .u32 r5.span)).setCell ⟨g2, 2, none⟩ (.int .u32 r5.code)).setCell ⟨g2, 3, none⟩ (.int .i64 r5.used)) := ⟨_, rfl⟩
  rw [← hwD] at b5 ⊢
  clear hwD
  obtain ⟨⟨y2, p0, p1, p2, p3, f0, f1, f2, f3⟩, ⟨y4, s0, s1, s2, h0, h1, h2⟩, ⟨y5, t0, t1, t2, t3, k0, k1, k2, k3⟩, m1, m2, m3, m4, m5, m6⟩ := (unhide b5).cells
  go_region
  all_goals go_wp2_with fail
  obtain ⟨z4, z5, zb, zo⟩ := (unhide b5).out (.int .u8 0) (.int .i64 ((m : Int) - 16 + 3)) (.int .i64 1) (.slice B5 r5.c.length cB5) (.int .u32 r5.span) (.int .u32 r5.code) (.int .i64 r5.used)
  refine ret_tok rfl g4 g5 (.int .u8 0) (.int .i64 ((m : Int) - 16 + 3)) (.int .i64 1) (.slice B5 r5.c.length cB5) (.int .u32 r5.span) (.int .u32 r5.code) (.int .i64 r5.used) _ rfl rfl rfl z4 z5 rfl ?_
  exact ⟨0, (m : Int) - 16 + 3, 1, B5, cB5, r5, rfl, zb⟩
set_option maxHeartbeats 1000000 in
include hlo hv hv' ht hl in
theorem refTok_again (h0 : (nextR t r 0).2.2 = 0) (hb : (nextR t r 0).1 = true) (m : Nat) (r2 : Rdr) (h1 : treeR t 256 4 1 (nextR t r 0).2.1 = some (m, r2)) (q : Nat) (r3 : Rdr) (h2 : treeR t 272 8 1 r2 = some (q, r3)) :
    Calls Tryz.prog 52 #[v, v'] w fun e w' => ∃ v2, e = .returned (.tuple #[tkV ⟨0, (m : Int) - 16 + 3, (q : Int) - 256 + 1⟩, v2, .bool true]) ∧ RgT lo w' v2 r3 t ∧ Below w.heap.size w w' := by
  obtain ⟨⟨A, cA, rfl, hI⟩, hok, hus⟩ := hv
  have hN := fun (W : World) (h : W.ownsRow lo 3 1 (.slice A r.c.length cA) r.c.length (r.c.flatMap ivc)) (hb : Below w.heap.size w W) => refNext_any lo lo' 0 (.agg (rgc A cA r)) v' r t W (Nat.le_trans hlo hb.size) ⟨A, cA, rfl, h⟩ (hv'.grow hb) hok ht hl hus
  unfold rgc at hN
  have ok1 := nextR_ok (i := 0) ht hok
  have us1 := nextR_used (i := 0) hus
  generalize nextR t r 0 = X at *
  obtain ⟨b, r1, er⟩ := X
  simp only [] at hN ok1 us1 h0 hb h1
  subst h0 hb
  have hT := fun (A : Option Addr) (c : Nat) (W : World) (k : W.ownsRow lo 3 1 (.slice A r1.c.length c) r1.c.length (r1.c.flatMap ivc)) (hb : Below w.heap.size w W) => refTree_some lo lo' 4 256 (.agg (rgc A c r1)) v' r1 t W (Nat.le_trans hlo hb.size) ⟨⟨A, c, rfl, k⟩, ok1, us1⟩ (hv'.grow hb) ht hl (by omega) (by omega) m r2 h1
  unfold rgc at hT
  have hge := treeR_ge 4 1 h1
  simp at hge
  have hb4 : (m : Int) - 2 ^ 4 = (m : Int) - 16 := by omega
  rw [show ((4 : Nat) : Int) = 4 from rfl, hb4] at hT
  have hT2 := fun (ok2 : OkR r2) (us2 : r2.used ≤ t.length) (A : Option Addr) (c : Nat) (W : World) (k : W.ownsRow lo 3 1 (.slice A r2.c.length c) r2.c.length (r2.c.flatMap ivc)) (hb : Below w.heap.size w W) => refTree_some lo lo' 8 272 (.agg (rgc A c r2)) v' r2 t W (Nat.le_trans hlo hb.size) ⟨⟨A, c, rfl, k⟩, ok2, us2⟩ (hv'.grow hb) ht hl (by omega) (by omega) q r3 h2
  unfold rgc at hT2
  have hge2 := treeR_ge 8 1 h2
  simp at hge2
  have hb8 : (q : Int) - 2 ^ 8 = (q : Int) - 256 := by omega
  rw [show ((8 : Nat) : Int) = 8 from rfl, hb8] at hT2
  clear h1 h2 hb4 hb8
  have bx := Bx.init w (.slice A r.c.length cA) (.int .u32 r.span) (.int .u32 r.code) (.int .i64 r.used)
  have I1 := ((hI.alloc (.cells #[.slice A r.c.length cA, .int .u32 r.span, .int .u32 r.code, .int .i64 r.used] 74)).alloc (.cells #[.int .u8 0, .int .i64 0, .int .i64 0] 79)).alloc (.cells #[.slice none 0 0, .int .u32 0, .int .u32 0, .int .i64 0] 74)
  obtain ⟨g2, hg2⟩ : ∃ g2, g2 = w.heap.size := ⟨_, rfl⟩
  obtain ⟨g4, hg4⟩ : ∃ g4, g4 = w.heap.size + 1 := ⟨_, rfl⟩
  obtain ⟨g5, hg5⟩ : ∃ g5, g5 = w.heap.size + 2 := ⟨_, rfl⟩
  rw [← hg4, ← hg5] at bx
  replace bx : Bx g2 g4 g5 w (((w.alloc (.cells #[.slice A r.c.length cA, .int .u32 r.span, .int .u32 r.code, .int .i64 r.used] 74)).alloc (.cells #[.int .u8 0, .int .i64 0, .int .i64 0] 79)).alloc (.cells #[.slice none 0 0, .int .u32 0, .int .u32 0, .int .i64 0] 74)) (.slice A r.c.length cA) (.int .u32 r.span) (.int .u32 r.code) (.int .i64 r.used) := by rw [hg2]; exact bx
  replace hN := hide hN; replace bx := hide bx; replace I1 := hide I1; replace ok1 := hide ok1; replace us1 := hide us1
  replace hT := hide hT
  replace hT2 := hide hT2
  clear hI hok hus hlo hv' ht hl
  go_enter Tryz.func52, Tryz.ntmps52
  go_wp2_with fail
  rw [← hg5, ← hg4, ← hg2]
  clear hg5 hg4 hg2
  go_wp2_with (first
    | (go_at_call 80; refine (unhide hN _ (unhide I1) (unhide bx).below).mono ?_; rintro e w1 ⟨v2, rfl, ⟨A2, c2, rfl, o2⟩, hb1⟩
       have b1' := (unhide bx).call hb1
       obtain ⟨y2, p0, p1, p2, p3, f0, f1, f2, f3⟩ := b1'.cells2
       have b2 := hide (b1'.put (.slice A2 r1.c.length c2) (.int .u32 r1.span) (.int .u32 r1.code) (.int .i64 r1.used))
       have i2 := hide (b1'.row o2 (.slice A2 r1.c.length c2) (.int .u32 r1.span) (.int .u32 r1.code) (.int .i64 r1.used))
       clear b1' hb1 o2)
    | fail)
  clear p0 p1 p2 p3 f0 f1 f2 f3 y2
  obtain ⟨wB, hwB⟩ : ∃ wB, wB = ((((w1.setCell ⟨g2, 0, none⟩ (.slice A2 r1.c.length c2)).setCell ⟨g2, 1, none⟩ (.int .u32 r1.span)).setCell ⟨g2, 2, none⟩ (.int .u32 r1.code)).setCell ⟨g2, 3, none⟩ (.int .i64 r1.used)) := ⟨_, rfl⟩
  rw [← hwB] at b2 i2 ⊢
  clear hwB
  obtain ⟨y2, p0, p1, p2, p3, f0, f1, f2, f3⟩ := (unhide b2).cells2
  go_wp2_with (first
    | (go_at_call 81; refine (unhide hT _ _ _ (unhide i2) (unhide b2).below).mono ?_; rintro e w3 ⟨A3, c3, rfl, o3, ok3, us3, hb3⟩
       clear y2 p0 p1 p2 p3 f0 f1 f2 f3
       have b1' := (unhide b2).call hb3
       obtain ⟨y2, p0, p1, p2, p3, f0, f1, f2, f3⟩ := b1'.cells2
       have b3 := hide (b1'.put (.slice A3 r2.c.length c3) (.int .u32 r2.span) (.int .u32 r2.code) (.int .i64 r2.used))
       have i3 := hide (b1'.row o3 (.slice A3 r2.c.length c3) (.int .u32 r2.span) (.int .u32 r2.code) (.int .i64 r2.used))
       have hU2 := hide (unhide hT2 ok3 us3)
       clear b1' hb3 b2 i2 o3 hT hT2)
    | fail)
  clear p0 p1 p2 p3 f0 f1 f2 f3 y2
  obtain ⟨wC, hwC⟩ : ∃ wC, wC = ((((w3.setCell ⟨g2, 0, none⟩ (.slice A3 r2.c.length c3)).setCell ⟨g2, 1, none⟩ (.int .u32 r2.span)).setCell ⟨g2, 2, none⟩ (.int .u32 r2.code)).setCell ⟨g2, 3, none⟩ (.int .i64 r2.used)) := ⟨_, rfl⟩
  rw [← hwC] at b3 i3 ⊢
  clear hwC
  obtain ⟨y2, p0, p1, p2, p3, f0, f1, f2, f3⟩ := (unhide b3).cells2
  go_wp2_with (first
    | (go_at_call 81; refine (unhide hU2 _ _ _ (unhide i3) (unhide b3).below).mono ?_; rintro e w5 ⟨A5, c5, rfl, o5, ok5, us5, hb5⟩
       clear y2 p0 p1 p2 p3 f0 f1 f2 f3
       have b1' := (unhide b3).call hb5
       obtain ⟨y2, p0, p1, p2, p3, f0, f1, f2, f3⟩ := b1'.cells2
       have b5 := hide (b1'.put (.slice A5 r3.c.length c5) (.int .u32 r3.span) (.int .u32 r3.code) (.int .i64 r3.used))
       have i5 := hide (b1'.row o5 (.slice A5 r3.c.length c5) (.int .u32 r3.span) (.int .u32 r3.code) (.int .i64 r3.used))
       replace ok5 := hide ok5; replace us5 := hide us5
       clear b1' hb5 b3 i3 o5)
    | fail)
  clear p0 p1 p2 p3 f0 f1 f2 f3 y2
  obtain ⟨wD, hwD⟩ : ∃ wD, wD = ((((w5.setCell ⟨g2, 0, none⟩ (.slice A5 r3.c.length c5)).setCell ⟨g2, 1, none⟩ (.int .u32 r3.span)).setCell ⟨g2, 2, none⟩ (.int .u32 r3.code)).setCell ⟨g2, 3, none⟩ (.int .i64 r3.used)) := ⟨_, rfl⟩
  rw [← hwD] at b5 i5 ⊢
  clear hwD
  obtain ⟨⟨y2, p0, p1, p2, p3, f0, f1, f2, f3⟩, ⟨y4, s0, s1, s2, h0, h1, h2⟩, ⟨y5, t0, t1, t2, t3, k0, k1, k2, k3⟩, m1, m2, m3, m4, m5, m6⟩ := (unhide b5).cells
  go_region
  all_goals go_wp2_with fail
  obtain ⟨z4, z5, zb, zo⟩ := (unhide b5).out (.int .u8 0) (.int .i64 ((m : Int) - 16 + 3)) (.int .i64 ((q : Int) - 256 + 1)) (.slice A5 r3.c.length c5) (.int .u32 r3.span) (.int .u32 r3.code) (.int .i64 r3.used)
  refine ret_tok rfl g4 g5 (.int .u8 0) (.int .i64 ((m : Int) - 16 + 3)) (.int .i64 ((q : Int) - 256 + 1)) (.slice A5 r3.c.length c5) (.int .u32 r3.span) (.int .u32 r3.code) (.int .i64 r3.used) _ rfl rfl rfl z4 z5 rfl ?_
  exact ⟨_, rfl, ⟨⟨A5, c5, rfl, zo _ _ _ _ (unhide i5)⟩, unhide ok5, unhide us5⟩, zb⟩
include hlo hv hv' ht hl in
theorem refTok_some (x : Tok) (r' : Rdr) (h : tokR t r = some (x, r')) :
    Calls Tryz.prog 52 #[v, v'] w fun e w' => ∃ v2, e = .returned (.tuple #[tkV x, v2, .bool true]) ∧ RgT lo w' v2 r' t ∧ Below w.heap.size w w' := by
  by_cases h0 : (nextR t r 0).2.2 = 0
  · cases hb : (nextR t r 0).1 with
    | true =>
      rw [tokR_again h0 hb] at h
      cases h1 : treeR t 256 4 1 (nextR t r 0).2.1 with
      | none => rw [h1] at h; cases h
      | some y =>
        obtain ⟨m, r2⟩ := y
        rw [h1] at h
        simp only [] at h
        cases h2 : treeR t 272 8 1 r2 with
        | none => rw [h2] at h; cases h
        | some z =>
          obtain ⟨q, r3⟩ := z
          rw [h2] at h
          simp only [Option.some.injEq, Prod.mk.injEq] at h
          obtain ⟨rfl, rfl⟩ := h
          exact refTok_again lo lo' v v' r t w hlo hv hv' ht hl h0 hb m r2 h1 q r3 h2
    | false =>
      rw [tokR_lit h0 hb] at h
      cases h1 : treeR t 0 8 1 (nextR t r 0).2.1 with
      | none => rw [h1] at h; cases h
      | some y =>
        obtain ⟨m, r2⟩ := y
        rw [h1] at h
        simp only [Option.some.injEq, Prod.mk.injEq] at h
        obtain ⟨rfl, rfl⟩ := h
        exact refTok_lit lo lo' v v' r t w hlo hv hv' ht hl h0 hb m r2 h1
  · rw [tokR_stop h0] at h; cases h
include hlo hv hv' ht hl in
theorem refTok_none (h : tokR t r = none) :
    Calls Tryz.prog 52 #[v, v'] w fun e w' => ∃ (z0 z1 z2 : Int) (B : Option Addr) (cB : Nat) (r3 : Rdr), e = .returned (.tuple #[.agg #[.int .u8 z0, .int .i64 z1, .int .i64 z2], .agg (rgc B cB r3), .bool false]) ∧ Below w.heap.size w w' := by
  by_cases h0 : (nextR t r 0).2.2 = 0
  · cases hb : (nextR t r 0).1 with
    | true =>
      rw [tokR_again h0 hb] at h
      cases h1 : treeR t 256 4 1 (nextR t r 0).2.1 with
      | none => exact refTok_again1 lo lo' v v' r t w hlo hv hv' ht hl h0 hb h1
      | some y =>
        obtain ⟨m, r2⟩ := y
        rw [h1] at h
        simp only [] at h
        cases h2 : treeR t 272 8 1 r2 with
        | none => exact refTok_again2 lo lo' v v' r t w hlo hv hv' ht hl h0 hb m r2 h1 h2
        | some z => rw [h2] at h; cases h
    | false =>
      rw [tokR_lit h0 hb] at h
      cases h1 : treeR t 0 8 1 (nextR t r 0).2.1 with
      | none => exact refTok_litnone lo lo' v v' r t w hlo hv hv' ht hl h0 hb h1
      | some y => rw [h1] at h; cases h
  · exact refTok_stop lo lo' v v' r t w hlo hv hv' ht hl h0
end
end Go.Proofs.YthkccpemgmpadaaGreatDoor.P

namespace Go.Proofs.YthkccpemgmpadaaGreatDoor.P
set_option maxRecDepth 100000
open Go.RowKit
theorem own_far_lt {w : World} {base : Nat} {e : TypeId} {size : Nat} {v : Value} {n : Nat} {xs : List Value} {B g : Nat} (h : w.ownsRow base e size v n xs) (hv : VBelow B v) (hg : B ≤ g) (i : Nat) (u : Value) : (w.setCell ⟨g, i, none⟩ u).ownsRow base e size v n xs := by
  refine ⟨h.1, ?_⟩
  rcases h.2 with hn | ⟨g', cap, cur, rfl, h2, h3, h4⟩
  · exact .inl hn
  · refine .inr ⟨g', cap, cur, rfl, h2, ?_, h4⟩
    have := hv _ _ _ rfl
    simp only [] at this
    rw [Below.heap_setCell _ _ _ _ (by simp only []; omega)]
    exact h3
theorem set4_ownN {w : World} {base size n g9 : Nat} {e : TypeId} {v : Value} {a b c d x y z u : Value} {xs : List Value} (o : w.ownsRow base e size v n xs) (k9 : Blk w g9 74 #[a, b, c, d]) (he : e ≠ 74) :
    ((((w.setCell ⟨g9, 0, none⟩ x).setCell ⟨g9, 1, none⟩ y).setCell ⟨g9, 2, none⟩ z).setCell ⟨g9, 3, none⟩ u).ownsRow base e size v n xs :=
  own_far (own_far (own_far (own_far o k9 he 0 x) (k9.set 0 x) he 1 y) ((k9.set 0 x).set 1 y) he 2 z) (((k9.set 0 x).set 1 y).set 2 z) he 3 u
theorem set3_ownN {w : World} {base size n g : Nat} {e : TypeId} {v : Value} {a b c x y z : Value} {xs : List Value} (o : w.ownsRow base e size v n xs) (k : Blk w g 79 #[a, b, c]) (he : e ≠ 79) :
    (((w.setCell ⟨g, 0, none⟩ x).setCell ⟨g, 1, none⟩ y).setCell ⟨g, 2, none⟩ z).ownsRow base e size v n xs :=
  own_far (own_far (own_far o k he 0 x) (k.set 0 x) he 1 y) ((k.set 0 x).set 1 y) he 2 z
theorem set3_lt {w : World} {base : Nat} {e : TypeId} {size : Nat} {v : Value} {n : Nat} {xs : List Value} {B g : Nat} {x y z : Value} (h : w.ownsRow base e size v n xs) (hv : VBelow B v) (hg : B ≤ g) :
    (((w.setCell ⟨g, 0, none⟩ x).setCell ⟨g, 1, none⟩ y).setCell ⟨g, 2, none⟩ z).ownsRow base e size v n xs := own_far_lt (own_far_lt (own_far_lt h hv hg 0 x) hv hg 1 y) hv hg 2 z
theorem set3_blk {w : World} {g g9 : Nat} {e : TypeId} {x y z : Value} {cs : Array Value} (k : Blk w g e cs) (h : g ≠ g9) : Blk (((w.setCell ⟨g9, 0, none⟩ x).setCell ⟨g9, 1, none⟩ y).setCell ⟨g9, 2, none⟩ z) g e cs :=
  ((k.far (p := ⟨g9, 0, none⟩) h x).far (p := ⟨g9, 1, none⟩) h y).far (p := ⟨g9, 2, none⟩) h z
theorem set3_below {w w0 : World} {g9 B : Nat} {x y z : Value} (b : Below B w0 w) (h : B ≤ g9) : Below B w0 (((w.setCell ⟨g9, 0, none⟩ x).setCell ⟨g9, 1, none⟩ y).setCell ⟨g9, 2, none⟩ z) :=
  ((b.setCell (p := ⟨g9, 0, none⟩) h x).setCell (p := ⟨g9, 1, none⟩) h y).setCell (p := ⟨g9, 2, none⟩) h z
structure Pre (w wr w3 : World) (g8 : Nat) (c8 : Array Value) (v3 : Value) (n3 : Nat) (xs3 : List Value) (v4 : Value) (n4 : Nat) (xs4 : List Value) : Prop where
  k8 : Blk w3 g8 74 c8
  l8 : g8 < wr.heap.size
  s3 : wr.heap.size ≤ w3.heap.size
  below : Below w.heap.size w w3
  wz : w.heap.size ≤ wr.heap.size
  o3 : w3.ownsRow w.heap.size 3 1 v3 n3 xs3
  o4 : w3.ownsRow w.heap.size 79 3 v4 n4 xs4
  vb : VBelow wr.heap.size v4
structure Out (w wr wx : World) (g8 g11 g12 : Nat) (c8 : Array Value) (v3 : Value) (n3 : Nat) (xs3 : List Value) (v4 : Value) (n4 : Nat) (xs4 : List Value) (x y z a b c d : Value) : Prop where
  k8 : Blk wx g8 74 c8
  k11 : Blk wx g11 79 #[x, y, z]
  k12 : Blk wx g12 74 #[a, b, c, d]
  below : Below w.heap.size w wx
  o3 : wx.ownsRow w.heap.size 3 1 v3 n3 xs3
  o4 : wx.ownsRow w.heap.size 79 3 v4 n4 xs4
  p11 : wr.heap.size ≤ g11
  n11 : g11 ≠ g8
  n12 : g12 ≠ g8
section
variable {w wr w3 : World} {g8 : Nat} {c8 : Array Value} {v3 : Value} {n3 : Nat} {xs3 : List Value} {v4 : Value} {n4 : Nat} {xs4 : List Value} (h : Pre w wr w3 g8 c8 v3 n3 xs3 v4 n4 xs4) (x y z a b c d : Value)
include h
theorem out1 : Out w wr ((w3.alloc (.cells #[x, y, z] 79)).alloc (.cells #[a, b, c, d] 74)) g8 w3.heap.size (w3.heap.size + 1) c8 v3 n3 xs3 v4 n4 xs4 x y z a b c d := by
  have := h.l8; have := h.s3
  exact ⟨(h.k8.alloc _).alloc _, (Blk.new rfl).alloc _, Blk.new (by simp), bl_alloc (bl_alloc h.below _) _, (h.o3.alloc _).alloc _, (h.o4.alloc _).alloc _, h.s3, by omega, by omega⟩
theorem out2 : Out w wr ((w3.alloc (.cells #[a, b, c, d] 74)).alloc (.cells #[x, y, z] 79)) g8 (w3.heap.size + 1) w3.heap.size c8 v3 n3 xs3 v4 n4 xs4 x y z a b c d := by
  have := h.l8; have := h.s3
  exact ⟨(h.k8.alloc _).alloc _, Blk.new (by simp), (Blk.new rfl).alloc _, bl_alloc (bl_alloc h.below _) _, (h.o3.alloc _).alloc _, (h.o4.alloc _).alloc _, by omega, by omega, by omega⟩
theorem out3 {p q r : Value} (k : Blk w3 wr.heap.size 79 #[p, q, r]) : Out w wr ((((w3.setCell ⟨wr.heap.size, 0, none⟩ x).setCell ⟨wr.heap.size, 1, none⟩ y).setCell ⟨wr.heap.size, 2, none⟩ z).alloc (.cells #[a, b, c, d] 74)) g8 wr.heap.size w3.heap.size c8 v3 n3 xs3 v4 n4 xs4 x y z a b c d := by
  have := h.l8; have := h.s3
  exact ⟨(set3_blk h.k8 (by omega)).alloc _, k.set3.alloc _, Blk.new (by simp [World.setCell]), bl_alloc (set3_below h.below h.wz) _, (set3_ownN h.o3 k (by decide)).alloc _, (set3_lt h.o4 h.vb (Nat.le_refl _)).alloc _, Nat.le_refl _, by omega, by omega⟩
theorem out4 {p q r s t u v : Value} (k : Blk w3 wr.heap.size 79 #[p, q, r]) (l : Blk w3 (wr.heap.size + 1) 74 #[s, t, u, v]) :
    Out w wr (((((((w3.setCell ⟨wr.heap.size, 0, none⟩ x).setCell ⟨wr.heap.size, 1, none⟩ y).setCell ⟨wr.heap.size, 2, none⟩ z).setCell ⟨wr.heap.size + 1, 0, none⟩ a).setCell ⟨wr.heap.size + 1, 1, none⟩ b).setCell ⟨wr.heap.size + 1, 2, none⟩ c).setCell ⟨wr.heap.size + 1, 3, none⟩ d) g8 wr.heap.size (wr.heap.size + 1) c8 v3 n3 xs3 v4 n4 xs4 x y z a b c d := by
  have := h.l8; have := h.s3; have := h.wz
  have l' := set3_blk (x := x) (y := y) (z := z) (g9 := wr.heap.size) l (by omega)
  exact ⟨set4_blk (set3_blk h.k8 (by omega)) (by omega), set4_blk k.set3 (by omega), l'.set4, set4_below (set3_below h.below h.wz) (by omega), set4_ownN (set3_ownN h.o3 k (by decide)) l' (by decide), set4_ownN (set3_lt h.o4 h.vb (Nat.le_refl _)) l' (by decide), Nat.le_refl _, by omega, by omega⟩
theorem out5 {s t u v : Value} (l : Blk w3 wr.heap.size 74 #[s, t, u, v]) :
    Out w wr (((((w3.setCell ⟨wr.heap.size, 0, none⟩ a).setCell ⟨wr.heap.size, 1, none⟩ b).setCell ⟨wr.heap.size, 2, none⟩ c).setCell ⟨wr.heap.size, 3, none⟩ d).alloc (.cells #[x, y, z] 79)) g8 w3.heap.size wr.heap.size c8 v3 n3 xs3 v4 n4 xs4 x y z a b c d := by
  have := h.l8; have := h.s3
  exact ⟨(set4_blk h.k8 (by omega)).alloc _, Blk.new (by simp [World.setCell]), l.set4.alloc _, bl_alloc (set4_below h.below h.wz) _, (set4_ownN h.o3 l (by decide)).alloc _, (set4_ownN h.o4 l (by decide)).alloc _, h.s3, by omega, by omega⟩
theorem out6 {p q r s t u v : Value} (k : Blk w3 (wr.heap.size + 1) 79 #[p, q, r]) (l : Blk w3 wr.heap.size 74 #[s, t, u, v]) :
    Out w wr (((((((w3.setCell ⟨wr.heap.size + 1, 0, none⟩ x).setCell ⟨wr.heap.size + 1, 1, none⟩ y).setCell ⟨wr.heap.size + 1, 2, none⟩ z).setCell ⟨wr.heap.size, 0, none⟩ a).setCell ⟨wr.heap.size, 1, none⟩ b).setCell ⟨wr.heap.size, 2, none⟩ c).setCell ⟨wr.heap.size, 3, none⟩ d) g8 (wr.heap.size + 1) wr.heap.size c8 v3 n3 xs3 v4 n4 xs4 x y z a b c d := by
  have := h.l8; have := h.s3; have := h.wz
  have l' := set3_blk (x := x) (y := y) (z := z) (g9 := wr.heap.size + 1) l (by omega)
  exact ⟨set4_blk (set3_blk h.k8 (by omega)) (by omega), set4_blk k.set3 (by omega), l'.set4, set4_below (set3_below h.below (by omega)) h.wz, set4_ownN (set3_ownN h.o3 k (by decide)) l' (by decide), set4_ownN (set3_lt h.o4 h.vb (by omega)) l' (by decide), by omega, by omega, by omega⟩
end
end Go.Proofs.YthkccpemgmpadaaGreatDoor.P
