import Derived.Test.YtfihgjdppkiolaaP28
namespace Go.Proofs.Ytfihgjdppkiolaa
set_option maxRecDepth 100000
open Go.RowKit

section
variable (lo lo' : Nat) (v v' : Value) (r : Rdr) (t : List Int) (w : World) (hlo : lo ≤ w.heap.size) (hv : RgT lo w v r t) (hv' : Os lo' w.heap.size w v' t) (ht : okB t) (hl : t.length ≤ 1000000)

set_option maxHeartbeats 1000000 in
include hlo hv hv' ht hl in
theorem refTok_stop (h : (nextR t r 0).2.2 ≠ 0) :
    Calls Try.prog 34 #[v, v'] w fun e w' => ∃ (z0 z1 z2 : Int) (B : Option Addr) (cB : Nat) (r3 : Rdr), e = .returned (.tuple #[.agg #[.int .u8 z0, .int .i64 z1, .int .i64 z2], .agg (rgc B cB r3), .bool false]) ∧ Below w.heap.size w w' := by
  obtain ⟨⟨A, cA, rfl, hI⟩, hok, hus⟩ := hv
  have hN := fun (W : World) (h : W.ownsRow lo 3 1 (.slice A r.c.length cA) r.c.length (r.c.flatMap ivc)) (hb : Below w.heap.size w W) => refNext_any lo lo' 0 (.agg (rgc A cA r)) v' r t W (Nat.le_trans hlo hb.size) ⟨A, cA, rfl, h⟩ (hv'.grow hb) hok ht hl hus
  unfold rgc at hN
  have ok1 := nextR_ok (i := 0) ht hok
  have us1 := nextR_used (i := 0) hus
  generalize nextR t r 0 = X at *
  obtain ⟨b, r1, er⟩ := X
  simp only [] at hN ok1 us1 h
  have h0' : (er == 0) = false := by simpa using h
  have bx := Bx.init w (.slice A r.c.length cA) (.int .u32 r.span) (.int .u32 r.code) (.int .i64 r.used)
  have I1 := ((hI.alloc (.cells #[.slice A r.c.length cA, .int .u32 r.span, .int .u32 r.code, .int .i64 r.used] 60)).alloc (.cells #[.int .u8 0, .int .i64 0, .int .i64 0] 40)).alloc (.cells #[.slice none 0 0, .int .u32 0, .int .u32 0, .int .i64 0] 60)
  obtain ⟨g2, hg2⟩ : ∃ g2, g2 = w.heap.size := ⟨_, rfl⟩
  obtain ⟨g4, hg4⟩ : ∃ g4, g4 = w.heap.size + 1 := ⟨_, rfl⟩
  obtain ⟨g5, hg5⟩ : ∃ g5, g5 = w.heap.size + 2 := ⟨_, rfl⟩
  rw [← hg4, ← hg5] at bx
  replace bx : Bx g2 g4 g5 w (((w.alloc (.cells #[.slice A r.c.length cA, .int .u32 r.span, .int .u32 r.code, .int .i64 r.used] 60)).alloc (.cells #[.int .u8 0, .int .i64 0, .int .i64 0] 40)).alloc (.cells #[.slice none 0 0, .int .u32 0, .int .u32 0, .int .i64 0] 60)) (.slice A r.c.length cA) (.int .u32 r.span) (.int .u32 r.code) (.int .i64 r.used) := by rw [hg2]; exact bx
  clear h
  replace hN := hide hN; replace bx := hide bx; replace I1 := hide I1; replace ok1 := hide ok1; replace us1 := hide us1
  clear hI hok hus hlo hv' ht hl
  go_enter Try.func34, Try.ntmps34
  go_wp2_with fail
  rw [← hg5, ← hg4, ← hg2]
  clear hg5 hg4 hg2
  go_wp2_with (first
    | (go_at_call 58; refine (unhide hN _ (unhide I1) (unhide bx).below).mono ?_; rintro e w1 ⟨v2, rfl, ⟨A2, c2, rfl, o2⟩, hb1⟩
       have b1' := (unhide bx).call hb1
       obtain ⟨y2, p0, p1, p2, p3, f0, f1, f2, f3⟩ := b1'.cells2
       have b2 := hide (b1'.put (.slice A2 r1.c.length c2) (.int .u32 r1.span) (.int .u32 r1.code) (.int .i64 r1.used))
       have i2 := hide (b1'.row o2 (.slice A2 r1.c.length c2) (.int .u32 r1.span) (.int .u32 r1.code) (.int .i64 r1.used))
       clear b1' hb1 o2)
    | fail)
  clear p0 p1 p2 p3 f0 f1 f2 f3 y2
  obtain ⟨wB, hwB⟩ : ∃ wB, wB = ((((w1.setCell ⟨g2, 0, none⟩ (.slice A2 r1.c.length c2)).setCell ⟨g2, 1, none⟩ (.int .u32 r1.span)).setCell ⟨g2, 2, none⟩ (.int .u32 r1.code)).setCell ⟨g2, 3, none⟩ (.int .i64 r1.used)) := ⟨_, rfl⟩
  rw [← hwB] at b2 ⊢
  clear hwB
  obtain ⟨⟨y2, p0, p1, p2, p3, f0, f1, f2, f3⟩, ⟨y4, s0, s1, s2, h0, h1, h2⟩, ⟨y5, t0, t1, t2, t3, k0, k1, k2, k3⟩, m1, m2, m3, m4, m5, m6⟩ := (unhide b2).cells
  go_region
  all_goals go_wp2_with fail
  obtain ⟨z4, z5, zb, zo⟩ := (unhide b2).out (.int .u8 0) (.int .i64 0) (.int .i64 0) (.slice A2 r1.c.length c2) (.int .u32 r1.span) (.int .u32 r1.code) (.int .i64 r1.used)
  refine ret_tok rfl g4 g5 (.int .u8 0) (.int .i64 0) (.int .i64 0) (.slice A2 r1.c.length c2) (.int .u32 r1.span) (.int .u32 r1.code) (.int .i64 r1.used) _ rfl rfl rfl z4 z5 rfl ?_
  exact ⟨0, 0, 0, A2, c2, r1, rfl, zb⟩

set_option maxHeartbeats 1000000 in
include hlo hv hv' ht hl in
theorem refTok_litnone (h0 : (nextR t r 0).2.2 = 0) (hb : (nextR t r 0).1 = false) (h1 : treeR t 0 8 1 (nextR t r 0).2.1 = none) :
    Calls Try.prog 34 #[v, v'] w fun e w' => ∃ (z0 z1 z2 : Int) (B : Option Addr) (cB : Nat) (r3 : Rdr), e = .returned (.tuple #[.agg #[.int .u8 z0, .int .i64 z1, .int .i64 z2], .agg (rgc B cB r3), .bool false]) ∧ Below w.heap.size w w' := by
  obtain ⟨⟨A, cA, rfl, hI⟩, hok, hus⟩ := hv
  have hN := fun (W : World) (h : W.ownsRow lo 3 1 (.slice A r.c.length cA) r.c.length (r.c.flatMap ivc)) (hb : Below w.heap.size w W) => refNext_any lo lo' 0 (.agg (rgc A cA r)) v' r t W (Nat.le_trans hlo hb.size) ⟨A, cA, rfl, h⟩ (hv'.grow hb) hok ht hl hus
  unfold rgc at hN
  have ok1 := nextR_ok (i := 0) ht hok
  have us1 := nextR_used (i := 0) hus
  generalize nextR t r 0 = X at *
  obtain ⟨b, r1, er⟩ := X
  simp only [] at hN ok1 us1 h0 hb h1
  subst h0 hb
  have hT := fun (A : Option Addr) (c : Nat) (W : World) (k : W.ownsRow lo 3 1 (.slice A r1.c.length c) r1.c.length (r1.c.flatMap ivc)) (hb : Below w.heap.size w W) => refTree_none lo lo' 8 0 (.agg (rgc A c r1)) v' r1 t W (Nat.le_trans hlo hb.size) ⟨⟨A, c, rfl, k⟩, ok1, us1⟩ (hv'.grow hb) ht hl (by omega) (by omega) h1
  unfold rgc at hT
  clear h1
  have bx := Bx.init w (.slice A r.c.length cA) (.int .u32 r.span) (.int .u32 r.code) (.int .i64 r.used)
  have I1 := ((hI.alloc (.cells #[.slice A r.c.length cA, .int .u32 r.span, .int .u32 r.code, .int .i64 r.used] 60)).alloc (.cells #[.int .u8 0, .int .i64 0, .int .i64 0] 40)).alloc (.cells #[.slice none 0 0, .int .u32 0, .int .u32 0, .int .i64 0] 60)
  obtain ⟨g2, hg2⟩ : ∃ g2, g2 = w.heap.size := ⟨_, rfl⟩
  obtain ⟨g4, hg4⟩ : ∃ g4, g4 = w.heap.size + 1 := ⟨_, rfl⟩
  obtain ⟨g5, hg5⟩ : ∃ g5, g5 = w.heap.size + 2 := ⟨_, rfl⟩
  rw [← hg4, ← hg5] at bx
  replace bx : Bx g2 g4 g5 w (((w.alloc (.cells #[.slice A r.c.length cA, .int .u32 r.span, .int .u32 r.code, .int .i64 r.used] 60)).alloc (.cells #[.int .u8 0, .int .i64 0, .int .i64 0] 40)).alloc (.cells #[.slice none 0 0, .int .u32 0, .int .u32 0, .int .i64 0] 60)) (.slice A r.c.length cA) (.int .u32 r.span) (.int .u32 r.code) (.int .i64 r.used) := by rw [hg2]; exact bx
  replace hN := hide hN; replace bx := hide bx; replace I1 := hide I1; replace ok1 := hide ok1; replace us1 := hide us1
  replace hT := hide hT
  clear hI hok hus hlo hv' ht hl
  go_enter Try.func34, Try.ntmps34
  go_wp2_with fail
  rw [← hg5, ← hg4, ← hg2]
  clear hg5 hg4 hg2
  go_wp2_with (first
    | (go_at_call 58; refine (unhide hN _ (unhide I1) (unhide bx).below).mono ?_; rintro e w1 ⟨v2, rfl, ⟨A2, c2, rfl, o2⟩, hb1⟩
       have b1' := (unhide bx).call hb1
       obtain ⟨y2, p0, p1, p2, p3, f0, f1, f2, f3⟩ := b1'.cells2
       have b2 := hide (b1'.put (.slice A2 r1.c.length c2) (.int .u32 r1.span) (.int .u32 r1.code) (.int .i64 r1.used))
       have i2 := hide (b1'.row o2 (.slice A2 r1.c.length c2) (.int .u32 r1.span) (.int .u32 r1.code) (.int .i64 r1.used))
       clear b1' hb1 o2)
    | fail)
  clear p0 p1 p2 p3 f0 f1 f2 f3 y2
  obtain ⟨wB, hwB⟩ : ∃ wB, wB = ((((w1.setCell ⟨g2, 0, none⟩ (.slice A2 r1.c.length c2)).setCell ⟨g2, 1, none⟩ (.int .u32 r1.span)).setCell ⟨g2, 2, none⟩ (.int .u32 r1.code)).setCell ⟨g2, 3, none⟩ (.int .i64 r1.used)) := ⟨_, rfl⟩
  rw [← hwB] at b2 i2 ⊢
  clear hwB
  obtain ⟨y2, p0, p1, p2, p3, f0, f1, f2, f3⟩ := (unhide b2).cells2
  go_wp2_with (first
    | (go_at_call 59; refine (unhide hT _ _ _ (unhide i2) (unhide b2).below).mono ?_; rintro e w3 ⟨B3, cB3, r3, rfl, hb3⟩
       have b3 := hide (((unhide b2).call hb3).call (bl_alloc (Below.refl _ _) (.cells #[.slice B3 r3.c.length cB3, .int .u32 r3.span, .int .u32 r3.code, .int .i64 r3.used] 60)))
       have kk := hide (Blk.new (w := w3) (g := w3.heap.size) (t := 60) (cs := #[.slice B3 r3.c.length cB3, .int .u32 r3.span, .int .u32 r3.code, .int .i64 r3.used]) rfl)
       have n5 := (show g5 ≠ w3.heap.size from by have := ((unhide b2).call hb3).k5.lt; omega)
       clear hb3)
    | fail)
  clear p0 p1 p2 p3 f0 f1 f2 f3 y2 b2 i2
  obtain ⟨wC, hwC⟩ : ∃ wC, wC = w3.alloc (.cells #[.slice B3 r3.c.length cB3, .int .u32 r3.span, .int .u32 r3.code, .int .i64 r3.used] 60) := ⟨_, rfl⟩
  rw [← hwC] at b3 kk ⊢
  have n4 : g4 ≠ w3.heap.size := fun e => (unhide b3).k4.ne_ (unhide kk) (by decide) e
  have l3 : w3.heap.size < wC.heap.size := (unhide kk).lt
  have d0 := (unhide kk).cell 0; have d1 := (unhide kk).cell 1; have d2 := (unhide kk).cell 2; have d3 := (unhide kk).cell 3
  simp at d0 d1 d2 d3
  clear hwC
  generalize w3.heap.size = gk at *
  have n4' := n4.symm
  have n5' := n5.symm
  obtain ⟨⟨y2, p0, p1, p2, p3, f0, f1, f2, f3⟩, ⟨y4, s0, s1, s2, h0, h1, h2⟩, ⟨y5, t0, t1, t2, t3, k0, k1, k2, k3⟩, m1, m2, m3, m4, m5, m6⟩ := (unhide b3).cells
  go_region
  all_goals go_wp2_with fail
  obtain ⟨z4, z5, zb, zo⟩ := (unhide b3).out (.int .u8 0) (.int .i64 0) (.int .i64 0) (.slice B3 r3.c.length cB3) (.int .u32 r3.span) (.int .u32 r3.code) (.int .i64 r3.used)
  refine ret_tok rfl g4 g5 (.int .u8 0) (.int .i64 0) (.int .i64 0) (.slice B3 r3.c.length cB3) (.int .u32 r3.span) (.int .u32 r3.code) (.int .i64 r3.used) _ rfl rfl rfl z4 z5 rfl ?_
  exact ⟨0, 0, 0, B3, cB3, r3, rfl, zb⟩

set_option maxHeartbeats 1000000 in
include hlo hv hv' ht hl in
theorem refTok_lit (h0 : (nextR t r 0).2.2 = 0) (hb : (nextR t r 0).1 = false) (m : Nat) (r2 : Rdr) (h1 : treeR t 0 8 1 (nextR t r 0).2.1 = some (m, r2)) :
    Calls Try.prog 34 #[v, v'] w fun e w' => ∃ v2, e = .returned (.tuple #[tkV ⟨UInt8.ofNat (m - 256), 0, 0⟩, v2, .bool true]) ∧ RgT lo w' v2 r2 t ∧ Below w.heap.size w w' := by
  obtain ⟨⟨A, cA, rfl, hI⟩, hok, hus⟩ := hv
  have hN := fun (W : World) (h : W.ownsRow lo 3 1 (.slice A r.c.length cA) r.c.length (r.c.flatMap ivc)) (hb : Below w.heap.size w W) => refNext_any lo lo' 0 (.agg (rgc A cA r)) v' r t W (Nat.le_trans hlo hb.size) ⟨A, cA, rfl, h⟩ (hv'.grow hb) hok ht hl hus
  unfold rgc at hN
  have ok1 := nextR_ok (i := 0) ht hok
  have us1 := nextR_used (i := 0) hus
  generalize nextR t r 0 = X at *
  obtain ⟨b, r1, er⟩ := X
  simp only [] at hN ok1 us1 h0 hb h1
  subst h0 hb
  have hT := fun (A : Option Addr) (c : Nat) (W : World) (k : W.ownsRow lo 3 1 (.slice A r1.c.length c) r1.c.length (r1.c.flatMap ivc)) (hb : Below w.heap.size w W) => refTree_some lo lo' 8 0 (.agg (rgc A c r1)) v' r1 t W (Nat.le_trans hlo hb.size) ⟨⟨A, c, rfl, k⟩, ok1, us1⟩ (hv'.grow hb) ht hl (by omega) (by omega) m r2 h1
  unfold rgc at hT
  have hge := treeR_ge 8 1 h1
  simp at hge
  have hb8 : (m : Int) - 2 ^ ((8 : Nat)) = ((m - 256 : Nat) : Int) := by omega
  rw [hb8] at hT
  have hm8 : m - 256 < 256 := by omega
  have hx : ((m - 256 : Nat) : Int) = M.n8 (UInt8.ofNat (m - 256)) := by unfold M.n8; simp; omega
  generalize m - 256 = V at *
  clear hb8 hge h1
  have bx := Bx.init w (.slice A r.c.length cA) (.int .u32 r.span) (.int .u32 r.code) (.int .i64 r.used)
  have I1 := ((hI.alloc (.cells #[.slice A r.c.length cA, .int .u32 r.span, .int .u32 r.code, .int .i64 r.used] 60)).alloc (.cells #[.int .u8 0, .int .i64 0, .int .i64 0] 40)).alloc (.cells #[.slice none 0 0, .int .u32 0, .int .u32 0, .int .i64 0] 60)
  obtain ⟨g2, hg2⟩ : ∃ g2, g2 = w.heap.size := ⟨_, rfl⟩
  obtain ⟨g4, hg4⟩ : ∃ g4, g4 = w.heap.size + 1 := ⟨_, rfl⟩
  obtain ⟨g5, hg5⟩ : ∃ g5, g5 = w.heap.size + 2 := ⟨_, rfl⟩
  rw [← hg4, ← hg5] at bx
  replace bx : Bx g2 g4 g5 w (((w.alloc (.cells #[.slice A r.c.length cA, .int .u32 r.span, .int .u32 r.code, .int .i64 r.used] 60)).alloc (.cells #[.int .u8 0, .int .i64 0, .int .i64 0] 40)).alloc (.cells #[.slice none 0 0, .int .u32 0, .int .u32 0, .int .i64 0] 60)) (.slice A r.c.length cA) (.int .u32 r.span) (.int .u32 r.code) (.int .i64 r.used) := by rw [hg2]; exact bx
  replace hN := hide hN; replace bx := hide bx; replace I1 := hide I1; replace ok1 := hide ok1; replace us1 := hide us1
  replace hT := hide hT
  replace hx := hide hx
  clear hI hok hus hlo hv' ht hl
  go_enter Try.func34, Try.ntmps34
  go_wp2_with fail
  rw [← hg5, ← hg4, ← hg2]
  clear hg5 hg4 hg2
  go_wp2_with (first
    | (go_at_call 58; refine (unhide hN _ (unhide I1) (unhide bx).below).mono ?_; rintro e w1 ⟨v2, rfl, ⟨A2, c2, rfl, o2⟩, hb1⟩
       have b1' := (unhide bx).call hb1
       obtain ⟨y2, p0, p1, p2, p3, f0, f1, f2, f3⟩ := b1'.cells2
       have b2 := hide (b1'.put (.slice A2 r1.c.length c2) (.int .u32 r1.span) (.int .u32 r1.code) (.int .i64 r1.used))
       have i2 := hide (b1'.row o2 (.slice A2 r1.c.length c2) (.int .u32 r1.span) (.int .u32 r1.code) (.int .i64 r1.used))
       clear b1' hb1 o2)
    | fail)
  clear p0 p1 p2 p3 f0 f1 f2 f3 y2
  obtain ⟨wB, hwB⟩ : ∃ wB, wB = ((((w1.setCell ⟨g2, 0, none⟩ (.slice A2 r1.c.length c2)).setCell ⟨g2, 1, none⟩ (.int .u32 r1.span)).setCell ⟨g2, 2, none⟩ (.int .u32 r1.code)).setCell ⟨g2, 3, none⟩ (.int .i64 r1.used)) := ⟨_, rfl⟩
  rw [← hwB] at b2 i2 ⊢
  clear hwB
  obtain ⟨y2, p0, p1, p2, p3, f0, f1, f2, f3⟩ := (unhide b2).cells2
  go_wp2_with (first
    | (go_at_call 59; refine (unhide hT _ _ _ (unhide i2) (unhide b2).below).mono ?_; rintro e w3 ⟨A3, c3, rfl, o3, ok3, us3, hb3⟩
       have b3 := hide (((unhide b2).call hb3).call (bl_alloc (Below.refl _ _) (.cells #[.slice A3 r2.c.length c3, .int .u32 r2.span, .int .u32 r2.code, .int .i64 r2.used] 60)))
       have o4 := hide (o3.alloc (.cells #[.slice A3 r2.c.length c3, .int .u32 r2.span, .int .u32 r2.code, .int .i64 r2.used] 60))
       have kk := hide (Blk.new (w := w3) (g := w3.heap.size) (t := 60) (cs := #[.slice A3 r2.c.length c3, .int .u32 r2.span, .int .u32 r2.code, .int .i64 r2.used]) rfl)
       clear hb3 o3)
    | fail)
  clear p0 p1 p2 p3 f0 f1 f2 f3 y2 b2 i2
  obtain ⟨wC, hwC⟩ : ∃ wC, wC = w3.alloc (.cells #[.slice A3 r2.c.length c3, .int .u32 r2.span, .int .u32 r2.code, .int .i64 r2.used] 60) := ⟨_, rfl⟩
  rw [← hwC] at b3 o4 kk ⊢
  have n4 : g4 ≠ w3.heap.size := fun e => (unhide b3).k4.ne_ (unhide kk) (by decide) e
  have n5 : g5 ≠ w3.heap.size := fun e => by
    have h5 := (unhide b3).k5
    rw [e] at h5
    have := h5.uniq (unhide kk)
    simp at this
    exact absurd this.2.1 (by have := ok3.span; omega)
  have l3 : w3.heap.size < wC.heap.size := (unhide kk).lt
  have d0 := (unhide kk).cell 0; have d1 := (unhide kk).cell 1; have d2 := (unhide kk).cell 2; have d3 := (unhide kk).cell 3
  simp at d0 d1 d2 d3
  clear hwC
  generalize w3.heap.size = gk at *
  have n4' := n4.symm
  have n5' := n5.symm
  replace ok3 := hide ok3; replace us3 := hide us3
  obtain ⟨⟨y2, p0, p1, p2, p3, f0, f1, f2, f3⟩, ⟨y4, s0, s1, s2, h0, h1, h2⟩, ⟨y5, t0, t1, t2, t3, k0, k1, k2, k3⟩, m1, m2, m3, m4, m5, m6⟩ := (unhide b3).cells
  go_region
  all_goals go_wp2_with fail
  obtain ⟨z4, z5, zb, zo⟩ := (unhide b3).out (.int .u8 (V : Int)) (.int .i64 0) (.int .i64 0) (.slice A3 r2.c.length c3) (.int .u32 r2.span) (.int .u32 r2.code) (.int .i64 r2.used)
  refine ret_tok rfl g4 g5 (.int .u8 (V : Int)) (.int .i64 0) (.int .i64 0) (.slice A3 r2.c.length c3) (.int .u32 r2.span) (.int .u32 r2.code) (.int .i64 r2.used) _ rfl rfl rfl z4 z5 rfl ?_
  exact ⟨_, by rw [unhide hx]; rfl, ⟨⟨A3, c3, rfl, zo _ _ _ _ (unhide o4)⟩, unhide ok3, unhide us3⟩, zb⟩

set_option maxHeartbeats 1000000 in
include hlo hv hv' ht hl in
theorem refTok_again1 (h0 : (nextR t r 0).2.2 = 0) (hb : (nextR t r 0).1 = true) (h1 : treeR t 256 4 1 (nextR t r 0).2.1 = none) :
    Calls Try.prog 34 #[v, v'] w fun e w' => ∃ (z0 z1 z2 : Int) (B : Option Addr) (cB : Nat) (r3 : Rdr), e = .returned (.tuple #[.agg #[.int .u8 z0, .int .i64 z1, .int .i64 z2], .agg (rgc B cB r3), .bool false]) ∧ Below w.heap.size w w' := by
  obtain ⟨⟨A, cA, rfl, hI⟩, hok, hus⟩ := hv
  have hN := fun (W : World) (h : W.ownsRow lo 3 1 (.slice A r.c.length cA) r.c.length (r.c.flatMap ivc)) (hb : Below w.heap.size w W) => refNext_any lo lo' 0 (.agg (rgc A cA r)) v' r t W (Nat.le_trans hlo hb.size) ⟨A, cA, rfl, h⟩ (hv'.grow hb) hok ht hl hus
  unfold rgc at hN
  have ok1 := nextR_ok (i := 0) ht hok
  have us1 := nextR_used (i := 0) hus
  generalize nextR t r 0 = X at *
  obtain ⟨b, r1, er⟩ := X
  simp only [] at hN ok1 us1 h0 hb h1
  subst h0 hb
  have hT := fun (A : Option Addr) (c : Nat) (W : World) (k : W.ownsRow lo 3 1 (.slice A r1.c.length c) r1.c.length (r1.c.flatMap ivc)) (hb : Below w.heap.size w W) => refTree_none lo lo' 4 256 (.agg (rgc A c r1)) v' r1 t W (Nat.le_trans hlo hb.size) ⟨⟨A, c, rfl, k⟩, ok1, us1⟩ (hv'.grow hb) ht hl (by omega) (by omega) h1
  unfold rgc at hT
  clear h1
  have bx := Bx.init w (.slice A r.c.length cA) (.int .u32 r.span) (.int .u32 r.code) (.int .i64 r.used)
  have I1 := ((hI.alloc (.cells #[.slice A r.c.length cA, .int .u32 r.span, .int .u32 r.code, .int .i64 r.used] 60)).alloc (.cells #[.int .u8 0, .int .i64 0, .int .i64 0] 40)).alloc (.cells #[.slice none 0 0, .int .u32 0, .int .u32 0, .int .i64 0] 60)
  obtain ⟨g2, hg2⟩ : ∃ g2, g2 = w.heap.size := ⟨_, rfl⟩
  obtain ⟨g4, hg4⟩ : ∃ g4, g4 = w.heap.size + 1 := ⟨_, rfl⟩
  obtain ⟨g5, hg5⟩ : ∃ g5, g5 = w.heap.size + 2 := ⟨_, rfl⟩
  rw [← hg4, ← hg5] at bx
  replace bx : Bx g2 g4 g5 w (((w.alloc (.cells #[.slice A r.c.length cA, .int .u32 r.span, .int .u32 r.code, .int .i64 r.used] 60)).alloc (.cells #[.int .u8 0, .int .i64 0, .int .i64 0] 40)).alloc (.cells #[.slice none 0 0, .int .u32 0, .int .u32 0, .int .i64 0] 60)) (.slice A r.c.length cA) (.int .u32 r.span) (.int .u32 r.code) (.int .i64 r.used) := by rw [hg2]; exact bx
  replace hN := hide hN; replace bx := hide bx; replace I1 := hide I1; replace ok1 := hide ok1; replace us1 := hide us1
  replace hT := hide hT
  clear hI hok hus hlo hv' ht hl
  go_enter Try.func34, Try.ntmps34
  go_wp2_with fail
  rw [← hg5, ← hg4, ← hg2]
  clear hg5 hg4 hg2
  go_wp2_with (first
    | (go_at_call 58; refine (unhide hN _ (unhide I1) (unhide bx).below).mono ?_; rintro e w1 ⟨v2, rfl, ⟨A2, c2, rfl, o2⟩, hb1⟩
       have b1' := (unhide bx).call hb1
       obtain ⟨y2, p0, p1, p2, p3, f0, f1, f2, f3⟩ := b1'.cells2
       have b2 := hide (b1'.put (.slice A2 r1.c.length c2) (.int .u32 r1.span) (.int .u32 r1.code) (.int .i64 r1.used))
       have i2 := hide (b1'.row o2 (.slice A2 r1.c.length c2) (.int .u32 r1.span) (.int .u32 r1.code) (.int .i64 r1.used))
       clear b1' hb1 o2)
    | fail)
  clear p0 p1 p2 p3 f0 f1 f2 f3 y2
  obtain ⟨wB, hwB⟩ : ∃ wB, wB = ((((w1.setCell ⟨g2, 0, none⟩ (.slice A2 r1.c.length c2)).setCell ⟨g2, 1, none⟩ (.int .u32 r1.span)).setCell ⟨g2, 2, none⟩ (.int .u32 r1.code)).setCell ⟨g2, 3, none⟩ (.int .i64 r1.used)) := ⟨_, rfl⟩
  rw [← hwB] at b2 i2 ⊢
  clear hwB
  obtain ⟨y2, p0, p1, p2, p3, f0, f1, f2, f3⟩ := (unhide b2).cells2
  go_wp2_with (first
    | (go_at_call 59; refine (unhide hT _ _ _ (unhide i2) (unhide b2).below).mono ?_; rintro e w3 ⟨B3, cB3, r3, rfl, hb3⟩
       clear y2 p0 p1 p2 p3 f0 f1 f2 f3
       have b1' := (unhide b2).call hb3
       obtain ⟨y2, p0, p1, p2, p3, f0, f1, f2, f3⟩ := b1'.cells2
       have b3 := hide (b1'.put (.slice B3 r3.c.length cB3) (.int .u32 r3.span) (.int .u32 r3.code) (.int .i64 r3.used))
       clear b1' hb3 b2 i2)
    | fail)
  clear p0 p1 p2 p3 f0 f1 f2 f3 y2
  obtain ⟨wC, hwC⟩ : ∃ wC, wC = ((((w3.setCell ⟨g2, 0, none⟩ (.slice B3 r3.c.length cB3)).setCell ⟨g2, 1, none⟩ (.int .u32 r3.span)).setCell ⟨g2, 2, none⟩ (.int .u32 r3.code)).setCell ⟨g2, 3, none⟩ (.int .i64 r3.used)) := ⟨_, rfl⟩
  rw [← hwC] at b3 ⊢
  clear hwC
  obtain ⟨⟨y2, p0, p1, p2, p3, f0, f1, f2, f3⟩, ⟨y4, s0, s1, s2, h0, h1, h2⟩, ⟨y5, t0, t1, t2, t3, k0, k1, k2, k3⟩, m1, m2, m3, m4, m5, m6⟩ := (unhide b3).cells
  go_region
  all_goals go_wp2_with fail
  obtain ⟨z4, z5, zb, zo⟩ := (unhide b3).out (.int .u8 0) (.int .i64 0) (.int .i64 0) (.slice B3 r3.c.length cB3) (.int .u32 r3.span) (.int .u32 r3.code) (.int .i64 r3.used)
  refine ret_tok rfl g4 g5 (.int .u8 0) (.int .i64 0) (.int .i64 0) (.slice B3 r3.c.length cB3) (.int .u32 r3.span) (.int .u32 r3.code) (.int .i64 r3.used) _ rfl rfl rfl z4 z5 rfl ?_
  exact ⟨0, 0, 0, B3, cB3, r3, rfl, zb⟩

set_option maxHeartbeats 1000000 in
include hlo hv hv' ht hl in
theorem refTok_again2 (h0 : (nextR t r 0).2.2 = 0) (hb : (nextR t r 0).1 = true) (m : Nat) (r2 : Rdr) (h1 : treeR t 256 4 1 (nextR t r 0).2.1 = some (m, r2)) (h2 : treeR t 272 8 1 r2 = none) :
    Calls Try.prog 34 #[v, v'] w fun e w' => ∃ (z0 z1 z2 : Int) (B : Option Addr) (cB : Nat) (r3 : Rdr), e = .returned (.tuple #[.agg #[.int .u8 z0, .int .i64 z1, .int .i64 z2], .agg (rgc B cB r3), .bool false]) ∧ Below w.heap.size w w' := by
  obtain ⟨⟨A, cA, rfl, hI⟩, hok, hus⟩ := hv
  have hN := fun (W : World) (h : W.ownsRow lo 3 1 (.slice A r.c.length cA) r.c.length (r.c.flatMap ivc)) (hb : Below w.heap.size w W) => refNext_any lo lo' 0 (.agg (rgc A cA r)) v' r t W (Nat.le_trans hlo hb.size) ⟨A, cA, rfl, h⟩ (hv'.grow hb) hok ht hl hus
  unfold rgc at hN
  have ok1 := nextR_ok (i := 0) ht hok
  have us1 := nextR_used (i := 0) hus
  generalize nextR t r 0 = X at *
  obtain ⟨b, r1, er⟩ := X
  simp only [] at hN ok1 us1 h0 hb h1
  subst h0 hb
  have hT := fun (A : Option Addr) (c : Nat) (W : World) (k : W.ownsRow lo 3 1 (.slice A r1.c.length c) r1.c.length (r1.c.flatMap ivc)) (hb : Below w.heap.size w W) => refTree_some lo lo' 4 256 (.agg (rgc A c r1)) v' r1 t W (Nat.le_trans hlo hb.size) ⟨⟨A, c, rfl, k⟩, ok1, us1⟩ (hv'.grow hb) ht hl (by omega) (by omega) m r2 h1
  unfold rgc at hT
  have hge := treeR_ge 4 1 h1
  simp at hge
  have hb4 : (m : Int) - 2 ^ 4 = (m : Int) - 16 := by omega
  rw [show ((4 : Nat) : Int) = 4 from rfl, hb4] at hT
  have hT2 := fun (ok2 : OkR r2) (us2 : r2.used ≤ t.length) (A : Option Addr) (c : Nat) (W : World) (k : W.ownsRow lo 3 1 (.slice A r2.c.length c) r2.c.length (r2.c.flatMap ivc)) (hb : Below w.heap.size w W) => refTree_none lo lo' 8 272 (.agg (rgc A c r2)) v' r2 t W (Nat.le_trans hlo hb.size) ⟨⟨A, c, rfl, k⟩, ok2, us2⟩ (hv'.grow hb) ht hl (by omega) (by omega) h2
  unfold rgc at hT2
  clear h1 h2 hb4
  have bx := Bx.init w (.slice A r.c.length cA) (.int .u32 r.span) (.int .u32 r.code) (.int .i64 r.used)
  have I1 := ((hI.alloc (.cells #[.slice A r.c.length cA, .int .u32 r.span, .int .u32 r.code, .int .i64 r.used] 60)).alloc (.cells #[.int .u8 0, .int .i64 0, .int .i64 0] 40)).alloc (.cells #[.slice none 0 0, .int .u32 0, .int .u32 0, .int .i64 0] 60)
  obtain ⟨g2, hg2⟩ : ∃ g2, g2 = w.heap.size := ⟨_, rfl⟩
  obtain ⟨g4, hg4⟩ : ∃ g4, g4 = w.heap.size + 1 := ⟨_, rfl⟩
  obtain ⟨g5, hg5⟩ : ∃ g5, g5 = w.heap.size + 2 := ⟨_, rfl⟩
  rw [← hg4, ← hg5] at bx
  replace bx : Bx g2 g4 g5 w (((w.alloc (.cells #[.slice A r.c.length cA, .int .u32 r.span, .int .u32 r.code, .int .i64 r.used] 60)).alloc (.cells #[.int .u8 0, .int .i64 0, .int .i64 0] 40)).alloc (.cells #[.slice none 0 0, .int .u32 0, .int .u32 0, .int .i64 0] 60)) (.slice A r.c.length cA) (.int .u32 r.span) (.int .u32 r.code) (.int .i64 r.used) := by rw [hg2]; exact bx
  replace hN := hide hN; replace bx := hide bx; replace I1 := hide I1; replace ok1 := hide ok1; replace us1 := hide us1
  replace hT := hide hT
  replace hT2 := hide hT2
  clear hI hok hus hlo hv' ht hl
  go_enter Try.func34, Try.ntmps34
  go_wp2_with fail
  rw [← hg5, ← hg4, ← hg2]
  clear hg5 hg4 hg2
  go_wp2_with (first
    | (go_at_call 58; refine (unhide hN _ (unhide I1) (unhide bx).below).mono ?_; rintro e w1 ⟨v2, rfl, ⟨A2, c2, rfl, o2⟩, hb1⟩
       have b1' := (unhide bx).call hb1
       obtain ⟨y2, p0, p1, p2, p3, f0, f1, f2, f3⟩ := b1'.cells2
       have b2 := hide (b1'.put (.slice A2 r1.c.length c2) (.int .u32 r1.span) (.int .u32 r1.code) (.int .i64 r1.used))
       have i2 := hide (b1'.row o2 (.slice A2 r1.c.length c2) (.int .u32 r1.span) (.int .u32 r1.code) (.int .i64 r1.used))
       clear b1' hb1 o2)
    | fail)
  clear p0 p1 p2 p3 f0 f1 f2 f3 y2
  obtain ⟨wB, hwB⟩ : ∃ wB, wB = ((((w1.setCell ⟨g2, 0, none⟩ (.slice A2 r1.c.length c2)).setCell ⟨g2, 1, none⟩ (.int .u32 r1.span)).setCell ⟨g2, 2, none⟩ (.int .u32 r1.code)).setCell ⟨g2, 3, none⟩ (.int .i64 r1.used)) := ⟨_, rfl⟩
  rw [← hwB] at b2 i2 ⊢
  clear hwB
  obtain ⟨y2, p0, p1, p2, p3, f0, f1, f2, f3⟩ := (unhide b2).cells2
  go_wp2_with (first
    | (go_at_call 59; refine (unhide hT _ _ _ (unhide i2) (unhide b2).below).mono ?_; rintro e w3 ⟨A3, c3, rfl, o3, ok3, us3, hb3⟩
       clear y2 p0 p1 p2 p3 f0 f1 f2 f3
       have b1' := (unhide b2).call hb3
       obtain ⟨y2, p0, p1, p2, p3, f0, f1, f2, f3⟩ := b1'.cells2
       have b3 := hide (b1'.put (.slice A3 r2.c.length c3) (.int .u32 r2.span) (.int .u32 r2.code) (.int .i64 r2.used))
       have i3 := hide (b1'.row o3 (.slice A3 r2.c.length c3) (.int .u32 r2.span) (.int .u32 r2.code) (.int .i64 r2.used))
       have hU2 := hide (unhide hT2 ok3 us3)
       clear b1' hb3 b2 i2 o3 hT hT2)
    | fail)
  clear p0 p1 p2 p3 f0 f1 f2 f3 y2
  obtain ⟨wC, hwC⟩ : ∃ wC, wC = ((((w3.setCell ⟨g2, 0, none⟩ (.slice A3 r2.c.length c3)).setCell ⟨g2, 1, none⟩ (.int .u32 r2.span)).setCell ⟨g2, 2, none⟩ (.int .u32 r2.code)).setCell ⟨g2, 3, none⟩ (.int .i64 r2.used)) := ⟨_, rfl⟩
  rw [← hwC] at b3 i3 ⊢
  clear hwC
  obtain ⟨y2, p0, p1, p2, p3, f0, f1, f2, f3⟩ := (unhide b3).cells2
  go_wp2_with (first
    | (go_at_call 59; refine (unhide hU2 _ _ _ (unhide i3) (unhide b3).below).mono ?_; rintro e w5 ⟨B5, cB5, r5, rfl, hb5⟩
       clear y2 p0 p1 p2 p3 f0 f1 f2 f3
       have b1' := (unhide b3).call hb5
       obtain ⟨y2, p0, p1, p2, p3, f0, f1, f2, f3⟩ := b1'.cells2
       have b5 := hide (b1'.put (.slice B5 r5.c.length cB5) (.int .u32 r5.span) (.int .u32 r5.code) (.int .i64 r5.used))
       clear b1' hb5 b3 i3)
    | fail)
  clear p0 p1 p2 p3 f0 f1 f2 f3 y2
  obtain ⟨wD, hwD⟩ : ∃ wD, wD = ((((w5.setCell ⟨g2, 0, none⟩ (.slice B5 r5.c.length cB5)).setCell ⟨g2, 1, none⟩ (.int .u32 r5.span)).setCell ⟨g2, 2, none⟩ (.int .u32 r5.code)).setCell ⟨g2, 3, none⟩ (.int .i64 r5.used)) := ⟨_, rfl⟩
  rw [← hwD] at b5 ⊢
  clear hwD
  obtain ⟨⟨y2, p0, p1, p2, p3, f0, f1, f2, f3⟩, ⟨y4, s0, s1, s2, h0, h1, h2⟩, ⟨y5, t0, t1, t2, t3, k0, k1, k2, k3⟩, m1, m2, m3, m4, m5, m6⟩ := (unhide b5).cells
  go_region
  all_goals go_wp2_with fail
  obtain ⟨z4, z5, zb, zo⟩ := (unhide b5).out (.int .u8 0) (.int .i64 ((m : Int) - 16 + 3)) (.int .i64 1) (.slice B5 r5.c.length cB5) (.int .u32 r5.span) (.int .u32 r5.code) (.int .i64 r5.used)
  refine ret_tok rfl g4 g5 (.int .u8 0) (.int .i64 ((m : Int) - 16 + 3)) (.int .i64 1) (.slice B5 r5.c.length cB5) (.int .u32 r5.span) (.int .u32 r5.code) (.int .i64 r5.used) _ rfl rfl rfl z4 z5 rfl ?_
  exact ⟨0, (m : Int) - 16 + 3, 1, B5, cB5, r5, rfl, zb⟩

set_option maxHeartbeats 1000000 in
include hlo hv hv' ht hl in
theorem refTok_again (h0 : (nextR t r 0).2.2 = 0) (hb : (nextR t r 0).1 = true) (m : Nat) (r2 : Rdr) (h1 : treeR t 256 4 1 (nextR t r 0).2.1 = some (m, r2)) (q : Nat) (r3 : Rdr) (h2 : treeR t 272 8 1 r2 = some (q, r3)) :
    Calls Try.prog 34 #[v, v'] w fun e w' => ∃ v2, e = .returned (.tuple #[tkV ⟨0, (m : Int) - 16 + 3, (q : Int) - 256 + 1⟩, v2, .bool true]) ∧ RgT lo w' v2 r3 t ∧ Below w.heap.size w w' := by
  obtain ⟨⟨A, cA, rfl, hI⟩, hok, hus⟩ := hv
  have hN := fun (W : World) (h : W.ownsRow lo 3 1 (.slice A r.c.length cA) r.c.length (r.c.flatMap ivc)) (hb : Below w.heap.size w W) => refNext_any lo lo' 0 (.agg (rgc A cA r)) v' r t W (Nat.le_trans hlo hb.size) ⟨A, cA, rfl, h⟩ (hv'.grow hb) hok ht hl hus
  unfold rgc at hN
  have ok1 := nextR_ok (i := 0) ht hok
  have us1 := nextR_used (i := 0) hus
  generalize nextR t r 0 = X at *
  obtain ⟨b, r1, er⟩ := X
  simp only [] at hN ok1 us1 h0 hb h1
  subst h0 hb
  have hT := fun (A : Option Addr) (c : Nat) (W : World) (k : W.ownsRow lo 3 1 (.slice A r1.c.length c) r1.c.length (r1.c.flatMap ivc)) (hb : Below w.heap.size w W) => refTree_some lo lo' 4 256 (.agg (rgc A c r1)) v' r1 t W (Nat.le_trans hlo hb.size) ⟨⟨A, c, rfl, k⟩, ok1, us1⟩ (hv'.grow hb) ht hl (by omega) (by omega) m r2 h1
  unfold rgc at hT
  have hge := treeR_ge 4 1 h1
  simp at hge
  have hb4 : (m : Int) - 2 ^ 4 = (m : Int) - 16 := by omega
  rw [show ((4 : Nat) : Int) = 4 from rfl, hb4] at hT
  have hT2 := fun (ok2 : OkR r2) (us2 : r2.used ≤ t.length) (A : Option Addr) (c : Nat) (W : World) (k : W.ownsRow lo 3 1 (.slice A r2.c.length c) r2.c.length (r2.c.flatMap ivc)) (hb : Below w.heap.size w W) => refTree_some lo lo' 8 272 (.agg (rgc A c r2)) v' r2 t W (Nat.le_trans hlo hb.size) ⟨⟨A, c, rfl, k⟩, ok2, us2⟩ (hv'.grow hb) ht hl (by omega) (by omega) q r3 h2
  unfold rgc at hT2
  have hge2 := treeR_ge 8 1 h2
  simp at hge2
  have hb8 : (q : Int) - 2 ^ 8 = (q : Int) - 256 := by omega
  rw [show ((8 : Nat) : Int) = 8 from rfl, hb8] at hT2
  clear h1 h2 hb4 hb8
  have bx := Bx.init w (.slice A r.c.length cA) (.int .u32 r.span) (.int .u32 r.code) (.int .i64 r.used)
  have I1 := ((hI.alloc (.cells #[.slice A r.c.length cA, .int .u32 r.span, .int .u32 r.code, .int .i64 r.used] 60)).alloc (.cells #[.int .u8 0, .int .i64 0, .int .i64 0] 40)).alloc (.cells #[.slice none 0 0, .int .u32 0, .int .u32 0, .int .i64 0] 60)
  obtain ⟨g2, hg2⟩ : ∃ g2, g2 = w.heap.size := ⟨_, rfl⟩
  obtain ⟨g4, hg4⟩ : ∃ g4, g4 = w.heap.size + 1 := ⟨_, rfl⟩
  obtain ⟨g5, hg5⟩ : ∃ g5, g5 = w.heap.size + 2 := ⟨_, rfl⟩
  rw [← hg4, ← hg5] at bx
  replace bx : Bx g2 g4 g5 w (((w.alloc (.cells #[.slice A r.c.length cA, .int .u32 r.span, .int .u32 r.code, .int .i64 r.used] 60)).alloc (.cells #[.int .u8 0, .int .i64 0, .int .i64 0] 40)).alloc (.cells #[.slice none 0 0, .int .u32 0, .int .u32 0, .int .i64 0] 60)) (.slice A r.c.length cA) (.int .u32 r.span) (.int .u32 r.code) (.int .i64 r.used) := by rw [hg2]; exact bx
  replace hN := hide hN; replace bx := hide bx; replace I1 := hide I1; replace ok1 := hide ok1; replace us1 := hide us1
  replace hT := hide hT
  replace hT2 := hide hT2
  clear hI hok hus hlo hv' ht hl
  go_enter Try.func34, Try.ntmps34
  go_wp2_with fail
  rw [← hg5, ← hg4, ← hg2]
  clear hg5 hg4 hg2
  go_wp2_with (first
    | (go_at_call 58; refine (unhide hN _ (unhide I1) (unhide bx).below).mono ?_; rintro e w1 ⟨v2, rfl, ⟨A2, c2, rfl, o2⟩, hb1⟩
       have b1' := (unhide bx).call hb1
       obtain ⟨y2, p0, p1, p2, p3, f0, f1, f2, f3⟩ := b1'.cells2
       have b2 := hide (b1'.put (.slice A2 r1.c.length c2) (.int .u32 r1.span) (.int .u32 r1.code) (.int .i64 r1.used))
       have i2 := hide (b1'.row o2 (.slice A2 r1.c.length c2) (.int .u32 r1.span) (.int .u32 r1.code) (.int .i64 r1.used))
       clear b1' hb1 o2)
    | fail)
  clear p0 p1 p2 p3 f0 f1 f2 f3 y2
  obtain ⟨wB, hwB⟩ : ∃ wB, wB = ((((w1.setCell ⟨g2, 0, none⟩ (.slice A2 r1.c.length c2)).setCell ⟨g2, 1, none⟩ (.int .u32 r1.span)).setCell ⟨g2, 2, none⟩ (.int .u32 r1.code)).setCell ⟨g2, 3, none⟩ (.int .i64 r1.used)) := ⟨_, rfl⟩
  rw [← hwB] at b2 i2 ⊢
  clear hwB
  obtain ⟨y2, p0, p1, p2, p3, f0, f1, f2, f3⟩ := (unhide b2).cells2
  go_wp2_with (first
    | (go_at_call 59; refine (unhide hT _ _ _ (unhide i2) (unhide b2).below).mono ?_; rintro e w3 ⟨A3, c3, rfl, o3, ok3, us3, hb3⟩
       clear y2 p0 p1 p2 p3 f0 f1 f2 f3
       have b1' := (unhide b2).call hb3
       obtain ⟨y2, p0, p1, p2, p3, f0, f1, f2, f3⟩ := b1'.cells2
       have b3 := hide (b1'.put (.slice A3 r2.c.length c3) (.int .u32 r2.span) (.int .u32 r2.code) (.int .i64 r2.used))
       have i3 := hide (b1'.row o3 (.slice A3 r2.c.length c3) (.int .u32 r2.span) (.int .u32 r2.code) (.int .i64 r2.used))
       have hU2 := hide (unhide hT2 ok3 us3)
       clear b1' hb3 b2 i2 o3 hT hT2)
    | fail)
  clear p0 p1 p2 p3 f0 f1 f2 f3 y2
  obtain ⟨wC, hwC⟩ : ∃ wC, wC = ((((w3.setCell ⟨g2, 0, none⟩ (.slice A3 r2.c.length c3)).setCell ⟨g2, 1, none⟩ (.int .u32 r2.span)).setCell ⟨g2, 2, none⟩ (.int .u32 r2.code)).setCell ⟨g2, 3, none⟩ (.int .i64 r2.used)) := ⟨_, rfl⟩
  rw [← hwC] at b3 i3 ⊢
  clear hwC
  obtain ⟨y2, p0, p1, p2, p3, f0, f1, f2, f3⟩ := (unhide b3).cells2
  go_wp2_with (first
    | (go_at_call 59; refine (unhide hU2 _ _ _ (unhide i3) (unhide b3).below).mono ?_; rintro e w5 ⟨A5, c5, rfl, o5, ok5, us5, hb5⟩
       clear y2 p0 p1 p2 p3 f0 f1 f2 f3
       have b1' := (unhide b3).call hb5
       obtain ⟨y2, p0, p1, p2, p3, f0, f1, f2, f3⟩ := b1'.cells2
       have b5 := hide (b1'.put (.slice A5 r3.c.length c5) (.int .u32 r3.span) (.int .u32 r3.code) (.int .i64 r3.used))
       have i5 := hide (b1'.row o5 (.slice A5 r3.c.length c5) (.int .u32 r3.span) (.int .u32 r3.code) (.int .i64 r3.used))
       replace ok5 := hide ok5; replace us5 := hide us5
       clear b1' hb5 b3 i3 o5)
    | fail)
  clear p0 p1 p2 p3 f0 f1 f2 f3 y2
  obtain ⟨wD, hwD⟩ : ∃ wD, wD = ((((w5.setCell ⟨g2, 0, none⟩ (.slice A5 r3.c.length c5)).setCell ⟨g2, 1, none⟩ (.int .u32 r3.span)).setCell ⟨g2, 2, none⟩ (.int .u32 r3.code)).setCell ⟨g2, 3, none⟩ (.int .i64 r3.used)) := ⟨_, rfl⟩
  rw [← hwD] at b5 i5 ⊢
  clear hwD
  obtain ⟨⟨y2, p0, p1, p2, p3, f0, f1, f2, f3⟩, ⟨y4, s0, s1, s2, h0, h1, h2⟩, ⟨y5, t0, t1, t2, t3, k0, k1, k2, k3⟩, m1, m2, m3, m4, m5, m6⟩ := (unhide b5).cells
  go_region
  all_goals go_wp2_with fail
  obtain ⟨z4, z5, zb, zo⟩ := (unhide b5).out (.int .u8 0) (.int .i64 ((m : Int) - 16 + 3)) (.int .i64 ((q : Int) - 256 + 1)) (.slice A5 r3.c.length c5) (.int .u32 r3.span) (.int .u32 r3.code) (.int .i64 r3.used)
  refine ret_tok rfl g4 g5 (.int .u8 0) (.int .i64 ((m : Int) - 16 + 3)) (.int .i64 ((q : Int) - 256 + 1)) (.slice A5 r3.c.length c5) (.int .u32 r3.span) (.int .u32 r3.code) (.int .i64 r3.used) _ rfl rfl rfl z4 z5 rfl ?_
  exact ⟨_, rfl, ⟨⟨A5, c5, rfl, zo _ _ _ _ (unhide i5)⟩, unhide ok5, unhide us5⟩, zb⟩

include hlo hv hv' ht hl in
theorem refTok_some (x : Tok) (r' : Rdr) (h : tokR t r = some (x, r')) :
    Calls Try.prog 34 #[v, v'] w fun e w' => ∃ v2, e = .returned (.tuple #[tkV x, v2, .bool true]) ∧ RgT lo w' v2 r' t ∧ Below w.heap.size w w' := by
  by_cases h0 : (nextR t r 0).2.2 = 0
  · cases hb : (nextR t r 0).1 with
    | true =>
      rw [tokR_again h0 hb] at h
      cases h1 : treeR t 256 4 1 (nextR t r 0).2.1 with
      | none => rw [h1] at h; cases h
      | some y =>
        obtain ⟨m, r2⟩ := y
        rw [h1] at h
        simp only [] at h
        cases h2 : treeR t 272 8 1 r2 with
        | none => rw [h2] at h; cases h
        | some z =>
          obtain ⟨q, r3⟩ := z
          rw [h2] at h
          simp only [Option.some.injEq, Prod.mk.injEq] at h
          obtain ⟨rfl, rfl⟩ := h
          exact refTok_again lo lo' v v' r t w hlo hv hv' ht hl h0 hb m r2 h1 q r3 h2
    | false =>
      rw [tokR_lit h0 hb] at h
      cases h1 : treeR t 0 8 1 (nextR t r 0).2.1 with
      | none => rw [h1] at h; cases h
      | some y =>
        obtain ⟨m, r2⟩ := y
        rw [h1] at h
        simp only [Option.some.injEq, Prod.mk.injEq] at h
        obtain ⟨rfl, rfl⟩ := h
        exact refTok_lit lo lo' v v' r t w hlo hv hv' ht hl h0 hb m r2 h1
  · rw [tokR_stop h0] at h; cases h
include hlo hv hv' ht hl in
theorem refTok_none (h : tokR t r = none) :
    Calls Try.prog 34 #[v, v'] w fun e w' => ∃ (z0 z1 z2 : Int) (B : Option Addr) (cB : Nat) (r3 : Rdr), e = .returned (.tuple #[.agg #[.int .u8 z0, .int .i64 z1, .int .i64 z2], .agg (rgc B cB r3), .bool false]) ∧ Below w.heap.size w w' := by
  by_cases h0 : (nextR t r 0).2.2 = 0
  · cases hb : (nextR t r 0).1 with
    | true =>
      rw [tokR_again h0 hb] at h
      cases h1 : treeR t 256 4 1 (nextR t r 0).2.1 with
      | none => exact refTok_again1 lo lo' v v' r t w hlo hv hv' ht hl h0 hb h1
      | some y =>
        obtain ⟨m, r2⟩ := y
        rw [h1] at h
        simp only [] at h
        cases h2 : treeR t 272 8 1 r2 with
        | none => exact refTok_again2 lo lo' v v' r t w hlo hv hv' ht hl h0 hb m r2 h1 h2
        | some z => rw [h2] at h; cases h
    | false =>
      rw [tokR_lit h0 hb] at h
      cases h1 : treeR t 0 8 1 (nextR t r 0).2.1 with
      | none => exact refTok_litnone lo lo' v v' r t w hlo hv hv' ht hl h0 hb h1
      | some y => rw [h1] at h; cases h
  · exact refTok_stop lo lo' v v' r t w hlo hv hv' ht hl h0
end
end Go.Proofs.Ytfihgjdppkiolaa
