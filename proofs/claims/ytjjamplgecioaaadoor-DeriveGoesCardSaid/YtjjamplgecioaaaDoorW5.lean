import Derived.Test.YtjjamplgecioaaaDoorW4
namespace Go.Proofs.YtjjamplgecioaaaDoor
open Go.RowKit

section
attribute [local go_sem] r_xor r_add r_sub r_add1 r_stamp
set_option maxHeartbeats 400000 in
theorem roundR_any (s : St) (k : Nat) (w : World) : Calls Tryd.prog 25 #[stV s, u32v (BitVec.ofNat 32 k)] w fun e w' => e = .returned (stV (rnd k s)) ∧ Below w.heap.size w w' := by
  have hb : Below w.heap.size w ((w.alloc (.cells (stC s) 24)).alloc (.cells #[.int .u32 0, .int .u32 0, .int .u32 0, .int .u32 0] 24)) := bl_alloc (bl_alloc (Below.refl _ _) _) _
  have hK : rnd k s = (let a1 := s.a + s.b
    let d1 := rot (s.d ^^^ a1) 16
    let c1 := s.c + d1
    let b1 := rot (s.b ^^^ c1) 12
    let a2 := a1 + b1
    let d2 := rot (d1 ^^^ a2) 8
    let c2 := c1 + d2
    let b2 := rot (b1 ^^^ c2) 7
    ⟨b2, c2, d2, a2 ^^^ (BitVec.ofNat 32 k + 1#32) * 2654435769#32⟩) := rfl
  rw [hK]
  simp only []
  clear hK
  generalize BitVec.ofNat 32 k = q
  obtain ⟨a, b, c, d⟩ := s
  have hB : Blk ((w.alloc (.cells (stC ⟨a, b, c, d⟩) 24)).alloc (.cells zC 24)) w.heap.size 24 (stC ⟨a, b, c, d⟩) := Blk.alloc (Blk.new rfl) _
  have hZ : Blk ((w.alloc (.cells (stC ⟨a, b, c, d⟩) 24)).alloc (.cells zC 24)) (w.heap.size + 1) 24 zC := Blk.new (by simp)
  replace hZ := hide hZ
  replace hB := hide hB; replace hb := hide hb
  go_enter Tryd.func25, Tryd.ntmps25
  go_upto_region 1 with (fail)
  generalize hW : World.alloc (World.alloc w _) _ = W at *
  have c0 : W.cell? ⟨w.heap.size, 0, none⟩ = some (u32v a) := by rw [(unhide hB).cell]; rfl
  have c1 : W.cell? ⟨w.heap.size, 1, none⟩ = some (u32v b) := by rw [(unhide hB).cell]; rfl
  have c2 : W.cell? ⟨w.heap.size, 2, none⟩ = some (u32v c) := by rw [(unhide hB).cell]; rfl
  have c3 : W.cell? ⟨w.heap.size, 3, none⟩ = some (u32v d) := by rw [(unhide hB).cell]; rfl
  clear hW
  have tok1 : True := trivial
  have tok2 : True := trivial
  have tok3 : True := trivial
  have tok4 : True := trivial
  go_wp2_with (first
    | (go_at_call 28; have _t := tok1; simp only [r_add]; refine (turned16_any _ _).mono ?_; rintro e w1 ⟨rfl, m1, rfl⟩; clear tok1 _t)
    | (go_at_call 28; have _t := tok2; simp only [r_add]; refine (turned12_any _ _).mono ?_; rintro e w1 ⟨rfl, m2, rfl⟩; clear tok2 _t)
    | (go_at_call 28; have _t := tok3; simp only [r_add]; refine (turned8_any _ _).mono ?_; rintro e w1 ⟨rfl, m3, rfl⟩; clear tok3 _t)
    | (go_at_call 28; have _t := tok4; simp only [r_add]; refine (turned7_any _ _).mono ?_; rintro e w1 ⟨rfl, m4, rfl⟩; clear tok4 _t)
    | (refine wpList_store_row rfl 24 (.tmp 4) (.tmp 51) rfl (w.heap.size + 1) (stC ⟨_, _, _, _⟩) rfl rfl 24 zC ((unhide hZ).drewN (m1 + m2 + m3 + m4)) size24 rfl (stC_one _) ?_)
    | fail)
  exact bodyPost_ret (v := stV _) (results_cell_row Tryd.results25 _ _ _ _ _ (0, 0) _ rfl (((unhide hZ).drewN (m1 + m2 + m3 + m4)).row _) Tryd.underlying24 rfl size24) rfl ⟨rfl, bl_row (below_drewN (unhide hb) _) _ (by omega)⟩
end
end Go.Proofs.YtjjamplgecioaaaDoor
