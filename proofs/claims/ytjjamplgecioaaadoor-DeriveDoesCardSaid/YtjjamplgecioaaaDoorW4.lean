import Derived.Test.YtjjamplgecioaaaDoorW3
namespace Go.Proofs.YtjjamplgecioaaaDoor
open Go.RowKit

/-- A number's octets, as cells. -/
def octC (x : Reg) : Array Value := #[u8v ⟨x.setWidth 8⟩, u8v ⟨(x >>> 8).setWidth 8⟩, u8v ⟨(x >>> 16).setWidth 8⟩, u8v ⟨(x >>> 24).setWidth 8⟩]
theorem r_tm (x : Reg) : (n32 x).tmod (256 : Int) = n8 (⟨x.setWidth 8⟩ : UInt8) := by
  rw [Int.tmod_eq_emod_of_nonneg (by unfold n32; omega)]; exact r_low x
theorem r_td1 (x : Reg) : (n32 x).tdiv (256 : Int) = n32 (x >>> 8) := by
  rw [Int.tdiv_eq_ediv_of_nonneg (by unfold n32; omega)]; exact r_shr8 x
theorem r_td2 (x : Reg) : (n32 x).tdiv (65536 : Int) = n32 (x >>> 16) := by
  rw [Int.tdiv_eq_ediv_of_nonneg (by unfold n32; omega)]; exact r_shr16 x
theorem r_td3 (x : Reg) : (n32 x).tdiv (16777216 : Int) = n32 (x >>> 24) := by
  rw [Int.tdiv_eq_ediv_of_nonneg (by unfold n32; omega)]; exact r_shr24 x
theorem below_drewN {B : Nat} {a w : World} (h : Below B a w) (n : Nat) : Below B a (w.drewN n) := ⟨h.os, h.tape, h.output, h.size, h.block⟩
theorem Blk.row {w : World} {g : Nat} {t : TypeId} {cs : Array Value} (h : Blk w g t cs) (C : Array Value) : Blk (w.setRow g C) g t C := setRow_heap w g _ C t _ h
theorem Blk.row_other {w : World} {g g' : Nat} {t : TypeId} {cs : Array Value} (h : Blk w g t cs) (C : Array Value) (hne : g ≠ g') : Blk (w.setRow g' C) g t cs := (setRow_other w g' g C hne).trans h
theorem bl_row {B g : Nat} {a w : World} (h : Below B a w) (C : Array Value) (hg : B ≤ g) : Below B a (w.setRow g C) :=
  h.trans ⟨rfl, rfl, rfl, by simp [World.setRow], fun k hk => setRow_other w g k C (by omega)⟩
theorem size24 : (Tryd.prog.info? 24).map (·.size) = some 4 := by kernel_rfl
/-- A state, by value, and as cells. -/
abbrev stC (s : St) : Array Value := #[u32v s.a, u32v s.b, u32v s.c, u32v s.d]
abbrev stV (s : St) : Value := .agg (stC s)
abbrev zC : Array Value := #[.int .u32 0, .int .u32 0, .int .u32 0, .int .u32 0]
theorem stC_one (s : St) : (stC s).all (·.oneCell') = true := by simp [Value.oneCell']

section
attribute [local go_sem] r_xor r_add r_add1 r_stamp
set_option maxHeartbeats 400000 in
theorem round_any (s : St) (k : Nat) (w : World) (ht : Tab w) : Calls Tryd.prog 24 #[stV s, u32v (BitVec.ofNat 32 k)] w fun e w' => e = .returned (stV (rnd k s)) ∧ Below w.heap.size w w' := by
  have hb : Below w.heap.size w ((w.alloc (.cells (stC s) 24)).alloc (.cells #[.int .u32 0, .int .u32 0, .int .u32 0, .int .u32 0] 24)) := bl_alloc (bl_alloc (Below.refl _ _) _) _
  have hK : rnd k s = (let a1 := s.a + s.b
    let d1 := rot (s.d ^^^ a1) 16
    let c1 := s.c + d1
    let b1 := rot (s.b ^^^ c1) 12
    let a2 := a1 + b1
    let d2 := rot (d1 ^^^ a2) 8
    let c2 := c1 + d2
    let b2 := rot (b1 ^^^ c2) 7
    ⟨b2, c2, d2, a2 ^^^ (BitVec.ofNat 32 k + 1#32) * 2654435769#32⟩) := rfl
  rw [hK]
  simp only []
  clear hK
  generalize BitVec.ofNat 32 k = q
  obtain ⟨a, b, c, d⟩ := s
  have ht1 := ht.below hb (Nat.le_refl _)
  obtain ⟨l0, t0, t1, t2, t3⟩ := ht
  have hB : Blk ((w.alloc (.cells (stC ⟨a, b, c, d⟩) 24)).alloc (.cells zC 24)) w.heap.size 24 (stC ⟨a, b, c, d⟩) := Blk.alloc (Blk.new rfl) _
  have hZ : Blk ((w.alloc (.cells (stC ⟨a, b, c, d⟩) 24)).alloc (.cells zC 24)) (w.heap.size + 1) 24 zC := Blk.new (by simp)
  replace hZ := hide hZ
  replace hB := hide hB; replace hb := hide hb; replace ht1 := hide ht1
  go_enter Tryd.func24, Tryd.ntmps24
  go_upto_region 1 with (fail)
  generalize hW : World.alloc (World.alloc w _) _ = W at *
  have c0 : W.cell? ⟨w.heap.size, 0, none⟩ = some (u32v a) := by rw [(unhide hB).cell]; rfl
  have c1 : W.cell? ⟨w.heap.size, 1, none⟩ = some (u32v b) := by rw [(unhide hB).cell]; rfl
  have c2 : W.cell? ⟨w.heap.size, 2, none⟩ = some (u32v c) := by rw [(unhide hB).cell]; rfl
  have c3 : W.cell? ⟨w.heap.size, 3, none⟩ = some (u32v d) := by rw [(unhide hB).cell]; rfl
  obtain ⟨l1, e0, e1, e2, e3⟩ := unhide ht1
  clear t0 t1 t2 t3 hW
  go_quiet (fail)
  have tok1 : True := trivial
  have tok2 : True := trivial
  have tok3 : True := trivial
  have tok4 : True := trivial
  go_wp2_with (first
    | (go_at_call 27; have _t := tok1; simp only [r_add]; refine (rotl16_any _ _).mono ?_; rintro e w1 ⟨rfl, rfl⟩; clear tok1 _t)
    | (go_at_call 27; have _t := tok2; simp only [r_add]; refine (rotl12_any _ _).mono ?_; rintro e w1 ⟨rfl, rfl⟩; clear tok2 _t)
    | (go_at_call 27; have _t := tok3; simp only [r_add]; refine (rotl8_any _ _).mono ?_; rintro e w1 ⟨rfl, rfl⟩; clear tok3 _t)
    | (go_at_call 27; have _t := tok4; simp only [r_add]; refine (rotl7_any _ _).mono ?_; rintro e w1 ⟨rfl, rfl⟩; clear tok4 _t)
    | (refine wpList_store_row rfl 24 (.tmp 4) (.tmp 62) rfl (w.heap.size + 1) (stC ⟨_, _, _, _⟩) rfl rfl 24 zC ((unhide hZ).drewN nq) size24 rfl (stC_one _) ?_)
    | fail)
  exact bodyPost_ret (v := stV _) (results_cell_row Tryd.results24 _ _ _ _ _ (0, 0) _ rfl (((unhide hZ).drewN nq).row _) Tryd.underlying24 rfl size24) rfl ⟨rfl, bl_row (below_drewN (unhide hb) nq) _ (by omega)⟩
end
end Go.Proofs.YtjjamplgecioaaaDoor
