import Derived.Test.YthkccpemgmpadaaGreatDoorU25
import Derived.Laws.StructEq
import Derived.Laws.Cover3
namespace Go.Proofs.YthkccpemgmpadaaGreatDoor
set_option maxRecDepth 100000
open Go.RowKit
theorem info5 : (Tryz.prog.info? 5).map (fun i => (i.zero, i.size, i.bytes)) = some (some (.int .u8 0), 1, 1) := by kernel_rfl
theorem info_parts {o : Option TypeInfo} {z : Value} {a b : Nat} (h : o.map (fun i => (i.zero, i.size, i.bytes)) = some (some z, a, b)) : ∃ i, o = some i ∧ i.zero = some z ∧ i.size = a ∧ i.bytes = b := by
  cases o with
  | none => cases h
  | some i => simp at h; exact ⟨i, rfl, h⟩
abbrev OwnB (w : World) (base : Nat) (v : Value) (l : List UInt8) : Prop := w.ownsRow base 5 1 v l.length (l.map u8v)
theorem OwnB.form {w : World} {base : Nat} {v : Value} {l : List UInt8} (h : OwnB w base v l) : ∃ A c, v = .slice A l.length c := ownsRow_form h
theorem add_none (b off i : Nat) : (⟨b, off, none⟩ : Addr).add i = ⟨b, off + i, none⟩ := by
  unfold Addr.add
  split
  · rename_i h; subst h; rfl
  · rfl
theorem oct_src {w : World} {g : Nat} {t : TypeId} {a b c d : UInt8} (h : Blk w g t #[u8v a, u8v b, u8v c, u8v d]) : SrcOk w (some ⟨g, 0, none⟩) 4 ([a, b, c, d].map u8v) := fun _ => by
  refine ⟨_, rfl, fun j u hu => ?_⟩
  rw [add_none, h.cell, Nat.zero_add]
  simpa using hu
theorem bl_app {base : Nat} {w w' : World} {o : Obj} {e : TypeId} {k : Nat} {v : Value} {n : Nat} {xs : List Value} (hb : base ≤ w.heap.size) (hown : w.ownsRow base e k v n xs) (hg : (w.alloc o).grownBy w' v.ownBlock) : Below base w w' :=
  ((Below.refl _ _).alloc hb _).grown hg (by simp; omega) (own_base hown)
theorem le_alloc {base : Nat} {w : World} {o : Obj} (hb : base ≤ w.heap.size) : base ≤ (w.alloc o).heap.size := by simp; omega
section
attribute [local go_sem] r_shr8 r_shr16 r_shr24 r_low
set_option maxHeartbeats 1000000 in
theorem tell_any (base : Nat) (v : Value) (l : List UInt8) (x : Reg) (w : World) (hown : OwnB w base v l) (hb : base ≤ w.heap.size) (hL : l.length ≤ 1000000) :
    Calls Tryz.prog 96 #[v, u32v x] w fun e w' => ∃ v', e = .returned v' ∧ OwnB w' base v' (l ++ oct x) ∧ Below base w w' := by
  obtain ⟨i0, hi0, hz0, hz1, hz2⟩ := info_parts info5
  have hl2 : ((oct x).map u8v).length = 4 * 1 := rfl
  have ho2 := u8s_one (oct x)
  have b3 : l.length + 4 ≤ maxLen := by simp only [maxLen]; omega
  have b4 : (l.length + 4) * 1 ≤ 140737488355328 := by omega
  have hs : (l ++ oct x).length = l.length + 4 := by simp [oct]
  have hf : oct x = [⟨x.setWidth 8⟩, ⟨(x >>> 8).setWidth 8⟩, ⟨(x >>> 16).setWidth 8⟩, ⟨(x >>> 24).setWidth 8⟩] := rfl
  have hq := hown.form
  replace hl2 := hide hl2; replace ho2 := hide ho2; replace b3 := hide b3; replace b4 := hide b4; replace hs := hide hs; replace hf := hide hf; replace hown := hide hown; replace hb := hide hb
  obtain ⟨A, c, rfl⟩ := hq
  clear hL
  go_enter Tryz.func96, Tryz.ntmps96
  go_wp2_with (first
    | (at_builtin
       simp only [r_low]
       refine wpList_app _ rfl (.tmp 5) (.tmp 17) 29 rfl base 5 i0 _ 1 1 Tryz.underlying29 hi0 hz0 hz1 hz2 rfl (Nat.succ_pos _) _ l.length (l.map u8v) rfl ((unhide hown).alloc _) (some ⟨w.heap.size, 0, none⟩) 4 4 _ rfl (unhide hl2) (oct_src (Blk.new rfl)) (unhide ho2) (unhide b3) (unhide b4) (le_alloc (unhide hb)) ?_
       intro v4 w4 hown4 hg4
       have hb4 : Below base w w4 := bl_app (unhide hb) (unhide hown) hg4
       replace hown4 := hide hown4)
    | fail)
  go_ret
  refine ⟨v4, rfl, ?_, hb4⟩
  have := unhide hown4
  rw [← List.map_append] at this
  unfold OwnB
  rw [unhide hs]
  exact this
end
end Go.Proofs.YthkccpemgmpadaaGreatDoor

namespace Go.Proofs.YthkccpemgmpadaaGreatDoor
set_option maxRecDepth 100000
open Go.RowKit
def octC (x : Reg) : Array Value := #[u8v ⟨x.setWidth 8⟩, u8v ⟨(x >>> 8).setWidth 8⟩, u8v ⟨(x >>> 16).setWidth 8⟩, u8v ⟨(x >>> 24).setWidth 8⟩]
theorem r_tm (x : Reg) : (n32 x).tmod (256 : Int) = n8 (⟨x.setWidth 8⟩ : UInt8) := by
  rw [Int.tmod_eq_emod_of_nonneg (by unfold n32; omega)]; exact r_low x
theorem r_td1 (x : Reg) : (n32 x).tdiv (256 : Int) = n32 (x >>> 8) := by
  rw [Int.tdiv_eq_ediv_of_nonneg (by unfold n32; omega)]; exact r_shr8 x
theorem r_td2 (x : Reg) : (n32 x).tdiv (65536 : Int) = n32 (x >>> 16) := by
  rw [Int.tdiv_eq_ediv_of_nonneg (by unfold n32; omega)]; exact r_shr16 x
theorem r_td3 (x : Reg) : (n32 x).tdiv (16777216 : Int) = n32 (x >>> 24) := by
  rw [Int.tdiv_eq_ediv_of_nonneg (by unfold n32; omega)]; exact r_shr24 x
section
set_option maxHeartbeats 1000000 in
theorem octetsR_any (x : Reg) (w : World) : Calls Tryz.prog 104 #[u32v x] w fun e w' => e = .returned (.slice (some ⟨w.heap.size, 0, none⟩) 4 4) ∧ w' = w.alloc (.cells (octC x) 5) := by
  go_enter Tryz.func104, Tryz.ntmps104
  go_wp2
  go_ret
  exact ⟨rfl, by simp only [r_tm, r_td1, r_td2, r_td3, r_low, r_small]; rfl⟩
end
theorem below_drewN {B : Nat} {a w : World} (h : Below B a w) (n : Nat) : Below B a (w.drewN n) := ⟨h.os, h.tape, h.output, h.size, h.block⟩
theorem Blk.row {w : World} {g : Nat} {t : TypeId} {cs : Array Value} (h : Blk w g t cs) (C : Array Value) : Blk (w.setRow g C) g t C := setRow_heap w g _ C t _ h
theorem Blk.row_other {w : World} {g g' : Nat} {t : TypeId} {cs : Array Value} (h : Blk w g t cs) (C : Array Value) (hne : g ≠ g') : Blk (w.setRow g' C) g t cs := (setRow_other w g' g C hne).trans h
theorem bl_row {B g : Nat} {a w : World} (h : Below B a w) (C : Array Value) (hg : B ≤ g) : Below B a (w.setRow g C) :=
  h.trans ⟨rfl, rfl, rfl, by simp [World.setRow], fun k hk => setRow_other w g k C (by omega)⟩
theorem size24 : (Tryz.prog.info? 24).map (·.size) = some 4 := by kernel_rfl
abbrev stC (s : St) : Array Value := #[u32v s.a, u32v s.b, u32v s.c, u32v s.d]
abbrev stV (s : St) : Value := .agg (stC s)
abbrev zC : Array Value := #[.int .u32 0, .int .u32 0, .int .u32 0, .int .u32 0]
theorem stC_one (s : St) : (stC s).all (·.oneCell') = true := by simp [Value.oneCell']
section
attribute [local go_sem] r_xor r_add r_add1 r_stamp
set_option maxHeartbeats 400000 in
theorem round_any (s : St) (k : Nat) (w : World) (ht : Tab w) : Calls Tryz.prog 142 #[stV s, u32v (BitVec.ofNat 32 k)] w fun e w' => e = .returned (stV (rnd k s)) ∧ Below w.heap.size w w' := by
  have hb : Below w.heap.size w ((w.alloc (.cells (stC s) 24)).alloc (.cells #[.int .u32 0, .int .u32 0, .int .u32 0, .int .u32 0] 24)) := bl_alloc (bl_alloc (Below.refl _ _) _) _
  have hK : rnd k s = (let a1 := s.a + s.b
    let d1 := rot (s.d ^^^ a1) 16
    let c1 := s.c + d1
    let b1 := rot (s.b ^^^ c1) 12
    let a2 := a1 + b1
    let d2 := rot (d1 ^^^ a2) 8
    let c2 := c1 + d2
    let b2 := rot (b1 ^^^ c2) 7
    ⟨b2, c2, d2, a2 ^^^ (BitVec.ofNat 32 k + 1#32) * 2654435769#32⟩) := rfl
  rw [hK]
  simp only []
  clear hK
  generalize BitVec.ofNat 32 k = q
  obtain ⟨a, b, c, d⟩ := s
  have ht1 := ht.below hb (Nat.le_refl _)
  obtain ⟨l0, t0, t1, t2, t3⟩ := ht
  have hB : Blk ((w.alloc (.cells (stC ⟨a, b, c, d⟩) 24)).alloc (.cells zC 24)) w.heap.size 24 (stC ⟨a, b, c, d⟩) := Blk.alloc (Blk.new rfl) _
  have hZ : Blk ((w.alloc (.cells (stC ⟨a, b, c, d⟩) 24)).alloc (.cells zC 24)) (w.heap.size + 1) 24 zC := Blk.new (by simp)
  replace hZ := hide hZ
  replace hB := hide hB; replace hb := hide hb; replace ht1 := hide ht1
  go_enter Tryz.func142, Tryz.ntmps142
  go_upto_region 1 with (fail)
  generalize hW : World.alloc (World.alloc w _) _ = W at *
  have c0 : W.cell? ⟨w.heap.size, 0, none⟩ = some (u32v a) := by rw [(unhide hB).cell]; rfl
  have c1 : W.cell? ⟨w.heap.size, 1, none⟩ = some (u32v b) := by rw [(unhide hB).cell]; rfl
  have c2 : W.cell? ⟨w.heap.size, 2, none⟩ = some (u32v c) := by rw [(unhide hB).cell]; rfl
  have c3 : W.cell? ⟨w.heap.size, 3, none⟩ = some (u32v d) := by rw [(unhide hB).cell]; rfl
  obtain ⟨l1, e0, e1, e2, e3⟩ := unhide ht1
  clear t0 t1 t2 t3 hW
  go_quiet (fail)
  have tok1 : True := trivial
  have tok2 : True := trivial
  have tok3 : True := trivial
  have tok4 : True := trivial
  go_wp2_with (first
    | (go_at_call 145; have _t := tok1; simp only [r_add]; refine (rotl16_any _ _).mono ?_; rintro e w1 ⟨rfl, rfl⟩; clear tok1 _t)
    | (go_at_call 145; have _t := tok2; simp only [r_add]; refine (rotl12_any _ _).mono ?_; rintro e w1 ⟨rfl, rfl⟩; clear tok2 _t)
    | (go_at_call 145; have _t := tok3; simp only [r_add]; refine (rotl8_any _ _).mono ?_; rintro e w1 ⟨rfl, rfl⟩; clear tok3 _t)
    | (go_at_call 145; have _t := tok4; simp only [r_add]; refine (rotl7_any _ _).mono ?_; rintro e w1 ⟨rfl, rfl⟩; clear tok4 _t)
    | (refine wpList_store_row rfl 24 (.tmp 4) (.tmp 62) rfl (w.heap.size + 1) (stC ⟨_, _, _, _⟩) rfl rfl 24 zC ((unhide hZ).drewN nq) size24 rfl (stC_one _) ?_)
    | fail)
  exact bodyPost_ret (v := stV _) (results_cell_row Tryz.results142 _ _ _ _ _ (0, 0) _ rfl (((unhide hZ).drewN nq).row _) Tryz.underlying24 rfl size24) rfl ⟨rfl, bl_row (below_drewN (unhide hb) nq) _ (by omega)⟩
end
end Go.Proofs.YthkccpemgmpadaaGreatDoor

namespace Go.Proofs.YthkccpemgmpadaaGreatDoor
set_option maxRecDepth 100000
open Go.RowKit
section
attribute [local go_sem] r_xor r_add r_sub r_add1 r_stamp
set_option maxHeartbeats 400000 in
theorem roundR_any (s : St) (k : Nat) (w : World) : Calls Tryz.prog 132 #[stV s, u32v (BitVec.ofNat 32 k)] w fun e w' => e = .returned (stV (rnd k s)) ∧ Below w.heap.size w w' := by
  have hb : Below w.heap.size w ((w.alloc (.cells (stC s) 24)).alloc (.cells #[.int .u32 0, .int .u32 0, .int .u32 0, .int .u32 0] 24)) := bl_alloc (bl_alloc (Below.refl _ _) _) _
  have hK : rnd k s = (let a1 := s.a + s.b
    let d1 := rot (s.d ^^^ a1) 16
    let c1 := s.c + d1
    let b1 := rot (s.b ^^^ c1) 12
    let a2 := a1 + b1
    let d2 := rot (d1 ^^^ a2) 8
    let c2 := c1 + d2
    let b2 := rot (b1 ^^^ c2) 7
    ⟨b2, c2, d2, a2 ^^^ (BitVec.ofNat 32 k + 1#32) * 2654435769#32⟩) := rfl
  rw [hK]
  simp only []
  clear hK
  generalize BitVec.ofNat 32 k = q
  obtain ⟨a, b, c, d⟩ := s
  have hB : Blk ((w.alloc (.cells (stC ⟨a, b, c, d⟩) 24)).alloc (.cells zC 24)) w.heap.size 24 (stC ⟨a, b, c, d⟩) := Blk.alloc (Blk.new rfl) _
  have hZ : Blk ((w.alloc (.cells (stC ⟨a, b, c, d⟩) 24)).alloc (.cells zC 24)) (w.heap.size + 1) 24 zC := Blk.new (by simp)
  replace hZ := hide hZ
  replace hB := hide hB; replace hb := hide hb
  go_enter Tryz.func132, Tryz.ntmps132
  go_upto_region 1 with (fail)
  generalize hW : World.alloc (World.alloc w _) _ = W at *
  have c0 : W.cell? ⟨w.heap.size, 0, none⟩ = some (u32v a) := by rw [(unhide hB).cell]; rfl
  have c1 : W.cell? ⟨w.heap.size, 1, none⟩ = some (u32v b) := by rw [(unhide hB).cell]; rfl
  have c2 : W.cell? ⟨w.heap.size, 2, none⟩ = some (u32v c) := by rw [(unhide hB).cell]; rfl
  have c3 : W.cell? ⟨w.heap.size, 3, none⟩ = some (u32v d) := by rw [(unhide hB).cell]; rfl
  clear hW
  have tok1 : True := trivial
  have tok2 : True := trivial
  have tok3 : True := trivial
  have tok4 : True := trivial
  go_wp2_with (first
    | (go_at_call 138; have _t := tok1; simp only [r_add]; refine (turned16_any _ _).mono ?_; rintro e w1 ⟨rfl, m1, rfl⟩; clear tok1 _t)
    | (go_at_call 138; have _t := tok2; simp only [r_add]; refine (turned12_any _ _).mono ?_; rintro e w1 ⟨rfl, m2, rfl⟩; clear tok2 _t)
    | (go_at_call 138; have _t := tok3; simp only [r_add]; refine (turned8_any _ _).mono ?_; rintro e w1 ⟨rfl, m3, rfl⟩; clear tok3 _t)
    | (go_at_call 138; have _t := tok4; simp only [r_add]; refine (turned7_any _ _).mono ?_; rintro e w1 ⟨rfl, m4, rfl⟩; clear tok4 _t)
    | (refine wpList_store_row rfl 24 (.tmp 4) (.tmp 51) rfl (w.heap.size + 1) (stC ⟨_, _, _, _⟩) rfl rfl 24 zC ((unhide hZ).drewN (m1 + m2 + m3 + m4)) size24 rfl (stC_one _) ?_)
    | fail)
  exact bodyPost_ret (v := stV _) (results_cell_row Tryz.results132 _ _ _ _ _ (0, 0) _ rfl (((unhide hZ).drewN (m1 + m2 + m3 + m4)).row _) Tryz.underlying24 rfl size24) rfl ⟨rfl, bl_row (below_drewN (unhide hb) _) _ (by omega)⟩
end
end Go.Proofs.YthkccpemgmpadaaGreatDoor

namespace Go.Proofs.YthkccpemgmpadaaGreatDoor
set_option maxRecDepth 100000
open Go.RowKit
theorem u32_lit {k : Nat} (h : k < 4294967296) : Value.int .u32 (k : Int) = u32v (BitVec.ofNat 32 k) := by rw [n32_lit k h]
set_option maxHeartbeats 1000000 in
theorem perm_any (s : St) (w : World) (ht : Tab w) : Calls Tryz.prog 136 #[stV s] w fun e w' => e = .returned (stV (permF s)) ∧ Below w.heap.size w w' := by
  have hr := fun (k : Nat) (hk : k < 8) (S : St) W (hb : Below w.heap.size w W) => show Calls Tryz.prog 142 #[stV S, .int .u32 ((k : Nat) : Int)] W _ by rw [u32_lit (by omega)]; exact round_any S k W (ht.below hb (Nat.le_refl _))
  have hb : Below w.heap.size w ((w.alloc (.cells (stC s) 24)).alloc (.cells zC 24)) := bl_alloc (bl_alloc (Below.refl _ _) _) _
  have hB : Blk ((w.alloc (.cells (stC s) 24)).alloc (.cells zC 24)) w.heap.size 24 (stC (rnds 0 s)) := Blk.alloc (Blk.new rfl) _
  have hZ : Blk ((w.alloc (.cells (stC s) 24)).alloc (.cells zC 24)) (w.heap.size + 1) 24 zC := Blk.new (by simp)
  replace hZ := hide hZ; replace hB := hide hB; replace hb := hide hb; replace hr := hide hr
  go_enter Tryz.func136, Tryz.ntmps136
  go_upto_region 1 with (fail)
  generalize hW : World.alloc (World.alloc w _) _ = W at *
  clear hW
  go_wp2
  go_loopw [4] (fun i wr => ∃ k : Nat, k ≤ 8 ∧ i = .int .u32 k ∧ Hid (Blk wr w.heap.size 24 (stC (rnds k s))) ∧ Hid (Blk wr (w.heap.size + 1) 24 zC) ∧ Hid (Below w.heap.size w wr)) (fun i _ => 8 - (intOf i).toNat)
  case atStart => exact ⟨0, by omega, rfl, hB, hZ, hb⟩
  case round =>
    obtain ⟨k, hk, rfl, B0, B1, b⟩ := hrel
    by_cases hlt : k < 8
    · have hcall := unhide hr k hlt (rnds k s) wr (unhide b)
      have l0 := (unhide B0).lt
      have l1 := (unhide B1).lt
      have hn : rnd k (rnds k s) = rnds (k + 1) s := rfl
      have k1 : (k : Int) < 8 := by omega
      have k2 : (0 : Int) ≤ (k : Int) := by omega
      skip
      replace hn := hide hn
      generalize rnds k s = S at *
      generalize hS' : rnd k S = S' at *
      clear hS'
      replace hcall := hide hcall
      go_wp2_with (first
        | (refine wpList_load_row rfl 24 (.tmp 1) rfl w.heap.size rfl 24 (stC S) (0, 0) _ (unhide B0) Tryz.underlying24 rfl size24 ?_)
        | (go_at_call 142; refine (unhide hcall).mono ?_; rintro e w1 ⟨rfl, hb1⟩; have C0 := Blk.below (unhide B0) hb1 l0; have C1 := Blk.below (unhide B1) hb1 l1; have bb := bl_call (unhide b) hb1; replace C0 := hide C0; replace C1 := hide C1; replace bb := hide bb)
        | (refine wpList_store_row rfl 24 (.tmp 1) (.tmp 9) rfl w.heap.size (stC S') rfl rfl 24 (stC S) (unhide C0) size24 rfl (stC_one _) ?_)
        | fail)
      have D0 := (unhide C0).row (stC S')
      have D1 := (unhide C1).row_other (g' := w.heap.size) (stC S') (by omega)
      have db := bl_row (g := w.heap.size) (unhide bb) (stC S') (Nat.le_refl _)
      rw [unhide hn] at D0 D1 db ⊢
      go_roundw
      case rel => exact ⟨k + 1, by omega, by go_num, D0, D1, db⟩
      case measure => simp [intOf]; omega
    · obtain rfl : k = 8 := by omega
      have hs : rnds 8 s = permF s := rfl
      rw [hs] at B0
      clear hs
      obtain ⟨S, hS⟩ : ∃ S, S = permF s := ⟨_, rfl⟩
      rw [← hS] at B0
      replace hS := hide hS
      go_wp2_with (first
        | (refine wpList_load_row rfl 24 (.tmp 1) rfl w.heap.size rfl 24 (stC S) (0, 0) _ (unhide B0) Tryz.underlying24 rfl size24 ?_)
        | (refine wpList_store_row rfl 24 (.tmp 2) (.tmp 11) rfl (w.heap.size + 1) (stC S) rfl rfl 24 zC (unhide B1) size24 rfl (stC_one _) ?_)
        | fail)
      exact bodyPost_ret (v := stV _) (results_cell_row Tryz.results136 _ _ _ _ _ (0, 0) _ rfl ((unhide B1).row _) Tryz.underlying24 rfl size24) rfl ⟨by rw [unhide hS], bl_row (unhide b) _ (by omega)⟩
set_option maxHeartbeats 1000000 in
theorem permR_any (s : St) (w : World) : Calls Tryz.prog 113 #[stV s] w fun e w' => e = .returned (stV (permF s)) ∧ Below w.heap.size w w' := by
  have hr := fun (k : Nat) (hk : k < 8) (S : St) W (hb : Below w.heap.size w W) => show Calls Tryz.prog 132 #[stV S, .int .u32 ((k : Nat) : Int)] W _ by rw [u32_lit (by omega)]; exact roundR_any S k W
  have hb : Below w.heap.size w ((w.alloc (.cells (stC s) 24)).alloc (.cells zC 24)) := bl_alloc (bl_alloc (Below.refl _ _) _) _
  have hB : Blk ((w.alloc (.cells (stC s) 24)).alloc (.cells zC 24)) w.heap.size 24 (stC (rnds 0 s)) := Blk.alloc (Blk.new rfl) _
  have hZ : Blk ((w.alloc (.cells (stC s) 24)).alloc (.cells zC 24)) (w.heap.size + 1) 24 zC := Blk.new (by simp)
  replace hZ := hide hZ; replace hB := hide hB; replace hb := hide hb; replace hr := hide hr
  go_enter Tryz.func113, Tryz.ntmps113
  go_upto_region 1 with (fail)
  generalize hW : World.alloc (World.alloc w _) _ = W at *
  clear hW
  go_wp2
  go_loopw [4] (fun i wr => ∃ k : Nat, k ≤ 8 ∧ i = .int .i64 k ∧ Hid (Blk wr w.heap.size 24 (stC (rnds k s))) ∧ Hid (Blk wr (w.heap.size + 1) 24 zC) ∧ Hid (Below w.heap.size w wr)) (fun i _ => 8 - (intOf i).toNat)
  case atStart => exact ⟨0, by omega, rfl, hB, hZ, hb⟩
  case round =>
    obtain ⟨k, hk, rfl, B0, B1, b⟩ := hrel
    by_cases hlt : k < 8
    · have hcall := unhide hr k hlt (rnds k s) wr (unhide b)
      have l0 := (unhide B0).lt
      have l1 := (unhide B1).lt
      have hn : rnd k (rnds k s) = rnds (k + 1) s := rfl
      have k1 : (k : Int) < 8 := by omega
      have k2 : (0 : Int) ≤ (k : Int) := by omega
      skip
      replace hn := hide hn
      generalize rnds k s = S at *
      generalize hS' : rnd k S = S' at *
      clear hS'
      replace hcall := hide hcall
      go_wp2_with (first
        | (refine wpList_load_row rfl 24 (.tmp 1) rfl w.heap.size rfl 24 (stC S) (0, 0) _ (unhide B0) Tryz.underlying24 rfl size24 ?_)
        | (go_at_call 132; refine (unhide hcall).mono ?_; rintro e w1 ⟨rfl, hb1⟩; have C0 := Blk.below (unhide B0) hb1 l0; have C1 := Blk.below (unhide B1) hb1 l1; have bb := bl_call (unhide b) hb1; replace C0 := hide C0; replace C1 := hide C1; replace bb := hide bb)
        | (refine wpList_store_row rfl 24 (.tmp 1) (.tmp 10) rfl w.heap.size (stC S') rfl rfl 24 (stC S) (unhide C0) size24 rfl (stC_one _) ?_)
        | fail)
      have D0 := (unhide C0).row (stC S')
      have D1 := (unhide C1).row_other (g' := w.heap.size) (stC S') (by omega)
      have db := bl_row (g := w.heap.size) (unhide bb) (stC S') (Nat.le_refl _)
      rw [unhide hn] at D0 D1 db ⊢
      go_roundw
      case rel => exact ⟨k + 1, by omega, by go_num, D0, D1, db⟩
      case measure => simp [intOf]; omega
    · obtain rfl : k = 8 := by omega
      have hs : rnds 8 s = permF s := rfl
      rw [hs] at B0
      clear hs
      obtain ⟨S, hS⟩ : ∃ S, S = permF s := ⟨_, rfl⟩
      rw [← hS] at B0
      replace hS := hide hS
      go_wp2_with (first
        | (refine wpList_load_row rfl 24 (.tmp 1) rfl w.heap.size rfl 24 (stC S) (0, 0) _ (unhide B0) Tryz.underlying24 rfl size24 ?_)
        | (refine wpList_store_row rfl 24 (.tmp 2) (.tmp 12) rfl (w.heap.size + 1) (stC S) rfl rfl 24 zC (unhide B1) size24 rfl (stC_one _) ?_)
        | fail)
      exact bodyPost_ret (v := stV _) (results_cell_row Tryz.results113 _ _ _ _ _ (0, 0) _ rfl ((unhide B1).row _) Tryz.underlying24 rfl size24) rfl ⟨by rw [unhide hS], bl_row (unhide b) _ (by omega)⟩
end Go.Proofs.YthkccpemgmpadaaGreatDoor

namespace Go.Proofs.YthkccpemgmpadaaGreatDoor
set_option maxRecDepth 100000
open Go.RowKit
def sg (s : St) : Nat → Reg
  | 0 => s.a
  | 1 => s.b
  | 2 => s.c
  | _ => s.d
def octA (s : St) : Nat → List UInt8
  | 0 => []
  | k + 1 => octA s k ++ oct (sg s k)
theorem octA_len (s : St) (k : Nat) : (octA s k).length = 4 * k := by
  induction k with
  | zero => rfl
  | succ k ih => rw [octA, List.length_append, ih, oct_len]; omega
theorem run_index24 (s : St) (k : Nat) (h : k < 4) (W : World) : (Instr.index 24 (stV s) (.int .i64 (k : Int))).run Tryz.prog W = .ok (u32v (sg s k)) W := by
  have hs : (sizeOf 22).run Tryz.prog W = .ok 1 W := by kernel_rfl
  have h1 : (0 : Int) ≤ (k : Int) ∧ (k : Int) < ((4 : Nat) : Int) := by omega
  match k, h with
  | 0, _ => simp [Instr.index, asIntOf, run_underlying Tryz.underlying24, hs, part, sg]
  | 1, _ => simp [Instr.index, asIntOf, run_underlying Tryz.underlying24, hs, part, sg]
  | 2, _ => simp [Instr.index, asIntOf, run_underlying Tryz.underlying24, hs, part, sg]
  | 3, _ => simp [Instr.index, asIntOf, run_underlying Tryz.underlying24, hs, part, sg]
theorem run_mk0 {P : Program} (t e : TypeId) (i : TypeInfo) (z : Value) (size : Nat) (ht : P.underlying t = some (.slice e)) (hi : P.info? e = some i) (hz : i.zero = some z) (hsize : i.size = size)
    (c : Nat) (hbytes : i.bytes * c ≤ 281474976710656) (h63 : c ≤ 9223372036854775807) (W : World) :
    (Instr.makeSlice t (.int .i64 0) (.int .i64 (c : Int))).run P W = .ok (.slice (some ⟨W.heap.size, 0, none⟩) 0 c) (W.alloc (.cells (madeCells z.cells (c * size)) e)) := by
  subst hsize
  have hb' : (i.bytes : Int) * (c : Int) ≤ 281474976710656 := by
    have h : ((i.bytes * c : Nat) : Int) ≤ 281474976710656 := by omega
    rwa [Int.natCast_mul] at h
  have hr := run_make (P := P) W t e i z ht hi hz .i64 .i64 0 c (by omega) (by omega) hb' (by omega)
  simp only [Int.toNat_natCast] at hr
  exact hr
theorem mk8 (c : Nat) (hc : c ≤ 1000000) (W : World) : ∃ cs : Array Value, cs.size = c * 1 ∧ (Instr.makeSlice 29 (.int .i64 0) (.int .i64 (c : Int))).run Tryz.prog W = .ok (.slice (some ⟨W.heap.size, 0, none⟩) 0 c) (W.alloc (.cells cs 5)) := by
  obtain ⟨i0, hi0, hz0, hz1, hz2⟩ := info_parts info5
  have h := run_mk0 (P := Tryz.prog) 29 5 i0 _ 1 Tryz.underlying29 hi0 hz0 hz1 c (by rw [hz2]; omega) (by omega) W
  exact ⟨_, by simp [madeCells, Value.cells], h⟩
set_option maxHeartbeats 1000000 in
theorem Octets_any (s : St) (w : World) : Calls Tryz.prog 61 #[stV s] w fun e w' => ∃ v, e = .returned v ∧ OwnB w' w.heap.size v (octs4 s) ∧ Below w.heap.size w w' := by
  have hB : Blk (w.alloc (.cells (stC s) 24)) w.heap.size 24 (stC s) := Blk.new rfl
  have hb : Below w.heap.size w (w.alloc (.cells (stC s) 24)) := bl_alloc (Below.refl _ _) _
  have hsz : (w.alloc (.cells (stC s) 24)).heap.size = w.heap.size + 1 := by simp
  replace hB := hide hB; replace hb := hide hb; replace hsz := hide hsz
  go_enter Tryz.func61, Tryz.ntmps61
  go_upto_region 1 with (fail)
  generalize hW : World.alloc w _ = W at *
  clear hW
  obtain ⟨cs, hcs, hmk⟩ := show ∃ cs : Array Value, cs.size = 16 * 1 ∧ (Instr.makeSlice 29 (.int .i64 0) (.int .i64 16)).run Tryz.prog W = .ok (.slice (some ⟨W.heap.size, 0, none⟩) 0 16) (W.alloc (.cells cs 5)) from mk8 16 (by omega) W
  have hown : OwnB (W.alloc (.cells cs 5)) w.heap.size (.slice (some ⟨W.heap.size, 0, none⟩) 0 16) (octA s 0) := own_fresh W _ _ 5 1 16 cs rfl (by rw [unhide hsz]; omega) (by simp [maxLen]) hcs
  have hb1 : Below w.heap.size w (W.alloc (.cells cs 5)) := bl_alloc (unhide hb) _
  have hB1 : Blk (W.alloc (.cells cs 5)) w.heap.size 24 (stC s) := Blk.alloc (unhide hB) _
  have hix := run_index24 s
  have hg : W.heap.size = w.heap.size + 1 := unhide hsz
  rw [hg] at hown hmk
  replace hown := hide hown; replace hb1 := hide hb1; replace hB1 := hide hB1; replace hix := hide hix; replace hcs := hide hcs
  clear hB hb hsz hg
  go_upto_region 2 with (fail)
  generalize hW1 : World.alloc W _ = W1 at *
  clear hW1 hmk
  go_wp2_with (first
    | (refine wpList_load_row rfl 24 (.tmp 1) rfl w.heap.size rfl 24 (stC s) (0, 0) _ (unhide hB1) Tryz.underlying24 rfl size24 ?_)
    | fail)
  go_loopw [3, 8] (fun v i wr => ∃ k : Nat, k ≤ 4 ∧ i = .int .i64 k ∧ (∃ A c, v = .slice A (4 * k) c) ∧ Hid (OwnB wr w.heap.size v (octA s k)) ∧ Hid (Below w.heap.size w wr)) (fun _ i _ => 4 - (intOf i).toNat)
  case atStart => exact ⟨0, by omega, rfl, ⟨_, _, rfl⟩, hown, hb1⟩
  case round =>
    obtain ⟨k, hk, rfl, ⟨A, c, rfl⟩, o, b⟩ := hrel
    by_cases hlt : k < 4
    · have hx := unhide hix k hlt
      have hn : octA s k ++ oct (sg s k) = octA s (k + 1) := rfl
      have hl := octA_len s (k + 1)
      have hcall := tell_any w.heap.size _ (octA s k) (sg s k) wr (unhide o) (unhide b).size (by rw [octA_len]; omega)
      rw [hn] at hcall
      have k1 : (k : Int) < 4 := by omega
      generalize sg s k = q at *
      replace hcall := hide hcall; replace hl := hide hl
      clear hn
      go_wp2_with (first
        | (go_at_call 96; refine (unhide hcall).mono ?_; rintro e w1 ⟨v1, rfl, o1, hb1⟩; obtain ⟨A1, c1, rfl⟩ := o1.form; replace o1 := hide o1)
        | fail)
      go_roundw
      case rel => exact ⟨k + 1, by omega, by go_num, ⟨A1, c1, by rw [unhide hl]⟩, o1, (unhide b).trans hb1⟩
      case measure => simp [intOf]; omega
    · obtain rfl : k = 4 := by omega
      go_wp2
      go_ret
      exact ⟨_, rfl, unhide o, unhide b⟩
end Go.Proofs.YthkccpemgmpadaaGreatDoor

namespace Go.Proofs.YthkccpemgmpadaaGreatDoor
set_option maxRecDepth 100000
open Go.RowKit
theorem octC_src (w : World) (q : Reg) : SrcOk (w.alloc (.cells (octC q) 5)) (some ⟨w.heap.size, 0, none⟩) 4 ((oct q).map u8v) := oct_src (t := 5) (Blk.new rfl)
theorem own_app {w : World} {base : Nat} {v : Value} {l m : List UInt8} {n : Nat} (h : w.ownsRow base 5 1 v n (l.map u8v ++ m.map u8v)) (hn : n = (l ++ m).length) : OwnB w base v (l ++ m) := by
  rw [← List.map_append] at h
  subst hn
  exact h
set_option maxHeartbeats 1000000 in
theorem OctetsR_any (s : St) (w : World) : Calls Tryz.prog 67 #[stV s] w fun e w' => ∃ v, e = .returned v ∧ OwnB w' w.heap.size v (octs4 s) ∧ Below w.heap.size w w' := by
  obtain ⟨i0, hi0, hz0, hz1, hz2⟩ := info_parts info5
  have hB : Blk (w.alloc (.cells (stC s) 24)) w.heap.size 24 (stC s) := Blk.new rfl
  have hb : Below w.heap.size w (w.alloc (.cells (stC s) 24)) := bl_alloc (Below.refl _ _) _
  have hown : OwnB (w.alloc (.cells (stC s) 24)) w.heap.size (.slice none 0 0) (octA s 0) := World.ownsRow_nil _ _ _ _
  have hix := run_index24 s
  have ho2 := fun x => u8s_one (oct x)
  replace hB := hide hB; replace hb := hide hb; replace hix := hide hix; replace hown := hide hown; replace ho2 := hide ho2
  go_enter Tryz.func67, Tryz.ntmps67
  go_upto_region 1 with (fail)
  generalize hW : World.alloc w _ = W at *
  clear hW
  go_wp2_with (first
    | (refine wpList_load_row rfl 24 (.tmp 1) rfl w.heap.size rfl 24 (stC s) (0, 0) _ (unhide hB) Tryz.underlying24 rfl size24 ?_)
    | fail)
  go_loopw [3, 7] (fun v i wr => ∃ k : Nat, k ≤ 4 ∧ i = .int .i64 k ∧ (∃ A c, v = .slice A (4 * k) c) ∧ Hid (OwnB wr w.heap.size v (octA s k)) ∧ Hid (Below w.heap.size w wr)) (fun _ i _ => 4 - (intOf i).toNat)
  case atStart => exact ⟨0, by omega, rfl, ⟨_, _, rfl⟩, hown, hb⟩
  case round =>
    obtain ⟨k, hk, rfl, ⟨A, c, rfl⟩, o, b⟩ := hrel
    by_cases hlt : k < 4
    · have hx := unhide hix k hlt
      have hn : octA s k ++ oct (sg s k) = octA s (k + 1) := rfl
      have hl := octA_len s (k + 1)
      have hl0 := octA_len s k
      have b3 : (octA s k).length + 4 ≤ maxLen := by simp only [maxLen]; omega
      have b4 : ((octA s k).length + 4) * 1 ≤ 140737488355328 := by omega
      have k1 : (k : Int) < 4 := by omega
      generalize sg s k = q at *
      replace hl := hide hl; replace hl0 := hide hl0; replace b3 := hide b3; replace b4 := hide b4; replace hn := hide hn
      go_wp2_with (first
        | (go_at_call 104; refine (octetsR_any _ _).mono ?_; rintro e w1 ⟨rfl, rfl⟩)
        | (at_builtin
           refine wpList_app _ rfl (.tmp 10) (.tmp 12) 29 rfl w.heap.size 5 i0 _ 1 1 Tryz.underlying29 hi0 hz0 hz1 hz2 rfl (Nat.succ_pos _) _ (octA s k).length ((octA s k).map u8v) rfl ((unhide o).alloc _) (some ⟨wr.heap.size, 0, none⟩) 4 4 ((oct q).map u8v) rfl rfl (octC_src wr q) (unhide ho2 q) (unhide b3) (unhide b4) (le_alloc (unhide b).size) ?_
           intro v4 w4 hown4 hg4
           have hb4 : Below w.heap.size wr w4 := bl_app (unhide b).size (unhide o) hg4
           have o1 : OwnB w4 w.heap.size v4 (octA s k ++ oct q) := own_app hown4 (by rw [List.length_append, oct_len])
           rw [unhide hn] at o1
           obtain ⟨A1, c1, rfl⟩ := o1.form
           clear hown4 hg4
           replace o1 := hide o1)
        | fail)
      go_roundw
      case rel => exact ⟨k + 1, by omega, by go_num, ⟨A1, c1, by rw [unhide hl]⟩, o1, (unhide b).trans hb4⟩
      case measure => simp [intOf]; omega
    · obtain rfl : k = 4 := by omega
      go_wp2
      go_ret
      exact ⟨_, rfl, unhide o, unhide b⟩
end Go.Proofs.YthkccpemgmpadaaGreatDoor

namespace Go.Proofs.YthkccpemgmpadaaGreatDoor
set_option maxRecDepth 100000
open Go.RowKit
theorem eqInt22 (w : World) (d : Nat) (a b : Int) : (Op.equalIn (d + 1) 22 (.int .u32 a) (.int .u32 b)).run Tryz.prog w = .ok (a == b) w := run_equalIn_int w d 22 .u32 .u32 a b Tryz.underlying22
theorem part22_0 (w : World) (a b c d : Value) : (part 22 #[a, b, c, d] 0).run Tryz.prog w = .ok a w := by kernel_rfl
theorem part22_1 (w : World) (a b c d : Value) : (part 22 #[a, b, c, d] 1).run Tryz.prog w = .ok b w := by kernel_rfl
theorem part22_2 (w : World) (a b c d : Value) : (part 22 #[a, b, c, d] 2).run Tryz.prog w = .ok c w := by kernel_rfl
theorem part22_3 (w : World) (a b c d : Value) : (part 22 #[a, b, c, d] 3).run Tryz.prog w = .ok d w := by kernel_rfl
theorem size22 (w : World) : (sizeOf 22).run Tryz.prog w = .ok 1 w := by kernel_rfl
def sameS (s t : St) : Bool := decide (s = t)
theorem sameS_iff {s t : St} : sameS s t = true ↔ s = t := by simp [sameS]
theorem sameS_self (s : St) : sameS s s = true := sameS_iff.2 rfl
theorem same4_iff (s t : St) : (n32 s.a == n32 t.a && n32 s.b == n32 t.b && n32 s.c == n32 t.c && n32 s.d == n32 t.d) = sameS s t := by
  rw [Bool.eq_iff_iff, sameS_iff]
  simp only [Bool.and_eq_true, beq_iff_eq]
  constructor
  · rintro ⟨⟨⟨h0, h1⟩, h2⟩, h3⟩; exact St.eq (n32_inj h0) (n32_inj h1) (n32_inj h2) (n32_inj h3)
  · rintro rfl; exact ⟨⟨⟨rfl, rfl⟩, rfl⟩, rfl⟩
theorem equalIn_st (w : World) (s t : St) : (Op.equalIn 10000 24 (stV s) (stV t)).run Tryz.prog w = .ok (sameS s t) w := by
  rw [← same4_iff]
  obtain ⟨a, b, c, d⟩ := s
  obtain ⟨a', b', c', d'⟩ := t
  show (Op.equalIn 10000 24 (.agg #[.int .u32 (n32 a), .int .u32 (n32 b), .int .u32 (n32 c), .int .u32 (n32 d)]) (.agg #[.int .u32 (n32 a'), .int .u32 (n32 b'), .int .u32 (n32 c'), .int .u32 (n32 d')])).run Tryz.prog w = _
  simp only []
  generalize n32 a = xa, n32 b = xb, n32 c = xc, n32 d = xd, n32 a' = ya, n32 b' = yb, n32 c' = yc, n32 d' = yd
  rw [show (10000 : Nat) = 9998 + 1 + 1 from rfl, Op.equalIn]
  simp only [Sem.run_bind, run_underlying Tryz.underlying24, Result.andThen_ok, size22]
  simp only [Std.Legacy.Range.forIn_eq_forIn_range', Std.Legacy.Range.size, List.range', Nat.sub_zero, Nat.add_one_sub_one, Nat.div_one, List.forIn_cons, List.forIn_nil, Sem.run_bind, Nat.mul_one, part22_0, Result.andThen_ok, Nat.zero_add, Nat.reduceAdd, eqInt22]
  cases h0 : xa == ya <;> cases h1 : xb == yb <;> cases h2 : xc == yc <;> cases h3 : xd == yd <;> simp [part22_1, part22_2, part22_3, eqInt22, h1, h2, h3, Result.andThen]
theorem guard24 : Tryz.prog.eqGuardType Tryz.prog.depth 24 = false := by kernel_rfl
theorem elem28 : Tryz.prog.underlying 29 = some (.slice (Tryz.prog.elem 29)) := by kernel_rfl
theorem size5e : ∀ W, (sizeOf (Tryz.prog.elem 29)).run Tryz.prog W = .ok 1 W := fun W => by kernel_rfl
theorem slice_lh (A : Option Addr) (n c i j : Nat) (hij : i ≤ j) (hj : j ≤ c) (W : World) :
    (Instr.slice 29 (.slice A n c) (some (.int .i64 (i : Int))) (some (.int .i64 (j : Int))) none).run Tryz.prog W = .ok (sliced A i j c 1) W := by
  rw [run_slice_lh (P := Tryz.prog) W 29 A n c elem28 .i64 .i64 i j (by omega) (by omega) (by omega), size5e]
  simp [Result.andThen]
theorem slice_h (A : Option Addr) (n c j : Nat) (hj : j ≤ c) (W : World) :
    (Instr.slice 29 (.slice A n c) none (some (.int .i64 (j : Int))) none).run Tryz.prog W = .ok (sliced A 0 j c 1) W := by
  rw [run_slice_h (P := Tryz.prog) W 29 A n c elem28 .i64 j (by omega) (by omega), size5e]
  simp [Result.andThen]
theorem slice_l (A : Option Addr) (n c i : Nat) (hi : i ≤ n) (W : World) :
    (Instr.slice 29 (.slice A n c) (some (.int .i64 (i : Int))) none none).run Tryz.prog W = .ok (sliced A i n c 1) W := by
  rw [run_slice_l (P := Tryz.prog) W 29 A n c elem28 .i64 i (by omega) (by omega), size5e]
  simp [Result.andThen]
theorem Bs.part {lo hi : Nat} {w : World} {A : Option Addr} {n c : Nat} {l : List UInt8} (h : Bs lo hi w (.slice A n c) l) (i j : Nat) (hij : i ≤ j) (hj : j ≤ l.length) :
    ∃ A', sliced A i j c 1 = .slice A' (j - i) (c - i) ∧ Bs lo hi w (.slice A' (j - i) (c - i)) ((l.drop i).take (j - i)) := by
  obtain ⟨A0, c0, e, h1, h2, h3⟩ := h
  injection e with e1 e2 e3
  subst e1 e2 e3
  refine ⟨if c = i then A else A.map (·.add (i * 1)), rfl, ?_⟩
  have hlen : ((l.drop i).take (j - i)).length = j - i := by rw [List.length_take, List.length_drop]; omega
  refine ⟨_, c - i, by rw [hlen], by omega, by omega, fun h0 => ?_⟩
  obtain ⟨b, off, rfl, hb, hb', hc⟩ := h3 (by omega)
  refine ⟨b, off + i, ?_, hb, hb', fun k hk => ?_⟩
  · rw [if_neg (by omega), Nat.mul_one, Option.map_some, add_none]
  · rw [hlen] at hk
    have := hc (i + k) (by omega)
    rw [← Nat.add_assoc] at this
    rw [this]
    simp
theorem Bs.cut_lh {lo hi : Nat} {w : World} {A : Option Addr} {n c : Nat} {l : List UInt8} (h : Bs lo hi w (.slice A n c) l) (i j : Nat) (I J : Int) (hI : I = (i : Int)) (hJ : J = (j : Int)) (hij : i ≤ j) (hj : j ≤ l.length) :
    ∃ A' c', (∀ W, (Instr.slice 29 (.slice A n c) (some (.int .i64 I)) (some (.int .i64 J)) none).run Tryz.prog W = .ok (.slice A' (j - i) c') W) ∧ Bs lo hi w (.slice A' (j - i) c') ((l.drop i).take (j - i)) := by
  subst hI hJ
  obtain ⟨A', e, hb⟩ := h.part i j hij hj
  obtain ⟨A0, c0, e0, h1, _⟩ := h
  injection e0 with _ _ e3
  exact ⟨A', c - i, fun W => by rw [slice_lh A n c i j hij (by omega), e], hb⟩
theorem Bs.cut_h {lo hi : Nat} {w : World} {A : Option Addr} {n c : Nat} {l : List UInt8} (h : Bs lo hi w (.slice A n c) l) (j : Nat) (J : Int) (hJ : J = (j : Int)) (hj : j ≤ l.length) :
    ∃ A' c', (∀ W, (Instr.slice 29 (.slice A n c) none (some (.int .i64 J)) none).run Tryz.prog W = .ok (.slice A' j c') W) ∧ Bs lo hi w (.slice A' j c') (l.take j) := by
  subst hJ
  obtain ⟨A', e, hb⟩ := h.part 0 j (Nat.zero_le _) hj
  obtain ⟨A0, c0, e0, h1, _⟩ := h
  injection e0 with _ _ e3
  exact ⟨A', c, fun W => by rw [slice_h A n c j (by omega), e]; rfl, hb⟩
theorem Bs.cut_l {lo hi : Nat} {w : World} {A : Option Addr} {n c : Nat} {l : List UInt8} (h : Bs lo hi w (.slice A n c) l) (i : Nat) (I : Int) (hI : I = (i : Int)) (hi' : i ≤ l.length) :
    ∃ A' c', (∀ W, (Instr.slice 29 (.slice A n c) (some (.int .i64 I)) none none).run Tryz.prog W = .ok (.slice A' (l.length - i) c') W) ∧ Bs lo hi w (.slice A' (l.length - i) c') (l.drop i) := by
  subst hI
  obtain ⟨A', e, hb⟩ := h.part i l.length hi' (Nat.le_refl _)
  obtain ⟨A0, c0, e0, h1, _⟩ := h
  injection e0 with _ e2 e3
  subst e2
  rw [List.take_of_length_le (by simp)] at hb
  exact ⟨A', c - i, fun W => by rw [slice_l A _ c i hi', e], hb⟩
def strU (l : List UInt8) : ByteArray := strOfNums (l.map n8)
theorem Bs.convert {lo hi : Nat} {w : World} {v : Value} {l : List UInt8} (h : Bs lo hi w v l) : (convert 29 9 v).run Tryz.prog w = .ok (.string (strU l)) w := by
  obtain ⟨A, c, rfl, h1, h2, h3⟩ := h
  rcases Nat.eq_zero_or_pos l.length with h0 | h0
  · obtain rfl : l = [] := List.eq_nil_of_length_eq_zero h0
    rw [run_convert_bytes_string w 29 9 5 _ _ c Tryz.underlying29 Tryz.underlying5 Tryz.underlying9]
    cases A <;> simp [Conv.bytesToString, loadCells, loadCellsFrom, strU, strOfNums]
    all_goals rfl
  · obtain ⟨b, o, rfl, _, _, hc⟩ := h3 h0
    exact run_convert_bytes_arg (P := Tryz.prog) w 29 5 Tryz.underlying29 Tryz.underlying5 b o l.length c (l.map n8) (by simp) (fun i hi => by rw [hc i (by simpa using hi)]; simp [List.getD, List.getElem?_eq_getElem (show i < l.length by simpa using hi)]) 9 Tryz.underlying9
theorem strU_toList (l : List UInt8) : (strU l).toList = l := by
  have h := Lib.strOfNums_toList (l.map n8)
  have e : Lib.bytesOf (l.map n8) = l := by
    unfold Lib.bytesOf
    rw [List.map_map]
    conv => rhs; rw [← List.map_id l]
    apply List.map_congr_left
    intro x _
    simp [n8]
  exact h.trans e
theorem strU_eq (a b : List UInt8) : ((strU a).toList == (strU b).toList) = decide (a = b) := by
  have e1 : (strU a).toList = a := strU_toList a
  have e2 : (strU b).toList = b := strU_toList b
  rw [e1, e2, Bool.eq_iff_iff]; simp
set_option maxHeartbeats 400000 in
theorem same_any (lo hi lo' hi' : Nat) (v1 v2 : Value) (a b : List UInt8) (w : World) (h1 : Bs lo hi w v1 a) (h2 : Bs lo' hi' w v2 b) : Calls Tryz.prog 11 #[v1, v2] w fun e w' => e = .returned (.bool (decide (a = b))) ∧ w = w' := by
  have c1 := h1.convert
  have c2 := h2.convert
  clear h1 h2
  have hs := strU_eq a b
  go_enter Tryz.func11, Tryz.ntmps11
  go_wp2
  go_ret
  exact ⟨rfl, rfl⟩
theorem own_cut {w : World} {base : Nat} {A : Option Addr} {m c : Nat} {l : List UInt8} (h : OwnB w base (.slice A m c) l) (n : Nat) (J : Int) (hJ : J = (n : Int)) (hn : n ≤ l.length) :
    ∃ A' c', (∀ W, (Instr.slice 29 (.slice A m c) none (some (.int .i64 J)) none).run Tryz.prog W = .ok (.slice A' n c') W) ∧ OwnB w base (.slice A' n c') (l.take n) := by
  subst hJ
  obtain ⟨h1, h2⟩ := h
  have hlen : (l.take n).length = n := by rw [List.length_take]; omega
  rcases h2 with ⟨e, h0⟩ | ⟨g, cap, cur, e, hb, hg, hnc, hcm, hcs, htake⟩
  · injection e with e1 e2 e3
    subst e1 e2 e3
    obtain rfl : n = 0 := by omega
    refine ⟨none, 0, fun W => by rw [slice_h none 0 0 0 (by omega)]; rfl, ?_⟩
    have : l.take 0 = [] := rfl
    rw [this]
    exact World.ownsRow_nil _ _ _ _
  · injection e with e1 e2 e3
    subst e1 e2 e3
    refine ⟨some ⟨g, 0, none⟩, c, fun W => by rw [slice_h _ _ c n (by omega)]; simp [sliced, Addr.add], ?_⟩
    unfold OwnB
    rw [hlen]
    refine ⟨by simp; omega, .inr ⟨g, c, cur, rfl, hb, hg, by omega, hcm, hcs, ?_⟩⟩
    rw [Nat.mul_one] at htake ⊢
    rw [List.map_take, ← htake, List.take_take, Nat.min_eq_left hn]
end Go.Proofs.YthkccpemgmpadaaGreatDoor

namespace Go.Proofs.YthkccpemgmpadaaGreatDoor
set_option maxRecDepth 100000
open Go.RowKit
theorem ret_st2 {fn : Func} {p u : Tmp} {R : Ending → World → Prop} {a : Act} {w : World} (h : fn.results = #[.cell p 24, .tmp u]) (g : Nat) (s : St) (v : Value)
    (hp : a.tmps.getD p undef = .pointer (some ⟨g, 0, none⟩)) (hu : a.tmps.getD u undef = v) (hg : Blk w g 24 (stC s)) (hd : a.defers = []) (hR : R (.returned (.tuple #[stV s, v])) w) : bodyPost Tryz.prog fn R .ret a w := by
  refine bodyPost_ret (v := .tuple #[stV s, v]) ?_ hd hR
  rw [results_cell_tmp h, hp, hu]
  have hl := run_loadVar_row (P := Tryz.prog) w g 24 24 (stC s) (0, 0) _ hg Tryz.underlying24 rfl size24
  simp [asAddr, Result.andThen, hl]
def zS : St := ⟨0#32, 0#32, 0#32, 0#32⟩
def mixS (l : List UInt8) (k : Nat) : St := ⟨if 0 < k then four l else 0#32, if 1 < k then four (l.drop 4) else 0#32, if 2 < k then four (l.drop 8) else 0#32, if 3 < k then four (l.drop 12) else 0#32⟩
theorem mixS_all (l : List UInt8) : mixS l 4 = ofF l := by
  unfold mixS ofF
  simp only [four_take4]
  rfl
theorem mixS_get (l : List UInt8) (k : Nat) (h : k < 4) : (stC (mixS l k))[k]? = some (u32v 0#32) := by
  match k, h with
  | 0, _ => rfl
  | 1, _ => rfl
  | 2, _ => rfl
  | 3, _ => rfl
theorem mixS_set (l : List UInt8) (k : Nat) (h : k < 4) : (stC (mixS l k)).setIfInBounds k (u32v (four (l.drop (4 * k)))) = stC (mixS l (k + 1)) := by
  match k, h with
  | 0, _ => rfl
  | 1, _ => rfl
  | 2, _ => rfl
  | 3, _ => rfl
set_option maxHeartbeats 1000000 in
theorem Of_good (lo : Nat) (v : Value) (l : List UInt8) (w : World) (h : Bs lo w.heap.size w v l) (hl : l.length = 16) :
    Calls Tryz.prog 71 #[v] w fun e w' => e = .returned (.tuple #[stV (ofF l), .int .i64 0]) ∧ Below w.heap.size w w' := by
  obtain ⟨A, c, rfl⟩ : ∃ A c, v = .slice A 16 c := by obtain ⟨A, c, e, _⟩ := id h; exact ⟨A, c, by rw [e, hl]⟩
  have hB : Blk ((w.alloc (.cells zC 24)).alloc (.cells zC 24)) w.heap.size 24 zC := Blk.alloc (Blk.new rfl) _
  have hM : Blk ((w.alloc (.cells zC 24)).alloc (.cells zC 24)) (w.heap.size + 1) 24 (stC (mixS l 0)) := Blk.new (by simp)
  have hb : Below w.heap.size w ((w.alloc (.cells zC 24)).alloc (.cells zC 24)) := bl_alloc (bl_alloc (Below.refl _ _) _) _
  have hnum := fun (W : World) (hb : Below w.heap.size w W) (k : Nat) (hk : k < 4) =>
    show ∃ A' c', (∀ W, (Instr.slice 29 (.slice A 16 c) (some (.int .i64 (4 * (k : Int)))) none none).run Tryz.prog W = .ok (.slice A' (16 - 4 * k) c') W) ∧ Calls Tryz.prog 106 #[.slice A' (16 - 4 * k) c'] W (fun e w' => e = .returned (u32v (four (l.drop (4 * k)))) ∧ ∃ m, w' = W.drewN m) by
      obtain ⟨A', c', e, hb'⟩ := h.cut_l (4 * k) (4 * (k : Int)) (by omega) (by omega)
      rw [hl] at e hb'
      exact ⟨A', c', e, number_any _ _ _ _ W (hb'.below hb (Nat.le_refl _)) (by rw [List.length_drop]; omega)⟩
  replace hB := hide hB; replace hM := hide hM; replace hb := hide hb; replace hnum := hide hnum
  clear h hl
  go_enter Tryz.func71, Tryz.ntmps71
  go_upto_region 4 with (fail)
  generalize hW : World.alloc (World.alloc w _) _ = W at *
  clear hW
  go_wp2
  go_loopw [10] (fun i wr => ∃ k : Nat, k ≤ 4 ∧ i = .int .i64 k ∧ Hid (Blk wr (w.heap.size + 1) 24 (stC (mixS l k))) ∧ Hid (Blk wr w.heap.size 24 zC) ∧ Hid (Below w.heap.size w wr)) (fun i _ => 4 - (intOf i).toNat)
  case atStart => exact ⟨0, by omega, rfl, hM, hB, hb⟩
  case round =>
    obtain ⟨k, hk, rfl, M, B, b⟩ := hrel
    by_cases hlt : k < 4
    · obtain ⟨A', c', hsl, hcall⟩ := unhide hnum wr (unhide b) k hlt
      have hg := mixS_get l k hlt
      have hst := mixS_set l k hlt
      have cx : wr.cell? ⟨w.heap.size + 1, k, none⟩ = some (u32v 0#32) := by rw [(unhide M).cell]; exact hg
      have fx : wr.frozen? ⟨w.heap.size + 1, k, none⟩ = false := (unhide M).frozen k
      have k1 : (k : Int) < 4 := by omega
      have k0 : (0 : Int) ≤ (k : Int) := by omega
      have i1 : IntKind.i64.wrap (4 * (k : Int)) = 4 * (k : Int) := IntWalk.i64_in _ (by omega)
      generalize four (l.drop (4 * k)) = q at *
      replace hcall := hide hcall; replace hst := hide hst
      clear hg
      go_wp2_with (first
        | (go_at_call 106; refine (unhide hcall).mono ?_; rintro e w1 ⟨rfl, m1, rfl⟩)
        | fail)
      have M1 : Blk ((wr.drewN m1).setCell ⟨w.heap.size + 1, k, none⟩ (u32v q)) (w.heap.size + 1) 24 (stC (mixS l (k + 1))) := by rw [← unhide hst]; exact ((unhide M).drewN m1).set k (u32v q)
      have B1 : Blk ((wr.drewN m1).setCell ⟨w.heap.size + 1, k, none⟩ (u32v q)) w.heap.size 24 zC := ((unhide B).drewN m1).far (by simp) _
      have b1 : Below w.heap.size w ((wr.drewN m1).setCell ⟨w.heap.size + 1, k, none⟩ (u32v q)) := (below_drewN (unhide b) m1).setCell (by simp) _
      go_roundw
      case rel => exact ⟨k + 1, by omega, by go_num, M1, B1, b1⟩
      case measure => simp [intOf]; omega
    · obtain rfl : k = 4 := by omega
      have hs := mixS_all l
      rw [hs] at M
      clear hs
      obtain ⟨S, hS⟩ : ∃ S, S = ofF l := ⟨_, rfl⟩
      rw [← hS] at M
      replace hS := hide hS
      go_wp2_with (first
        | (refine wpList_load_row rfl 24 (.tmp 4) rfl (w.heap.size + 1) rfl 24 (stC S) (0, 0) _ (unhide M) Tryz.underlying24 rfl size24 ?_)
        | (refine wpList_store_row rfl 24 (.tmp 2) (.tmp 21) rfl w.heap.size (stC S) rfl rfl 24 zC (unhide B) size24 rfl (stC_one _) ?_)
        | fail)
      exact ret_st2 rfl w.heap.size S (.int .i64 0) rfl rfl ((unhide B).row _) rfl ⟨by rw [unhide hS], bl_row (unhide b) _ (Nat.le_refl _)⟩
end Go.Proofs.YthkccpemgmpadaaGreatDoor
