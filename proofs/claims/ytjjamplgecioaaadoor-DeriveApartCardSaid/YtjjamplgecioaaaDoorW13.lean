import Derived.Test.YtjjamplgecioaaaDoorW12
namespace Go.Proofs.YtjjamplgecioaaaDoor
open Go.RowKit

set_option maxHeartbeats 400000 in
theorem Absorb_long (lo : Nat) (s : St) (v : Value) (l : List UInt8) (w : World) (h : Bs lo w.heap.size w v l) (hl : 131072 < l.length) :
    Calls Tryd.prog 18 #[stV s, v] w fun e w' => e = .returned (.tuple #[stV zS, .int .i64 3]) ∧ Below w.heap.size w w' := by
  obtain ⟨A, c, rfl, _⟩ := h
  have h1 : (131072 : Int) < (l.length : Int) := by omega
  have hZ : Blk ((w.alloc (.cells (stC s) 24)).alloc (.cells zC 24)) (w.heap.size + 1) 24 zC := Blk.new (by simp)
  have hb : Below w.heap.size w ((w.alloc (.cells (stC s) 24)).alloc (.cells zC 24)) := bl_alloc (bl_alloc (Below.refl _ _) _) _
  replace hZ := hide hZ; replace hb := hide hb
  clear hl
  go_enter Tryd.func18, Tryd.ntmps18
  go_wp2_with (first
    | (refine wpList_store_row rfl 24 (.tmp 4) (.tmp 11) rfl (w.heap.size + 1) zC rfl rfl 24 zC (unhide hZ) size24 rfl (stC_one zS) ?_)
    | fail)
  exact ret_st2 rfl (w.heap.size + 1) zS _ rfl rfl ((unhide hZ).row _) rfl ⟨rfl, bl_row (unhide hb) _ (by omega)⟩

/-- What stands in the last eight octets, once those that are left are copied. -/
theorem pad_cells {l : List UInt8} (hl : l.length < 8) : (splice (List.replicate 8 (Value.int .u8 0)) 0 (l.map u8v)).toArray.setIfInBounds l.length (.int .u8 128) = ((padF l).map u8v).toArray := by
  have e : l.length % 8 = l.length := Nat.mod_eq_of_lt hl
  rw [List.setIfInBounds_toArray]
  congr 1
  unfold splice padF
  simp only [List.take_zero, List.nil_append, List.length_map, Nat.zero_add, List.map_append, List.map_cons, List.map_replicate, e, List.drop_replicate]
  rw [List.set_append_right _ _ (by simp)]
  congr 1
  rw [List.length_map, Nat.sub_self]
  have : 8 - l.length = (7 - l.length) + 1 := by omega
  rw [this, List.replicate_succ]
  rfl
theorem pad_zero {l : List UInt8} (hl : l.length < 8) : (splice (List.replicate 8 (Value.int .u8 0)) 0 (l.map u8v)).toArray[l.length]? = some (.int .u8 0) := by
  unfold splice
  simp only [List.take_zero, List.nil_append, List.length_map, Nat.zero_add, List.drop_replicate]
  rw [List.getElem?_toArray, List.getElem?_append_right (by simp), List.length_map, Nat.sub_self, List.getElem?_replicate, if_pos (by omega)]
theorem absorb_last {s : St} {l : List UInt8} (hl : l.length < 8) : absorbF s l = inF s (padF l) := by
  unfold absorbF
  have : l.length / 8 + 1 = 1 := by omega
  rw [this]; rfl
theorem pad_len8 {l : List UInt8} (hl : l.length < 8) : (padF l).length = 8 := by rw [pad_len]; omega
theorem Bs.of_blk {w : World} {g n : Nat} {t : TypeId} {l : List UInt8} (h : Blk w g t (l.map u8v).toArray) (hn : n = l.length) (h63 : n ≤ 1000000) : Bs 0 w.heap.size w (.slice (some ⟨g, 0, none⟩) n n) l := by
  subst hn
  refine ⟨_, _, rfl, Nat.le_refl _, by omega, fun _ => ⟨g, 0, rfl, Nat.zero_le _, h.lt, fun i hi => ?_⟩⟩
  rw [h.cell]
  simp [hi]

set_option maxHeartbeats 1000000 in
theorem Absorb_good (lo : Nat) (s : St) (v : Value) (l : List UInt8) (w : World) (ht : Tab w) (h : Bs lo w.heap.size w v l) (hl : l.length ≤ 131072) :
    Calls Tryd.prog 18 #[stV s, v] w fun e w' => e = .returned (.tuple #[stV (absorbF s l), .int .i64 0]) ∧ Below w.heap.size w w' := by
  obtain ⟨A, c, rfl⟩ : ∃ A c, v = .slice A l.length c := by obtain ⟨A, c, e, _⟩ := id h; exact ⟨A, c, e⟩
  have hB : Blk ((w.alloc (.cells (stC s) 24)).alloc (.cells zC 24)) w.heap.size 24 (stC s) := Blk.alloc (Blk.new rfl) _
  have hZ : Blk ((w.alloc (.cells (stC s) 24)).alloc (.cells zC 24)) (w.heap.size + 1) 24 zC := Blk.new (by simp)
  have hb : Below w.heap.size w ((w.alloc (.cells (stC s) 24)).alloc (.cells zC 24)) := bl_alloc (bl_alloc (Below.refl _ _) _) _
  have hp := fun S v l' W' (hb : Below w.heap.size w W') (h : Bs lo w.heap.size w v l') (hl : l'.length = 8) => takeIn_any lo S v l' W' (ht.below hb (Nat.le_refl _)) ((h.below hb (Nat.le_refl _)).mono (Nat.le_refl _) hb.size) hl
  have hp2 := fun S v l' W' (hb : Below w.heap.size w W') (h : Bs 0 W'.heap.size W' v l') (hl : l'.length = 8) => takeIn_any 0 S v l' W' (ht.below hb (Nat.le_refl _)) h hl
  have h1 : (l.length : Int) ≤ 131072 := by omega
  replace hB := hide hB; replace hZ := hide hZ; replace hb := hide hb; replace hp := hide hp; replace hp2 := hide hp2; replace h := hide h
  go_enter Tryd.func18, Tryd.ntmps18
  go_upto_region 1 with (fail)
  generalize hW : World.alloc (World.alloc w _) _ = W at *
  clear hW
  go_wp2
  go_loopw [1] (fun v wr => ∃ S l' A c, v = .slice A l'.length c ∧ l'.length ≤ 131072 ∧ Hid (Bs lo w.heap.size w (.slice A l'.length c) l') ∧ Hid (absorbF S l' = absorbF s l) ∧ Hid (Blk wr w.heap.size 24 (stC S)) ∧ Hid (Blk wr (w.heap.size + 1) 24 zC) ∧ Hid (Below w.heap.size w wr)) (fun v _ => (match v with | .slice _ n _ => n | _ => 0))
  case atStart => exact ⟨s, l, A, c, rfl, hl, h, hide rfl, hB, hZ, hb⟩
  case round =>
    obtain ⟨S, l', A', c', rfl, hl', h', ha, B, Z, b⟩ := hrel
    by_cases h8 : 8 ≤ l'.length
    · obtain ⟨A1, c1, s1, b1⟩ := (unhide h').cut_h 8 8 rfl h8
      obtain ⟨A2, c2, s2, b2⟩ := (unhide h').cut_l 8 8 rfl h8
      have hq := fun W' (hb : Below w.heap.size w W') => unhide hp S _ _ W' hb b1 (by rw [List.length_take]; omega)
      have hin : inF S (l'.take 8) = inF S l' := inF_take
      have hab : absorbF (inF S l') (l'.drop 8) = absorbF s l := by rw [← absorb_blocks h8]; exact unhide ha
      have hdl : (l'.drop 8).length = l'.length - 8 := by rw [List.length_drop]
      rw [hin] at hq
      have k8 : (8 : Int) ≤ (l'.length : Int) := by omega
      have l0 := (unhide B).lt
      have l1 := (unhide Z).lt
      have c0 : wr.cell? ⟨w.heap.size, 0, none⟩ = some (u32v S.a) := (unhide B).cell 0
      have c1 : wr.cell? ⟨w.heap.size, 1, none⟩ = some (u32v S.b) := (unhide B).cell 1
      have c2 : wr.cell? ⟨w.heap.size, 2, none⟩ = some (u32v S.c) := (unhide B).cell 2
      have c3 : wr.cell? ⟨w.heap.size, 3, none⟩ = some (u32v S.d) := (unhide B).cell 3
      generalize inF S l' = S' at *
      generalize hl2 : l'.drop 8 = l2 at *
      rw [← hdl] at s2 b2
      have hlt : l2.length < l'.length := by omega
      replace hq := hide hq; replace b2 := hide b2; replace hab := hide hab; replace hlt := hide hlt
      clear hin ha h' b1 hl2 hdl
      go_upto_region 4 with (fail)
      go_region_law (first
        | (go_simp; go_at_call 22; refine (unhide hq _ (unhide b).drew).mono ?_; rintro e w1 ⟨rfl, hb1⟩
           have B1 : Blk w1 w.heap.size 24 (stC S) := Blk.below ((unhide B).drew) hb1 l0
           have Z1 : Blk w1 (w.heap.size + 1) 24 zC := Blk.below ((unhide Z).drew) hb1 l1
           have bb : Below w.heap.size w w1 := bl_call (unhide b).drew hb1
           have d0 : w1.cell? ⟨w.heap.size, 0, none⟩ = some (u32v S.a) := B1.cell 0
           have d1 : w1.cell? ⟨w.heap.size, 1, none⟩ = some (u32v S.b) := B1.cell 1
           have d2 : w1.cell? ⟨w.heap.size, 2, none⟩ = some (u32v S.c) := B1.cell 2
           have d3 : w1.cell? ⟨w.heap.size, 3, none⟩ = some (u32v S.d) := B1.cell 3
           have f0 : w1.frozen? ⟨w.heap.size, 0, none⟩ = false := B1.frozen 0
           have f1 : w1.frozen? ⟨w.heap.size, 1, none⟩ = false := B1.frozen 1
           have f2 : w1.frozen? ⟨w.heap.size, 2, none⟩ = false := B1.frozen 2
           have f3 : w1.frozen? ⟨w.heap.size, 3, none⟩ = false := B1.frozen 3
           replace B1 := hide B1; replace Z1 := hide Z1; replace bb := hide bb))
      have B2 : Blk _ w.heap.size 24 (stC S') := Blk.set4 (x := u32v S'.a) (y := u32v S'.b) (z := u32v S'.c) (u := u32v S'.d) (unhide B1)
      have Z2 : Blk ((((w1.setCell ⟨w.heap.size, 0, none⟩ (u32v S'.a)).setCell ⟨w.heap.size, 1, none⟩ (u32v S'.b)).setCell ⟨w.heap.size, 2, none⟩ (u32v S'.c)).setCell ⟨w.heap.size, 3, none⟩ (u32v S'.d)) (w.heap.size + 1) 24 zC := ((((unhide Z1).far (by simp) _).far (by simp) _).far (by simp) _).far (by simp) _
      have bb2 : Below w.heap.size w _ := below_set4 (x := u32v S'.a) (y := u32v S'.b) (z := u32v S'.c) (u := u32v S'.d) (unhide bb) (Nat.le_refl _)
      replace B2 := hide B2; replace Z2 := hide Z2; replace bb2 := hide bb2
      generalize (((w1.setCell ⟨w.heap.size, 0, none⟩ (u32v S'.a)).setCell ⟨w.heap.size, 1, none⟩ (u32v S'.b)).setCell ⟨w.heap.size, 2, none⟩ (u32v S'.c)).setCell ⟨w.heap.size, 3, none⟩ (u32v S'.d) = w2 at *
      clear c0 c1 c2 c3 d0 d1 d2 d3 f0 f1 f2 f3
      go_wp2
      go_roundw
      case rel => exact ⟨S', l2, _, _, rfl, by have := unhide hlt; omega, b2, hab, B2, Z2, bb2⟩
      case measure => exact unhide hlt
    · have hl8 : l'.length < 8 := by omega
      have hS := absorb_last (s := S) hl8
      have hab : inF S (padF l') = absorbF s l := by rw [← hS]; exact unhide ha
      have hpl := pad_len8 hl8
      have hpc := pad_cells hl8
      have k8 : (l'.length : Int) < 8 := by omega
      have hG : Blk (wr.alloc (.cells (List.replicate 8 (Value.int .u8 0)).toArray 44)) wr.heap.size 44 (List.replicate 8 (Value.int .u8 0)).toArray := Blk.new rfl
      have hb0 : Below w.heap.size w (wr.alloc (.cells (List.replicate 8 (Value.int .u8 0)).toArray 44)) := bl_alloc (unhide b) _
      have hB0 := (unhide B).alloc (.cells (List.replicate 8 (Value.int .u8 0)).toArray 44)
      have hZ0 := (unhide Z).alloc (.cells (List.replicate 8 (Value.int .u8 0)).toArray 44)
      have hsrc : SrcOk (wr.alloc (.cells (List.replicate 8 (Value.int .u8 0)).toArray 44)) A' (l'.map u8v).length (l'.map u8v) := by rw [List.length_map]; exact ((unhide h').below hb0 (Nat.le_refl _)).src.2
      have hm : l'.length = Nat.min l'.length 8 := (Nat.min_eq_left (by omega)).symm
      have hml : (l'.map u8v).length = l'.length * 1 := by simp
      have hfit : 0 + (l'.map u8v).length ≤ (List.replicate 8 (Value.int .u8 0)).length := by simp; omega
      have ho := u8s_one l'
      have hpz := pad_zero hl8
      have hgw : w.heap.size + 1 < wr.heap.size := (unhide Z).lt
      replace hab := hide hab; replace hpc := hide hpc; replace hpl := hide hpl; replace hsrc := hide hsrc; replace hG := hide hG; replace hb0 := hide hb0; replace hB0 := hide hB0; replace hZ0 := hide hZ0; replace hm := hide hm; replace hml := hide hml; replace hfit := hide hfit; replace ho := hide ho; replace hpz := hide hpz
      clear hS ha h8
      go_upto_region 7 with (fail)
      go_wp2_with (first
        | (refine wpList_copyN rfl (.tmp 21) (.tmp 22) 25 25 rfl 5 1 Tryd.underlying25 (by kernel_rfl) (some ⟨wr.heap.size, 0, none⟩) A' 8 8 l'.length c' rfl rfl wr.heap.size 0 (List.replicate 8 (Value.int .u8 0)) 44 (unhide hG) (l'.map u8v) l'.length (unhide hm) (unhide hml) (fun _ => ⟨rfl, unhide hsrc⟩) (unhide hfit) (unhide ho) ?_
           intro w5 hG5 hO5
           have c5 : w5.cell? ⟨wr.heap.size, l'.length, none⟩ = some (.int .u8 0) := ((unhide hG5).cell l'.length).trans (unhide hpz)
           have f5 : w5.frozen? ⟨wr.heap.size, l'.length, none⟩ = false := (unhide hG5).frozen _)
        | fail)
      have hG6 : Blk (w5.setCell ⟨wr.heap.size, l'.length, none⟩ (.int .u8 128)) wr.heap.size 44 ((padF l').map u8v).toArray := by rw [← unhide hpc]; exact (unhide hG5).set l'.length _
      have hB6 := (Blk.only (unhide hB0) hO5 (by omega)).far (p := ⟨wr.heap.size, l'.length, none⟩) (show w.heap.size ≠ wr.heap.size by omega) (.int .u8 128)
      have hZ6 := (Blk.only (unhide hZ0) hO5 (by omega)).far (p := ⟨wr.heap.size, l'.length, none⟩) (show w.heap.size + 1 ≠ wr.heap.size by omega) (.int .u8 128)
      have hb6 : Below w.heap.size w (w5.setCell ⟨wr.heap.size, l'.length, none⟩ (.int .u8 128)) := ((unhide hb0).trans (hO5.below (by omega))).setCell (by simp; omega) _
      generalize w5.setCell ⟨wr.heap.size, l'.length, none⟩ (.int .u8 128) = w6 at *
      have hbs : Bs 0 w6.heap.size w6 (.slice (some ⟨wr.heap.size, 0, none⟩) 8 8) (padF l') := Bs.of_blk hG6 (unhide hpl).symm (by omega)
      have hq := fun W' (hb : Below w.heap.size w W') (hb' : Below w6.heap.size w6 W') => unhide hp2 S _ _ W' hb ((hbs.below hb' (Nat.le_refl _)).mono (Nat.le_refl _) hb'.size) (unhide hpl)
      rw [unhide hab] at hq
      have l0 := hB6.lt
      have l1 := hZ6.lt
      have c0 : w6.cell? ⟨w.heap.size, 0, none⟩ = some (u32v S.a) := hB6.cell 0
      have c1 : w6.cell? ⟨w.heap.size, 1, none⟩ = some (u32v S.b) := hB6.cell 1
      have c2 : w6.cell? ⟨w.heap.size, 2, none⟩ = some (u32v S.c) := hB6.cell 2
      have c3 : w6.cell? ⟨w.heap.size, 3, none⟩ = some (u32v S.d) := hB6.cell 3
      obtain ⟨S', hS'⟩ : ∃ S', S' = absorbF s l := ⟨_, rfl⟩
      rw [← hS'] at hq
      replace hS' := hide hS'
      generalize wr.heap.size = g6 at *
      replace hq := hide hq; replace hZ6 := hide hZ6; replace hb6 := hide hb6
      clear hbs hG6 hB6 c5 f5 hO5 hG5 hsrc hG hb0 hB0 hZ0 hpz hpc hml hm hfit ho hab hpl
      go_region_law (first
        | (go_simp; go_at_call 22; refine (unhide hq _ (unhide hb6).drew (Below.refl _ _).drew).mono ?_; rintro e w7 ⟨rfl, hb7⟩
           have Z7 : Blk w7 (w.heap.size + 1) 24 zC := Blk.below ((unhide hZ6).drew) hb7 l1
           have bb : Below w.heap.size w w7 := bl_call (unhide hb6).drew hb7
           have d0 : w7.cell? ⟨w.heap.size + 1, 0, none⟩ = some (.int .u32 0) := Z7.cell 0
           have d1 : w7.cell? ⟨w.heap.size + 1, 1, none⟩ = some (.int .u32 0) := Z7.cell 1
           have d2 : w7.cell? ⟨w.heap.size + 1, 2, none⟩ = some (.int .u32 0) := Z7.cell 2
           have d3 : w7.cell? ⟨w.heap.size + 1, 3, none⟩ = some (.int .u32 0) := Z7.cell 3
           have f0 : w7.frozen? ⟨w.heap.size + 1, 0, none⟩ = false := Z7.frozen 0
           have f1 : w7.frozen? ⟨w.heap.size + 1, 1, none⟩ = false := Z7.frozen 1
           have f2 : w7.frozen? ⟨w.heap.size + 1, 2, none⟩ = false := Z7.frozen 2
           have f3 : w7.frozen? ⟨w.heap.size + 1, 3, none⟩ = false := Z7.frozen 3
           replace Z7 := hide Z7; replace bb := hide bb))
      all_goals
        have Z8 : Blk _ (w.heap.size + 1) 24 (stC S') := Blk.set4 (x := u32v S'.a) (y := u32v S'.b) (z := u32v S'.c) (u := u32v S'.d) (unhide Z7)
        have bb8 : Below w.heap.size w _ := below_set4 (g := w.heap.size + 1) (x := u32v S'.a) (y := u32v S'.b) (z := u32v S'.c) (u := u32v S'.d) (unhide bb) (by omega)
        replace Z8 := hide Z8; replace bb8 := hide bb8
        go_wp2_with (fail)
        exact ret_st2 rfl (w.heap.size + 1) S' (.int .i64 0) rfl rfl (unhide Z8) rfl ⟨by rw [unhide hS'], unhide bb8⟩
end Go.Proofs.YtjjamplgecioaaaDoor
