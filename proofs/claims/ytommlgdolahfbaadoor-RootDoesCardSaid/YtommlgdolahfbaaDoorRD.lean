import Derived.Test.YtommlgdolahfbaaDoorRC
import Derived.Test.YtommlgdolahfbaaDoorW10
namespace Go.Proofs.YtommlgdolahfbaaDoor
set_option maxRecDepth 100000
open Go.RowKit

theorem mk32 (x : UInt8) (W : World) : (Instr.makeSlice 28 (.int .i64 32) (.int .i64 32)).run Tryd.prog W = .ok (.slice (some ⟨W.heap.size, 0, none⟩) 32 32) (W.alloc (.cells (cont (stF x 0)) 5)) := by
  obtain ⟨i1, hi1, hy0, hy1, hy2⟩ := info_parts info5b
  have h := run_mk (P := Tryd.prog) 28 5 i1 _ 1 Tryd.underlying28 hi1 hy0 hy1 32 (by rw [hy2]; omega) (by omega) W
  have hz : (madeCells (Value.int .u8 0).cells (32 * 1)) = cont (stF x 0) := by
    rw [st_zero, ← Array.toList_inj]
    exact toList_madeCells_one _ _
  rw [hz] at h
  exact h

/-- What a root's walk carries: the box, the sector, and that what was there stays. -/
structure Oc (w : World) (r : Rt) (g : Nat) (c : Nat → UInt8) (wr : World) : Prop where
  box : Blk wr w.heap.size 27 #[.int .u64 (r.gen : Nat), .int .i64 r.at_, .int .i64 r.len, .int .i64 r.long, .int .u32 (r.sum : Nat), .int .u64 (r.next : Nat)]
  sec : Blk wr g 5 (cont c)
  bl : Below w.heap.size w wr
  gl : w.heap.size < g
section
variable {w wr w' : World} {r : Rt} {g : Nat} {c : Nat → UInt8}
theorem Oc.call (h : Oc w r g c wr) (hb : Below wr.heap.size wr w') : Oc w r g c w' := ⟨h.box.below hb h.box.lt, h.sec.below hb h.sec.lt, bl_call h.bl hb, h.gl⟩
theorem Oc.put (h : Oc w r g c wr) {c' : Nat → UInt8} {i : Nat} {u : Value} (e : (cont c).setIfInBounds i u = cont c') : Oc w r g c' (wr.setCell ⟨g, i, none⟩ u) :=
  ⟨h.box.far (p := ⟨g, i, none⟩) (Nat.ne_of_lt h.gl) u, by rw [← e]; exact h.sec.set i u, bl_set h.bl (Nat.le_of_lt h.gl) i u, h.gl⟩
theorem Oc.eq (h : Oc w r g c wr) {c' : Nat → UInt8} (e : cont c = cont c') : Oc w r g c' wr := ⟨h.box, by rw [← e]; exact h.sec, h.bl, h.gl⟩
end
theorem oct_of {n m j : Nat} (h : m = n / 256 ^ j) : ((m : Nat) : Int) % 256 = ((oct n j).toNat : Int) := by rw [oct_nat, h]; omega
set_option maxHeartbeats 4000000 in
theorem Octets_good (r : Rt) (h : rOk r = true) (hT : OkT r) (w : World) (ht : Tab w) :
    Calls Tryd.prog 11 #[(.agg #[.int .u64 (r.gen : Nat), .int .i64 r.at_, .int .i64 r.len, .int .i64 r.long, .int .u32 (r.sum : Nat), .int .u64 (r.next : Nat)])] w fun e w' => ∃ g, e = .returned (.tuple #[.slice (some ⟨g, 0, none⟩) 32 32, .int .i64 0]) ∧ w.heap.size ≤ g ∧ Blk w' g 5 ((octs r).map u8v).toArray ∧ Below w.heap.size w w' := by
  have hC := fun W => Check_any r hT W
  rw [h, show badE true = 0 from rfl] at hC
  have hS := fun W => stamp_any r W
  have hN := fun W => numbersOf_any r h hT W
  have hP := fun i (hi : i ≤ 100) W => place_any i hi W
  have htab := fun W (hb : Below w.heap.size w W) k (hk : k < 7) => (ht.below hb (Nat.le_refl _)).2 k hk
  have hmk := mk32 (oct r.gen 0)
  have hX := fun k (hk : k < 7) W => numV_at (num r) hk W
  have hto := fun k j (hk : k < 7) (hj : j < wd k) => told_off r hk hj
  have hsu := fun i (hi : i < 24) => oc_succ r hi
  have hs8 := fun k (hk : k < 8) => st_succ (oct r.gen 0) hk
  have hfu := st_full r
  have hoc := oc_full r
  clear h hT ht
  replace hC := hide hC; replace hS := hide hS; replace hN := hide hN; replace hP := hide hP; replace htab := hide htab; replace hX := hide hX; replace hto := hide hto; replace hsu := hide hsu; replace hs8 := hide hs8; replace hfu := hide hfu; replace hoc := hide hoc
  go_enter Tryd.func11, Tryd.ntmps11
  go_wp2_with (first
    | (go_at_call 21; refine (unhide hC _).mono ?_; rintro e w1 ⟨rfl, b1⟩
       have k1 := Blk.below (Blk.new (w := w) (cs := #[.int .u64 (r.gen : Nat), .int .i64 r.at_, .int .i64 r.len, .int .i64 r.long, .int .u32 (r.sum : Nat), .int .u64 (r.next : Nat)]) (t := 27) rfl) b1 (by simp)
       have B1 := bl_call (bl_alloc (Below.refl w.heap.size w) (.cells #[.int .u64 (r.gen : Nat), .int .i64 r.at_, .int .i64 r.len, .int .i64 r.long, .int .u32 (r.sum : Nat), .int .u64 (r.next : Nat)] 27)) b1
       have X1 : Oc w r w1.heap.size (stF (oct r.gen 0) 0) (w1.alloc (.cells (cont (stF (oct r.gen 0) 0)) 5)) := ⟨k1.alloc _, Blk.new rfl, bl_alloc B1 _, k1.lt⟩
       replace X1 := hide X1
       clear k1 B1 b1)
    | fail)
  go_loopw [16] (fun i wr => ∃ k : Nat, k ≤ 8 ∧ i = .int .i64 k ∧ Hid (Oc w r w1.heap.size (stF (oct r.gen 0) k) wr)) (fun i _ => 8 - (intOf i).toNat)
  case atStart => exact ⟨0, by omega, rfl, X1⟩
  case round =>
    obtain ⟨k, hk, rfl, X2⟩ := hrel
    clear X1
    by_cases hlt : k < 8
    · have k1 : (k : Int) < 8 := by omega
      have e1 : IntKind.i64.wrap ((k : Int) * 4) = ((k * 4 : Nat) : Int) := by rw [IntWalk.i64_in _ (by omega)]; omega
      have k2 : ((k * 4 : Nat) : Int) < 32 := by omega
      have k3 : k * 4 < 32 := by omega
      obtain ⟨c0, c1, c2, c3, c4, c5⟩ := bk6 (unhide X2).box
      go_wp2_with (first
        | (go_at_call 27; refine (unhide hS _).mono ?_; rintro e w2 ⟨rfl, b2⟩
           have X3 := (unhide X2).call b2
           have f3 := X3.sec.frozen (k * 4)
           have c6 : w2.cell? ⟨w1.heap.size, k * 4, none⟩ = some (.int .u8 _) := (X3.sec.cell (k * 4)).trans (cont_get _ k3)
           have X4 := X3.put (unhide hs8 k hlt)
           replace X4 := hide X4
           clear X3 b2)
        | fail)
      go_roundw
      case rel => exact ⟨k + 1, by omega, by go_num, X4⟩
      case measure => simp [intOf]; omega
    · obtain rfl : k = 8 := by omega
      have X5 := (unhide X2).eq (unhide hfu)
      clear X2 hfu hs8
      obtain ⟨c0, c1, c2, c3, c4, c5⟩ := bk6 X5.box
      replace X5 := hide X5
      go_wp2_with (first
        | (go_at_call 28; refine (unhide hN _).mono ?_; rintro e w5 ⟨rfl, b5⟩
           have X6 := hide ((unhide X5).call b5)
           clear b5 X5)
        | fail)
      clear c0 c1 c2 c3 c4 c5
      go_loopw [7, 28] (fun o i wr => ∃ k : Nat, k ≤ 7 ∧ o = .int .i64 (off k : Nat) ∧ i = .int .i64 k ∧ Hid (Oc w r w1.heap.size (ocF r (off k)) wr)) (fun _ i _ => 7 - (intOf i).toNat)
      case atStart => exact ⟨0, by omega, rfl, rfl, X6⟩
      case round =>
        obtain ⟨k, hk, rfl, rfl, X7⟩ := hrel
        clear X6
        by_cases hlt : k < 7
        · have k1 : (k : Int) < 7 := by omega
          have hx := unhide hX k hlt
          have htb := unhide htab wr (unhide X7).bl k hlt
          have hT0 := unhide hto k
          obtain ⟨nk, hnk⟩ : ∃ nk, nk = num r k := ⟨_, rfl⟩
          have hoff := off_succ hlt
          have hole := fun j => off_le (k := k) (j := j) hlt
          have hwd := wd_le k
          rw [← hnk] at hx hT0
          obtain ⟨wk, hwk⟩ : ∃ wk, wk = wd k := ⟨_, rfl⟩
          obtain ⟨ok, hok⟩ : ∃ ok, ok = off k := ⟨_, rfl⟩
          rw [← hwk] at htb hT0 hoff hole hwd
          rw [← hok] at hT0 hoff hole X7 ⊢
          clear hwk hok
          replace hT0 := hide hT0; replace hole := hide hole; replace hnk := hide hnk; replace hoff := hide hoff
          go_wp2_with fail
          clear hx htb
          obtain ⟨wo, rfl⟩ : ∃ wo : World, wo = wr := ⟨_, rfl⟩
          go_loopw [7, 9, 35] (fun o m i wr => ∃ j i' m' : Nat, j ≤ wk ∧ o = .int .i64 i' ∧ m = .int .u64 m' ∧ i = .int .i64 j ∧ Hid (i' = ok + j) ∧ Hid (m' = nk / 256 ^ j) ∧ Hid (Oc w r w1.heap.size (ocF r i') wr)) (fun _ _ i _ => wk - (intOf i).toNat)
          case atStart => exact ⟨0, ok, nk, by omega, rfl, rfl, rfl, rfl, by simp [Hid], X7⟩
          case round =>
            obtain ⟨j, i', m', hj, rfl, rfl, rfl, hi', hm', X8⟩ := hrel
            clear X7
            by_cases hlj : j < wk
            · have j1 : (j : Int) < (wk : Int) := by omega
              have i1 : i' < 24 := by have := unhide hi'; have := unhide hole j hlj; omega
              have hpl := unhide hP i' (by omega)
              have p1 := place_lt i1
              have p2 : ((place i' : Nat) : Int) < 32 := by omega
              have eo : ((m' : Nat) : Int) % 256 = ((told r i').toNat : Int) := by rw [unhide hi', unhide hT0 j hlt hlj]; exact oct_of (unhide hm')
              have ep := unhide hsu i' i1
              unfold u8v at ep
              rw [← eo] at ep
              have f3 := (unhide X8).sec.frozen (place i')
              have c6 : wr.cell? ⟨w1.heap.size, place i', none⟩ = some (.int .u8 _) := ((unhide X8).sec.cell (place i')).trans (cont_get _ p1)
              have X9 := hide ((unhide X8).put ep)
              have i2 : i' + 1 = ok + (j + 1) := by have := unhide hi'; omega
              have m2 : m' / 256 = nk / 256 ^ (j + 1) := by rw [unhide hm', Nat.div_div_eq_div_mul, Nat.pow_succ]
              replace hpl := hide hpl; replace i2 := hide i2; replace m2 := hide m2
              clear eo ep X8
              generalize place i' = pl at *
              go_wp2_with (first
                | (go_at_call 29; refine (unhide hpl _).mono ?_; rintro e w2 ⟨rfl, rfl⟩)
                | fail)
              go_roundw
              case rel => exact ⟨j + 1, i' + 1, m' / 256, by omega, by go_num, by go_num, by go_num, i2, m2, X9⟩
              case measure => simp [intOf]; omega
            · obtain rfl : j = wk := by omega
              have i3 := (unhide hi').trans (unhide hoff)
              subst i3
              go_wp2_with fail
              go_roundw
              case rel => exact ⟨k + 1, by omega, rfl, by go_num, X8⟩
              case measure => simp [intOf]; omega
        · obtain rfl : k = 7 := by omega
          have X8 := (unhide X7)
          have h24 : off 7 = 24 := rfl
          rw [h24] at X8
          have S8 := X8.sec
          rw [unhide hoc] at S8
          have gl := X8.gl
          have bl := X8.bl
          replace S8 := hide S8; replace bl := hide bl
          clear X8 X7
          go_wp2_with fail
          go_ret2
          exact ⟨_, rfl, Nat.le_of_lt gl, unhide S8, unhide bl⟩
theorem Octets_bad (r : Rt) (h : rOk r = false) (hT : OkT r) (w : World) :
    Calls Tryd.prog 11 #[(.agg #[.int .u64 (r.gen : Nat), .int .i64 r.at_, .int .i64 r.len, .int .i64 r.long, .int .u32 (r.sum : Nat), .int .u64 (r.next : Nat)])] w fun e w' => e = .returned (.tuple #[.slice none 0 0, .int .i64 1]) ∧ Below w.heap.size w w' := by
  have hC := fun W => Check_any r hT W
  rw [h, show badE false = 1 from rfl] at hC
  replace hC := hide hC
  clear h hT
  go_enter Tryd.func11, Tryd.ntmps11
  go_wp2_with (first
    | (go_at_call 21; refine (unhide hC _).mono ?_; rintro e w1 ⟨rfl, b1⟩; have B1 := bl_call (bl_alloc (Below.refl w.heap.size w) (.cells #[.int .u64 (r.gen : Nat), .int .i64 r.at_, .int .i64 r.len, .int .i64 r.long, .int .u32 (r.sum : Nat), .int .u64 (r.next : Nat)] 27)) b1)
    | fail)
  go_ret2
  exact ⟨rfl, B1⟩
end Go.Proofs.YtommlgdolahfbaaDoor
