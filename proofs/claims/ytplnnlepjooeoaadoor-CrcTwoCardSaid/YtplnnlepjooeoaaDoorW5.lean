import Derived.Test.YtplnnlepjooeoaaDoorW4
import Derived.IntWalk
namespace Go.Proofs.YtplnnlepjooeoaaDoor
open Go.RowKit

theorem Blk.newRow {w : World} {g : Nat} {C cs : Array Value} {t : TypeId} : Blk ((w.setRow g C).alloc (.cells cs t)) w.heap.size t cs := Blk.new (by simp [World.setRow])
theorem lin_it (k : Nat) : Lin (itZ k) := itZ_xor k
theorem it_twice (k : Nat) : (fun r => itZ k (itZ k r)) = itZ (k + k) := by
  funext r
  exact (itZ_add k k r).symm
theorem it_one : itZ 1 = halfN 8 := rfl
theorem it_mul_even (m k : Nat) (a : Reg) : itZ (m * (k + k)) a = itZ ((2 * m) * k) a := by
  congr 1
  rw [Nat.mul_add, Nat.mul_assoc]; omega
theorem it_mul_odd (m k : Nat) (a : Reg) : itZ (m * (k + k)) (itZ k a) = itZ ((2 * m + 1) * k) a := by
  rw [← itZ_add]
  congr 1
  rw [Nat.mul_add, Nat.add_mul, Nat.mul_assoc]; omega

theorem and_one (m : Nat) (h : m ≤ 65536) : bits .and .i64 (m : Int) 1 = ((m % 2 : Nat) : Int) := by
  have h1 : (BitVec.ofInt 64 (m : Int)).toNat = m := by
    rw [BitVec.ofInt_natCast, BitVec.toNat_ofNat]; exact Nat.mod_eq_of_lt (by omega)
  show IntKind.i64.wrap ((BitVec.ofInt 64 (m : Int) &&& BitVec.ofInt 64 (1 : Int)).toNat : Int) = _
  have h2 : (BitVec.ofInt 64 (1 : Int)).toNat = 1 := rfl
  rw [BitVec.toNat_and, h1, h2, nat_mask1]
  exact IntWalk.i64_in _ (by omega)
theorem and_one_even (m : Nat) (h : m ≤ 65536) (hp : m % 2 = 0) : bits .and .i64 (m : Int) 1 = 0 := by rw [and_one m h, hp]; rfl
theorem and_one_odd (m : Nat) (h : m ≤ 65536) (hp : m % 2 = 1) : bits .and .i64 (m : Int) 1 = 1 := by rw [and_one m h, hp]; rfl

section
attribute [local go_sem] u32v_xor
set_option maxHeartbeats 2000000 in
theorem join_any (a b : Reg) (n : Nat) (w : World) (ht : Tab w) (hw : 0 < w.heap.size) (hn : n ≤ 65536) :
    Calls Tryd.prog 5 #[u32v a, u32v b, .int .i64 n] w fun e w' => e = .returned (.tuple #[u32v (itZ n a ^^^ b), .int .i64 0]) ∧ Below w.heap.size w w' := by
  have hz := fun W => zero_any W
  have sz3 : (Tryd.prog.info? 32).map (·.size) = some (wayC (halfN 8)).size := by rw [wayC_size]; exact size32
  have one : (wayC (halfN 8)).all (·.oneCell') = true := mixC_one _ _ _
  have hVs : (wayC (halfN 8)).size = 32 := wayC_size _
  have i1 : (n : Int) ≤ 65536 := by omega
  replace hz := hide hz; replace sz3 := hide sz3; replace one := hide one; replace hVs := hide hVs; replace ht := hide ht
  go_enter Tryd.func5, Tryd.ntmps5
  go_wp2_with (first
    | (go_at_call 8; refine (unhide hz _).mono ?_; rintro e w1 ⟨rfl, hb1⟩)
    | (refine wpList_store_row rfl 32 (.tmp 8) (.tmp 15) rfl _ (wayC (halfN 8)) rfl rfl 32 _ (Blk.new rfl) (unhide sz3) (unhide hVs).symm (unhide one) ?_)
    | fail)
  go_frame
  generalize hW : World.setRow (World.alloc w1 _) _ _ = W
  have G : Blk W w1.heap.size 32 (wayC (itZ 1)) := by rw [it_one, ← hW]; exact Blk.row (Blk.new rfl) _
  have hb : Below w.heap.size w W := by rw [← hW]; exact bl_row (bl_alloc hb1 _) _ hb1.size
  have hg := hb1.size
  clear hW
  generalize w1.heap.size = g at *
  replace G := hide G; replace hb := hide hb
  go_loopw [0, 2, 8] (fun s0 s2 s8 wr => ∃ (q : Reg) (m k g : Nat), s0 = u32v q ∧ s2 = .int .i64 m ∧ s8 = .pointer (some ⟨g, 0, none⟩) ∧ m ≤ 65536 ∧ w.heap.size ≤ g ∧ Hid (itZ (m * k) q = itZ n a) ∧ Hid (Blk wr g 32 (wayC (itZ k))) ∧ Hid (Below w.heap.size w wr)) (fun _ s2 _ _ => (intOf s2).toNat)
  case atStart => exact ⟨a, n, 1, g, rfl, rfl, rfl, hn, hg, hide (by rw [Nat.mul_one]), G, hb⟩
  case round =>
    obtain ⟨q, m, k, g, rfl, rfl, rfl, hm, hgg, hq, B, b1⟩ := hrel
    by_cases h0 : 0 < m
    · have hof := fun x W' (hb' : Below w.heap.size w W') => of_any (itZ k) (lin_it k) x W' ((unhide ht).below hb' hw) (Nat.lt_of_lt_of_le hw hb'.size)
      have hth := fun W' (hb' : Below w.heap.size w W') => then_any (itZ k) (itZ k) (lin_it k) W' ((unhide ht).below hb' hw) (Nat.lt_of_lt_of_le hw hb'.size)
      rw [it_twice] at hth
      have szk : (Tryd.prog.info? 32).map (·.size) = some (wayC (itZ k)).size := by rw [wayC_size]; exact size32
      have szk2 : (Tryd.prog.info? 32).map (·.size) = some (wayC (itZ (k + k))).size := by rw [wayC_size]; exact size32
      have szs : (wayC (itZ k)).size = (wayC (itZ (k + k))).size := by rw [wayC_size, wayC_size]
      have sz32 : (wayC (itZ (k + k))).size = 32 := wayC_size _
      have onek : (wayC (itZ (k + k))).all (·.oneCell') = true := mixC_one _ _ _
      rcases Nat.mod_two_eq_zero_or_one m with hp | hp
      · obtain ⟨h, hmh⟩ : ∃ h, m = 2 * h := ⟨m / 2, by omega⟩
        have hand : bits .and .i64 (m : Int) 1 = 0 := and_one_even m (by omega) hp
        rw [hmh, ← it_mul_even] at hq
        have hfd : (m : Int) / 2 = (h : Int) := by omega
        have i2 : (m : Int) ≤ 65536 := by omega
        have i3 : (0 : Int) < (m : Int) := by omega
        have hh : h < m := by omega
        have hh2 : h ≤ 65536 := by omega
        generalize hM : wayC (itZ k) = M at *
        generalize hM2 : wayC (itZ (k + k)) = M2 at *
        replace hM := hide hM; replace hM2 := hide hM2; replace hof := hide hof; replace hth := hide hth; replace szk := hide szk; replace szk2 := hide szk2; replace szs := hide szs; replace sz32 := hide sz32; replace onek := hide onek
        replace hq := hide hq; replace hmh := hide hmh
        clear hp
        go_wp2_with (first
          | (refine wpList_load_row rfl 32 (.tmp 8) rfl g rfl 32 M (0, 0) _ (unhide B) Tryd.underlying32 rfl (unhide szk) ?_)
          | (go_at_call 10; refine (unhide hth _ (unhide b1)).mono ?_; rintro e w2 ⟨rfl, hb2⟩; have B2 := hide (Blk.below (unhide B) hb2 (unhide B).lt); have bb2 := bl_call (unhide b1) hb2; replace bb2 := hide bb2)
          | (refine wpList_store_row rfl 32 (.tmp 8) (.tmp 28) rfl g M2 rfl rfl 32 M (unhide B2) (unhide szk2) (unhide szs) (unhide onek) ?_)
          | (refine wpList_load_row rfl 32 (.tmp 8) rfl g rfl 32 M2 (0, 0) _ (Blk.row (unhide B2) M2) Tryd.underlying32 rfl (unhide szk2) ?_)
          | (refine wpList_store_row rfl 32 (.tmp 8) (.tmp 29) rfl _ M2 rfl rfl 32 _ Blk.newRow (unhide szk2) (unhide sz32).symm (unhide onek) ?_)
          | fail)
        have bb2' := unhide bb2
        refine ⟨⟨_, h, k + k, w2.heap.size, rfl, rfl, rfl, hh2, bb2'.size, unhide hq, ?_, ?_⟩, ?_⟩
        · rw [unhide hM2]
          exact hide (Blk.row Blk.newRow _)
        · exact hide (bl_row (bl_alloc (bl_row bb2' _ hgg) _) _ bb2'.size)
        · simp [intOf]
          exact hh
      · obtain ⟨h, hmh⟩ : ∃ h, m = 2 * h + 1 := ⟨m / 2, by omega⟩
        have hand : bits .and .i64 (m : Int) 1 = 1 := and_one_odd m (by omega) hp
        rw [hmh, ← it_mul_odd] at hq
        have hfd : (m : Int) / 2 = (h : Int) := by omega
        have i2 : (m : Int) ≤ 65536 := by omega
        have i3 : (0 : Int) < (m : Int) := by omega
        have hh : h < m := by omega
        have hh2 : h ≤ 65536 := by omega
        generalize hM : wayC (itZ k) = M at *
        generalize hM2 : wayC (itZ (k + k)) = M2 at *
        replace hM := hide hM; replace hM2 := hide hM2; replace hof := hide hof; replace hth := hide hth; replace szk := hide szk; replace szk2 := hide szk2; replace szs := hide szs; replace sz32 := hide sz32; replace onek := hide onek
        replace hq := hide hq; replace hmh := hide hmh
        clear hp
        go_wp2_with (first
          | (refine wpList_load_row rfl 32 (.tmp 8) rfl g rfl 32 M (0, 0) _ (unhide B) Tryd.underlying32 rfl (unhide szk) ?_)
          | (go_at_call 9; refine (unhide hof _ _ (unhide b1)).mono ?_; rintro e w1 ⟨rfl, hb1⟩; have B1 := hide (Blk.below (unhide B) hb1 (unhide B).lt); have bb1 := bl_call (unhide b1) hb1; replace bb1 := hide bb1)
          | (refine wpList_load_row rfl 32 (.tmp 8) rfl g rfl 32 M (0, 0) _ (unhide B1) Tryd.underlying32 rfl (unhide szk) ?_)
          | (go_at_call 10; refine (unhide hth _ (unhide bb1)).mono ?_; rintro e w2 ⟨rfl, hb2⟩; have B2 := hide (Blk.below (unhide B1) hb2 (unhide B1).lt); have bb2 := bl_call (unhide bb1) hb2; replace bb2 := hide bb2)
          | (refine wpList_store_row rfl 32 (.tmp 8) (.tmp 28) rfl g M2 rfl rfl 32 M (unhide B2) (unhide szk2) (unhide szs) (unhide onek) ?_)
          | (refine wpList_load_row rfl 32 (.tmp 8) rfl g rfl 32 M2 (0, 0) _ (Blk.row (unhide B2) M2) Tryd.underlying32 rfl (unhide szk2) ?_)
          | (refine wpList_store_row rfl 32 (.tmp 8) (.tmp 29) rfl _ M2 rfl rfl 32 _ Blk.newRow (unhide szk2) (unhide sz32).symm (unhide onek) ?_)
          | fail)
        have bb2' := unhide bb2
        refine ⟨⟨_, h, k + k, w2.heap.size, rfl, rfl, rfl, hh2, bb2'.size, unhide hq, ?_, ?_⟩, ?_⟩
        · rw [unhide hM2]
          exact hide (Blk.row Blk.newRow _)
        · exact hide (bl_row (bl_alloc (bl_row bb2' _ hgg) _) _ bb2'.size)
        · simp [intOf]
          exact hh
    · obtain rfl : m = 0 := by omega
      have hq' : q = itZ n a := by rw [← unhide hq, Nat.zero_mul]; rfl
      replace hq' := hide hq'
      go_wp2_with fail
      go_ret2
      exact ⟨by rw [← unhide hq']; rfl, unhide b1⟩
end
end Go.Proofs.YtplnnlepjooeoaaDoor
