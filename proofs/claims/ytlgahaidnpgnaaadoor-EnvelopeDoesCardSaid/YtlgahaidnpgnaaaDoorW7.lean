import Derived.Test.YtlgahaidnpgnaaaDoorW6
namespace Go.Proofs.YtlgahaidnpgnaaaDoor
open Go.RowKit

/-- A state's numbers, by place. -/
def sg (s : St) : Nat → Reg
  | 0 => s.a
  | 1 => s.b
  | 2 => s.c
  | _ => s.d
/-- The octets of the first 'k' numbers. -/
def octA (s : St) : Nat → List UInt8
  | 0 => []
  | k + 1 => octA s k ++ oct (sg s k)
theorem octA_len (s : St) (k : Nat) : (octA s k).length = 4 * k := by
  induction k with
  | zero => rfl
  | succ k ih => rw [octA, List.length_append, ih, oct_len]; omega
theorem octA_all (s : St) : octA s 4 = octs4 s := rfl
theorem run_index24 (s : St) (k : Nat) (h : k < 4) (W : World) : (Instr.index 24 (stV s) (.int .i64 (k : Int))).run Tryd.prog W = .ok (u32v (sg s k)) W := by
  have hs : (sizeOf 22).run Tryd.prog W = .ok 1 W := by kernel_rfl
  have h1 : (0 : Int) ≤ (k : Int) ∧ (k : Int) < ((4 : Nat) : Int) := by omega
  match k, h with
  | 0, _ => simp [Instr.index, asIntOf, run_underlying Tryd.underlying24, hs, part, sg]
  | 1, _ => simp [Instr.index, asIntOf, run_underlying Tryd.underlying24, hs, part, sg]
  | 2, _ => simp [Instr.index, asIntOf, run_underlying Tryd.underlying24, hs, part, sg]
  | 3, _ => simp [Instr.index, asIntOf, run_underlying Tryd.underlying24, hs, part, sg]

/-- 'make([]T, 0, c)', for every world. -/
theorem run_mk0 {P : Program} (t e : TypeId) (i : TypeInfo) (z : Value) (size : Nat) (ht : P.underlying t = some (.slice e)) (hi : P.info? e = some i) (hz : i.zero = some z) (hsize : i.size = size)
    (c : Nat) (hbytes : i.bytes * c ≤ 281474976710656) (h63 : c ≤ 9223372036854775807) (W : World) :
    (Instr.makeSlice t (.int .i64 0) (.int .i64 (c : Int))).run P W = .ok (.slice (some ⟨W.heap.size, 0, none⟩) 0 c) (W.alloc (.cells (madeCells z.cells (c * size)) e)) := by
  subst hsize
  have hb' : (i.bytes : Int) * (c : Int) ≤ 281474976710656 := by
    have h : ((i.bytes * c : Nat) : Int) ≤ 281474976710656 := by omega
    rwa [Int.natCast_mul] at h
  have hr := run_make (P := P) W t e i z ht hi hz .i64 .i64 0 c (by omega) (by omega) hb' (by omega)
  simp only [Int.toNat_natCast] at hr
  exact hr
theorem mk8 (c : Nat) (hc : c ≤ 1000000) (W : World) : ∃ cs : Array Value, cs.size = c * 1 ∧ (Instr.makeSlice 28 (.int .i64 0) (.int .i64 (c : Int))).run Tryd.prog W = .ok (.slice (some ⟨W.heap.size, 0, none⟩) 0 c) (W.alloc (.cells cs 5)) := by
  obtain ⟨i0, hi0, hz0, hz1, hz2⟩ := info_parts info5
  have h := run_mk0 (P := Tryd.prog) 28 5 i0 _ 1 Tryd.underlying28 hi0 hz0 hz1 c (by rw [hz2]; omega) (by omega) W
  exact ⟨_, by simp [madeCells, Value.cells], h⟩

set_option maxHeartbeats 1000000 in
theorem Octets_any (s : St) (w : World) : Calls Tryd.prog 29 #[stV s] w fun e w' => ∃ v, e = .returned v ∧ OwnB w' w.heap.size v (octs4 s) ∧ Below w.heap.size w w' := by
  have hB : Blk (w.alloc (.cells (stC s) 24)) w.heap.size 24 (stC s) := Blk.new rfl
  have hb : Below w.heap.size w (w.alloc (.cells (stC s) 24)) := bl_alloc (Below.refl _ _) _
  have hsz : (w.alloc (.cells (stC s) 24)).heap.size = w.heap.size + 1 := by simp
  replace hB := hide hB; replace hb := hide hb; replace hsz := hide hsz
  go_enter Tryd.func29, Tryd.ntmps29
  go_upto_region 1 with (fail)
  generalize hW : World.alloc w _ = W at *
  clear hW
  obtain ⟨cs, hcs, hmk⟩ := show ∃ cs : Array Value, cs.size = 16 * 1 ∧ (Instr.makeSlice 28 (.int .i64 0) (.int .i64 16)).run Tryd.prog W = .ok (.slice (some ⟨W.heap.size, 0, none⟩) 0 16) (W.alloc (.cells cs 5)) from mk8 16 (by omega) W
  have hown : OwnB (W.alloc (.cells cs 5)) w.heap.size (.slice (some ⟨W.heap.size, 0, none⟩) 0 16) (octA s 0) := own_fresh W _ _ 5 1 16 cs rfl (by rw [unhide hsz]; omega) (by simp [maxLen]) hcs
  have hb1 : Below w.heap.size w (W.alloc (.cells cs 5)) := bl_alloc (unhide hb) _
  have hB1 : Blk (W.alloc (.cells cs 5)) w.heap.size 24 (stC s) := Blk.alloc (unhide hB) _
  have hix := run_index24 s
  have hg : W.heap.size = w.heap.size + 1 := unhide hsz
  rw [hg] at hown hmk
  replace hown := hide hown; replace hb1 := hide hb1; replace hB1 := hide hB1; replace hix := hide hix; replace hcs := hide hcs
  clear hB hb hsz hg
  go_upto_region 2 with (fail)
  generalize hW1 : World.alloc W _ = W1 at *
  clear hW1 hmk
  go_wp2_with (first
    | (refine wpList_load_row rfl 24 (.tmp 1) rfl w.heap.size rfl 24 (stC s) (0, 0) _ (unhide hB1) Tryd.underlying24 rfl size24 ?_)
    | fail)
  go_loopw [3, 8] (fun v i wr => ∃ k : Nat, k ≤ 4 ∧ i = .int .i64 k ∧ (∃ A c, v = .slice A (4 * k) c) ∧ Hid (OwnB wr w.heap.size v (octA s k)) ∧ Hid (Below w.heap.size w wr)) (fun _ i _ => 4 - (intOf i).toNat)
  case atStart => exact ⟨0, by omega, rfl, ⟨_, _, rfl⟩, hown, hb1⟩
  case round =>
    obtain ⟨k, hk, rfl, ⟨A, c, rfl⟩, o, b⟩ := hrel
    by_cases hlt : k < 4
    · have hx := unhide hix k hlt
      have hn : octA s k ++ oct (sg s k) = octA s (k + 1) := rfl
      have hl := octA_len s (k + 1)
      have hcall := tell_any w.heap.size _ (octA s k) (sg s k) wr (unhide o) (unhide b).size (by rw [octA_len]; omega)
      rw [hn] at hcall
      have k1 : (k : Int) < 4 := by omega
      generalize sg s k = q at *
      replace hcall := hide hcall; replace hl := hide hl
      clear hn
      go_wp2_with (first
        | (go_at_call 42; refine (unhide hcall).mono ?_; rintro e w1 ⟨v1, rfl, o1, hb1⟩; obtain ⟨A1, c1, rfl⟩ := o1.form; replace o1 := hide o1)
        | fail)
      go_roundw
      case rel => exact ⟨k + 1, by omega, by go_num, ⟨A1, c1, by rw [unhide hl]⟩, o1, (unhide b).trans hb1⟩
      case measure => simp [intOf]; omega
    · obtain rfl : k = 4 := by omega
      go_wp2
      go_ret
      exact ⟨_, rfl, unhide o, unhide b⟩
end Go.Proofs.YtlgahaidnpgnaaaDoor
