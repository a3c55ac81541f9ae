import Derived.Test.YteokimebfbnlkaaA2
import Derived.Test.YteokimebfbnlkaaW5
namespace Go.Proofs.Yteokimebfbnlkaa
open Go.RowKit

/-- The cells of so many booleans. -/
def bitC (n : Nat) (f : Nat → Bool) : List Value := (List.range n).map fun t => Value.bool (f t)
theorem bitC_len (n : Nat) (f : Nat → Bool) : (bitC n f).length = n := by simp [bitC]
theorem bitC_get (n : Nat) (f : Nat → Bool) (t : Nat) (h : t < n) : (bitC n f)[t]? = some (.bool (f t)) := by simp [bitC, h]
theorem bitC_congr {n : Nat} {f g : Nat → Bool} (h : ∀ t, t < n → f t = g t) : bitC n f = bitC n g := by
  unfold bitC
  exact List.map_congr_left fun t ht => by rw [h t (List.mem_range.1 ht)]
theorem bitC_set (n : Nat) (f : Nat → Bool) (t : Nat) (b : Bool) : (bitC n f).set t (.bool b) = bitC n (fun u => if u = t then b else f u) := by
  apply List.ext_getElem
  · simp [bitC]
  · intro i h1 h2
    simp only [bitC, List.getElem_set, List.getElem_map, List.getElem_range]
    by_cases h : t = i
    · subst h; simp
    · rw [if_neg h, if_neg (fun e => h e.symm)]
/-- Is this sector among the first J of this extent? -/
def inB (s : Ex) (J : Int) (t : Nat) : Bool := decide (s.at_ ≤ (t : Int)) && decide ((t : Int) < s.at_ + J)
/-- Is this sector free? -/
def freeB (L : List Ex) (t : Nat) : Bool := L.any fun s => inB s s.len t
theorem freeB_iff {L : List Ex} {t : Nat} : freeB L t = true ↔ mem L t := by
  simp [freeB, inB, mem, inE]
theorem freeB_snoc (L : List Ex) (s : Ex) (t : Nat) : freeB (L ++ [s]) t = (freeB L t || inB s s.len t) := by simp [freeB]
theorem okF_each {size : Int} {l : List Ex} : ∀ {a : Int}, okF size a l = true → ∀ f ∈ l, 0 ≤ f.at_ ∧ 1 ≤ f.len ∧ f.at_ + f.len ≤ size := by
  induction l with
  | nil => intro a _ f h; cases h
  | cons g r ih =>
    intro a h f hf
    obtain ⟨h1, _, h3⟩ := okF_cons.1 h
    rcases List.mem_cons.1 hf with rfl | hf
    · exact h1
    · exact ih h3 f hf
theorem made_bits (n : Nat) : madeCells (Value.bool false).cells (n * 1) = (bitC n (freeB [])).toArray := by
  have : bitC n (freeB []) = List.replicate n (.bool false) := by
    apply List.ext_getElem
    · simp [bitC]
    · intro i h1 h2; simp [bitC, freeB]
  have hz : (madeCells (Value.bool false).cells (n * 1)).toList = List.replicate (n * 1) (.bool false) := toList_madeCells_one _ _
  rw [← Array.toArray_toList (xs := madeCells (Value.bool false).cells (n * 1)), hz, this]
  simp
theorem info4 : (Try.prog.info? 4).map (fun i => (i.zero, i.size, i.bytes)) = some (some (.bool false), 1, 1) := by kernel_rfl

set_option maxRecDepth 100000 in
set_option maxHeartbeats 4000000 in
theorem refbits_any (lo n : Nat) (v : Value) (x : Xs) (w : World) (h : XsR lo w.heap.size w v x) (hok : okX x = true) (hn : x.size = (n : Int)) :
    Calls Try.prog 42 #[v] w fun e w' => ∃ g, w.heap.size ≤ g ∧ e = .returned (.slice (some ⟨g, 0, none⟩) n n) ∧ Blk w' g 4 (bitC n (freeB x.free)).toArray ∧ Below w.heap.size w w' := by
  obtain ⟨i4, hi4, jz0, jz1, jz2⟩ := info_parts info4
  have hn2 : n ≤ 8192 := by
    simp only [okX, Bool.and_eq_true, decide_eq_true_eq] at hok
    omega
  have heach := okF_each (show okF x.size (-1) x.free = true by simp only [okX, Bool.and_eq_true] at hok; exact hok.2)
  rw [hn] at heach
  have hmk := run_mk (P := Try.prog) 61 4 i4 _ 1 Try.underlying61 hi4 jz0 jz1 n (by rw [jz2]; omega) (by omega)
  rw [made_bits] at hmk
  obtain ⟨b, rfl, hb⟩ := h
  obtain ⟨A, c, rfl, h1, h2, h3⟩ := hb.open
  rw [hn]
  clear hok hn hb
  generalize x.free = l at *
  obtain ⟨N, hN⟩ : ∃ N, N = l.length := ⟨_, rfl⟩
  rw [← hN] at h1 ⊢
  replace h3 := hide h3; replace heach := hide heach; replace hmk := hide hmk; replace hN := hide hN
  clear jz0 jz1 jz2 hi4
  go_enter Try.func42, Try.ntmps42
  have hmk' := unhide hmk
  go_wp2_with fail
  clear hmk' hmk
  obtain ⟨gO, hgO⟩ : ∃ gO, gO = w.heap.size + 1 := ⟨_, rfl⟩
  rw [← hgO]
  have M0 : Hid (Blk ((w.alloc (.cells #[.int .i64 n, .slice A N c] 24)).alloc (.cells (bitC n (freeB [])).toArray 4)) gO 4 (bitC n (freeB (l.take 0))).toArray) := hide (by rw [hgO]; exact Blk.new (by simp))
  replace hgO := hide hgO
  go_loopw [13] (fun i wx => ∃ (k : Nat), k ≤ N ∧ i = .int .i64 k ∧ Hid (Blk wx gO 4 (bitC n (freeB (l.take k))).toArray) ∧ Hid (Below w.heap.size w wx)) (fun i _ => N - (intOf i).toNat)
  case atStart => exact ⟨0, Nat.zero_le _, rfl, M0, hide (by (repeat (first | with_reducible exact Below.refl _ _ | with_reducible assumption | with_reducible refine Below.drew ?_ | with_reducible refine bl_alloc ?_ _ | with_reducible refine bl_call ?_ (by assumption) | (focus (with_reducible refine Below.setCell ?_ ?_ _; rotate_left; focus (first | omega | (simp <;> omega)))) | fail)))⟩
  case round =>
    clear M0
    obtain ⟨k, hk, rfl, M1, MB⟩ := hrel
    generalize wr = wx at *
    by_cases hlt : k < N
    · have hlt' : k < l.length := by rw [← unhide hN]; exact hlt
      obtain ⟨gb, go, rfl, gb1, glt, p0, p1⟩ := unhide h3 k hlt'
      have c0 := ((unhide MB).cell (p := ⟨gb, go + k * 2, none⟩) glt).trans p0
      have c1 := ((unhide MB).cell (p := ⟨gb, go + k * 2 + 1, none⟩) glt).trans p1
      obtain ⟨s0, s1, s2⟩ := unhide heach l[k] (List.getElem_mem _)
      have hsn : l.take (k + 1) = l.take k ++ [l[k]] := List.take_succ_eq_append_getElem hlt'
      generalize l[k] = s at *
      generalize l.take k = L at *
      obtain ⟨sa, sl⟩ := s
      try dsimp only at c0 c1 s0 s1 s2
      have ybx : gb < wx.heap.size := World.block_lt_of_cell? wx _ c0
      obtain ⟨g19, hg19⟩ : ∃ g19, g19 = wx.heap.size := ⟨_, rfl⟩
      have yOx : gO < wx.heap.size := (unhide M1).lt
      have i3 : IntKind.i64.wrap ((k : Int) + 1) = (k : Int) + 1 := IntWalk.i64_in _ (by omega)
      replace hsn := hide hsn; replace i3 := hide i3
      clear p0 p1 gb1
      go_upto_region 5 with fail
      have I1 := (unhide M1).alloc (.cells #[.int .i64 sa, .int .i64 sl] 26)
      have I2 : Blk (wx.alloc (.cells #[.int .i64 sa, .int .i64 sl] 26)) wx.heap.size 26 #[.int .i64 sa, .int .i64 sl] := Blk.new rfl
      have I4 : Below w.heap.size w (wx.alloc (.cells #[.int .i64 sa, .int .i64 sl] 26)) := bl_alloc (unhide MB) _
      rw [show bitC n (freeB L) = bitC n (fun t => freeB L t || inB ⟨sa, sl⟩ 0 t) from bitC_congr fun t _ => by simp [inB]; omega] at I1
      generalize wx.alloc (.cells #[.int .i64 sa, .int .i64 sl] 26) = wi at *
      rw [← hg19] at I2 ⊢
      have q0 := I2.cell 0
      have q1 := I2.cell 1
      simp at q0 q1
      have y19 := I2.lt
      replace I1 := hide I1; replace I2 := hide I2; replace I4 := hide I4; replace hg19 := hide hg19
      have hgq : w.heap.size ≤ gO := by have := unhide hgO; omega
      have hne : gO ≠ g19 := by have := unhide hg19; omega
      clear c0 c1 ybx glt M1 MB
      go_wp2_with fail
      clear q0 q1 y19
      go_loopw [19] (fun i wy => ∃ (J : Int), 0 ≤ J ∧ J ≤ sl ∧ i = .int .i64 J ∧ Hid (Blk wy gO 4 (bitC n (fun t => freeB L t || inB ⟨sa, sl⟩ J t)).toArray) ∧ Hid (Blk wy g19 26 #[.int .i64 sa, .int .i64 sl]) ∧ Hid (Below w.heap.size w wy)) (fun i _ => sl.toNat - (intOf i).toNat)
      case atStart => exact ⟨0, by omega, by omega, rfl, I1, I2, I4⟩
      case round =>
        clear I1 I2 I4
        obtain ⟨J, hJ0, hJ1, rfl, I1, I2, I4⟩ := hrel
        generalize wr = wy at *
        have r0 := (unhide I2).cell 0
        have r1 := (unhide I2).cell 1
        simp at r0 r1
        have y19 : g19 < wy.heap.size := (unhide I2).lt
        have yO : gO < wy.heap.size := (unhide I1).lt
        by_cases hJ : J < sl
        · obtain ⟨t, ht⟩ : ∃ t : Nat, sa + J = (t : Int) := ⟨(sa + J).toNat, by omega⟩
          have htn : t < n := by omega
          have r2 : ∃ b, wy.cell? ⟨gO, t, none⟩ = some (.bool b) := by
            refine ⟨freeB L t || inB ⟨sa, sl⟩ J t, ?_⟩
            rw [(unhide I1).cell]
            simpa using bitC_get n _ t htn
          obtain ⟨b0, r2⟩ := r2
          have r3 := (unhide I1).frozen t
          have i1 : IntKind.i64.wrap (sa + J) = (t : Int) := by rw [ht]; exact IntWalk.i64_in _ (by omega)
          have i2 : IntKind.i64.wrap (J + 1) = J + 1 := IntWalk.i64_in _ (by omega)
          have d0 : (t : Int) < (n : Int) := by omega
          have d1 : (0 : Int) ≤ (t : Int) := by omega
          have I1' := (unhide I1).set t (.bool true)
          have hset : bitC n (fun u => if u = t then true else (freeB L u || inB ⟨sa, sl⟩ J u)) = bitC n (fun u => freeB L u || inB ⟨sa, sl⟩ (J + 1) u) := bitC_congr fun u _ => by
            by_cases hu : u = t
            · subst hu
              rw [if_pos rfl]
              simp [inB]; right; omega
            · rw [if_neg hu]
              congr 1
              simp only [inB]
              rw [Bool.eq_iff_iff]; simp; omega
          rw [List.setIfInBounds_toArray, bitC_set, hset] at I1'
          have I2' := (unhide I2).far (p := ⟨gO, t, none⟩) hne.symm (.bool true)
          have I4' := (unhide I4).setCell (p := ⟨gO, t, none⟩) hgq (.bool true)
          replace hset := hide hset; replace I1' := hide I1'; replace I2' := hide I2'; replace I4' := hide I4'
          clear I1 I2 I4 hset ht
          go_wp2_with fail
          clear i1 i2
          go_roundw
          case rel => exact ⟨J + 1, by omega, by omega, rfl, I1', I2', I4'⟩
          case measure => simp [intOf]; omega
        · obtain rfl : J = sl := by omega
          have I1' := unhide I1
          rw [show bitC n (fun t => freeB L t || inB ⟨sa, J⟩ J t) = bitC n (freeB (L ++ [⟨sa, J⟩])) from bitC_congr fun t _ => (freeB_snoc _ _ _).symm, ← unhide hsn] at I1'
          replace I1' := hide I1'
          clear I1
          have i4 := unhide i3
          go_wp2_with fail
          clear i4
          go_roundw
          case rel => exact ⟨k + 1, by omega, by go_num, I1', I4⟩
          case measure => simp [intOf]; omega
    · have M1' := unhide M1
      rw [List.take_of_length_le (by have := unhide hN; omega)] at M1'
      have MB' := unhide MB
      replace M1' := hide M1'; replace MB' := hide MB'
      clear M1 MB
      go_wp2_with fail
      go_ret
      exact ⟨gO, by have := unhide hgO; omega, rfl, unhide M1', unhide MB'⟩
end Go.Proofs.Yteokimebfbnlkaa
