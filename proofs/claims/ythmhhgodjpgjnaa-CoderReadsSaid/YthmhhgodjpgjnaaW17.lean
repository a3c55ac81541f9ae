import Derived.Test.YthmhhgodjpgjnaaW16
import Derived.Test.YthmhhgodjpgjnaaBase2
import Derived.Test.YthmhhgodjpgjnaaE1
namespace Go.Proofs.Ythmhhgodjpgjnaa
open Go.RowKit

theorem elem22 : Try.prog.underlying 24 = some (.slice (Try.prog.elem 24)) := by kernel_rfl
theorem size3 : ∀ W, (sizeOf (Try.prog.elem 24)).run Try.prog W = .ok 1 W := fun W => by kernel_rfl
theorem slice_h22 (A : Option Addr) (n c j : Nat) (hj : j ≤ c) (W : World) :
    (Instr.slice 24 (.slice A n c) none (some (.int .i64 (j : Int))) none).run Try.prog W = .ok (sliced A 0 j c 1) W := by
  rw [run_slice_h (P := Try.prog) W 24 A n c elem22 .i64 j (by omega) (by omega), size3]
  simp [Result.andThen]
theorem slice_l22 (A : Option Addr) (n c i : Nat) (hi : i ≤ n) (W : World) :
    (Instr.slice 24 (.slice A n c) (some (.int .i64 (i : Int))) none none).run Try.prog W = .ok (sliced A i n c 1) W := by
  rw [run_slice_l (P := Try.prog) W 24 A n c elem22 .i64 i (by omega) (by omega), size3]
  simp [Result.andThen]

/-- The first 'k' of 'n' cells are laid. -/
def rep (n k : Nat) : List Value := List.replicate k (.int .i64 1024) ++ List.replicate (n - k) (.int .i64 0)
theorem rep_len {n k : Nat} (h : k ≤ n) : (rep n k).length = n := by simp [rep]; omega
theorem rep_splice {n k m : Nat} (h : k + m ≤ n) : splice (rep n k) k (List.replicate m (.int .i64 1024)) = rep n (k + m) := by
  unfold splice rep
  rw [List.take_left' (by simp), List.length_replicate, List.drop_append, List.drop_eq_nil_of_le (by simp), List.drop_replicate, List.length_replicate, List.nil_append, ← List.append_assoc, List.replicate_append_replicate, show n - k - (k + m - k) = n - (k + m) by omega]
theorem rep_get {n k i : Nat} (h : i < k) : (rep n k)[i]? = some (.int .i64 1024) := by
  unfold rep
  rw [List.getElem?_append_left (by simpa using h)]
  simp [h]
theorem info3' : ∃ i, Try.prog.info? 3 = some i ∧ i.zero = some (.int .i64 0) ∧ i.size = 1 ∧ i.bytes = 8 := info_parts info3
theorem made_rep (n : Nat) : madeCells (Value.int .i64 0).cells (n * 1) = (rep n 0).toArray := by
  have hz : (madeCells (Value.int .i64 0).cells (n * 1)).toList = List.replicate (n * 1) (.int .i64 0) := toList_madeCells_one _ _
  rw [← Array.toArray_toList (xs := madeCells (Value.int .i64 0).cells (n * 1)), hz]
  simp [rep]
theorem addk (g k : Nat) : (⟨g, 0, none⟩ : Addr).add k = ⟨g, k, none⟩ := by
  unfold Addr.add
  split
  · rename_i h; subst h; rfl
  · simp
set_option maxHeartbeats 1000000 in
theorem repeat_any (n : Nat) (hn : n ≤ 1024) (g0 : Nat) (w : World) (hg : Blk w g0 3 #[.int .i64 1024]) :
    Calls Try.prog 43 #[.slice (some ⟨g0, 0, none⟩) 1 1, .int .i64 n] w fun e w' => ∃ g, e = .returned (.slice (some ⟨g, 0, none⟩) n n) ∧ Blk w' g 3 (rep n n).toArray ∧ w.heap.size ≤ g ∧ Below w.heap.size w w' := by
  obtain ⟨i0, hi0, hz0, hz1, hz2⟩ := info3'
  have hmk := run_mk (P := Try.prog) 24 3 i0 _ 1 Try.underlying24 hi0 hz0 hz1 n (by rw [hz2]; omega) (by omega)
  rw [made_rep] at hmk
  have hM := fun W => Mul_one n hn W
  have e1 : IntKind.u64.wrap (n : Int) = n := by rw [IntKind.wrap_u64]; omega
  have e2 : IntKind.i64.wrap (n : Int) = n := IntWalk.i64_in _ (by omega)
  have k0 : ¬ (n : Int) < 0 := by omega
  replace hmk := hide hmk; replace hM := hide hM
  obtain ⟨m0, hm0⟩ : ∃ m0, m0 = Nat.min 1 n := ⟨_, rfl⟩
  have f0 : (rep n 0).length = n := rep_len (by omega)
  have f1 : (List.replicate m0 (Value.int .i64 1024)).length = m0 * 1 := by simp
  have f2 : SrcOk w (some ⟨g0, 0, none⟩) m0 (List.replicate m0 (.int .i64 1024)) := SrcOk.blk (cur := [.int .i64 1024]) hg fun j u hu => by
    have hj : j < m0 := by simpa using (List.getElem?_eq_some_iff.1 hu).1
    have hm1 : m0 ≤ 1 := by rw [hm0]; exact Nat.min_le_left _ _
    obtain rfl : j = 0 := by omega
    simp [List.getElem?_replicate] at hu
    simpa using hu.2
  have f3 : 0 + (List.replicate m0 (Value.int .i64 1024)).length ≤ (rep n 0).length := by
    have : m0 ≤ n := by rw [hm0]; exact Nat.min_le_right _ _
    simp [f0]; omega
  have f4 : ∀ k, ∀ v ∈ List.replicate k (Value.int .i64 1024), v.oneCell' = true := fun k v hv => by rw [(List.mem_replicate.1 hv).2]; rfl
  have f5 := rep_splice (n := n) (k := 0) (m := m0) (by have : m0 ≤ n := (by rw [hm0]; exact Nat.min_le_right _ _); omega)
  have m01 : m0 ≤ n := by rw [hm0]; exact Nat.min_le_right _ _
  have m02 : n ≠ 0 → m0 = 1 := fun h => by rw [hm0]; exact Nat.min_eq_left (by omega)
  rw [Nat.zero_add] at f5
  have hl := hg.lt
  have f6 : SrcOk (w.alloc (.cells (rep n 0).toArray 3)) (some ⟨g0, 0, none⟩) (List.replicate m0 (Value.int .i64 1024)).length (List.replicate m0 (.int .i64 1024)) := by
    rw [List.length_replicate]; exact f2.below ((Below.refl _ _).alloc (Nat.le_refl _) _)
  replace f6 := hide f6; replace f0 := hide f0; replace f1 := hide f1; replace f2 := hide f2; replace f3 := hide f3; replace f4 := hide f4; replace f5 := hide f5; replace hm0 := hide hm0; replace m02 := hide m02
  go_enter Try.func43, Try.ntmps43
  go_wp2_with (first
    | (go_at_call 46; refine (unhide hM _).mono ?_; rintro e w1 ⟨rfl, rfl⟩; have hmk' := unhide hmk)
    | (refine wpList_copyN rfl (.tmp 31) (.tmp 32) 24 24 rfl 3 1 Try.underlying24 (by kernel_rfl) _ _ _ _ _ _ rfl rfl w.heap.size 0 (rep n 0) 3 (Blk.new rfl) (List.replicate m0 (.int .i64 1024)) m0 (unhide hm0) (unhide f1) (fun _ => ⟨rfl, unhide f6⟩) (unhide f3) (unhide f4 _) ?_
       clear hmk'
       intro w3 B3 O3
       rw [unhide f5] at B3)
    | fail)
  have hB3 : Below w.heap.size w w3 := ((Below.refl w.heap.size w).alloc (Nat.le_refl _) _).trans (O3.below (Nat.le_refl _))
  replace hB3 := hide hB3
  clear O3
  obtain ⟨g, hgg⟩ : ∃ g, g = w.heap.size := ⟨_, rfl⟩
  rw [← hgg] at B3
  have hge : w.heap.size ≤ g := by omega
  clear f2 hM hg
  rw [← hgg]
  replace hgg := hide hgg
  go_loopw [8] (fun i wr => ∃ (k : Nat), k ≤ n ∧ (n ≠ 0 → 0 < k) ∧ i = .int .i64 k ∧ Hid (Blk wr g 3 (rep n k).toArray) ∧ Hid (Below w.heap.size w wr)) (fun i _ => n - (intOf i).toNat)
  case atStart => exact ⟨m0, m01, fun h => by have := unhide m02 h; omega, rfl, B3, hB3⟩
  case round =>
    obtain ⟨k, hk, hk1, rfl, hB, hb⟩ := hrel
    by_cases hlt : k < n
    · have s1 := slice_l22 (some ⟨g, 0, none⟩) n n k (by omega)
      have s2 := slice_h22 (some ⟨g, 0, none⟩) n n k (by omega)
      unfold sliced at s1 s2
      rw [if_neg (by omega)] at s1 s2
      simp only [Option.map_some, Nat.mul_one, addk, Nat.sub_zero] at s1 s2
      obtain ⟨m, hm⟩ : ∃ m, m = Nat.min k (n - k) := ⟨_, rfl⟩
      have mk1 : m ≤ k := by rw [hm]; exact Nat.min_le_left _ _
      have mk2 : m ≤ n - k := by rw [hm]; exact Nat.min_le_right _ _
      have mk3 : 0 < m := by
        rw [hm]
        exact Nat.lt_min.2 ⟨hk1 (by omega), by omega⟩
      have x1 : (List.replicate m (Value.int .i64 1024)).length = m * 1 := by simp
      have x2 : SrcOk wr (some ⟨g, 0, none⟩) m (List.replicate m (.int .i64 1024)) := SrcOk.blk (cur := rep n k) (unhide hB) fun j u hu => by
        have hj : j < m := by simpa using (List.getElem?_eq_some_iff.1 hu).1
        rw [Nat.zero_add, rep_get (by omega), ← hu]
        simp [hj]
      have x3 : k + (List.replicate m (Value.int .i64 1024)).length ≤ (rep n k).length := by rw [rep_len hk]; simp; omega
      have x4 := rep_splice (n := n) (k := k) (m := m) (by omega)
      have i1 : IntKind.i64.wrap ((k : Int) + (m : Int)) = ((k + m : Nat) : Int) := by rw [← Int.natCast_add]; exact IntWalk.i64_in _ (by omega)
      replace x1 := hide x1; replace x2 := hide x2; replace x3 := hide x3; replace x4 := hide x4; replace hm := hide hm
      clear hk1 m01
      go_wp2_with fail
      go_region_held3 (fun _ => True) (trivial) (first | (refine step_copyN rfl (.tmp 41) (.tmp 44) 24 24 rfl 3 1 Try.underlying24 (by kernel_rfl) _ _ _ _ _ _ rfl rfl g k (rep n k) 3 (Blk.drew (unhide hB)) (List.replicate m (.int .i64 1024)) m (unhide hm) (unhide x1) (fun _ => ⟨rfl, by rw [List.length_replicate]; exact (show SrcOk wr.drew _ _ _ from unhide x2)⟩) (unhide x3) (unhide f4 _) ?_; intro w4 B4 O4))
      have hw4 : Below w.heap.size w w4 := ((unhide hb).drew).trans (O4.below hge)
      rw [unhide x4] at B4
      clear O4 i1
      replace hw4 := hide hw4
      go_wp2_with fail
      go_roundw
      case rel => exact ⟨k + m, by omega, fun _ => by omega, by simp, B4, hw4⟩
      case measure => simp [intOf]; omega
    · obtain rfl : k = n := by omega
      go_wp2_with fail
      go_ret
      exact ⟨g, rfl, unhide hB, hge, unhide hb⟩

theorem rep_flat (n : Nat) : rep n n = (List.replicate n (1024 : Int)).flatMap ivc := by
  unfold rep
  rw [Nat.sub_self, List.replicate_zero, List.append_nil]
  induction n with
  | zero => rfl
  | succ n ih => rw [List.replicate_succ, List.replicate_succ, List.flatMap_cons, ih]; rfl

set_option maxHeartbeats 1000000 in
theorem New_good (n : Nat) (hn : n ≤ 1024) (w : World) :
    Calls Try.prog 37 #[.int .i64 n] w fun e w' => ∃ A c, e = .returned (.tuple #[.slice A n c, .int .i64 0]) ∧ Is 0 w'.heap.size w' (.slice A n c) (List.replicate n 1024) ∧ Below w.heap.size w w' := by
  have hR := fun g W hg => repeat_any n hn g W hg
  have k0 : ¬ (n : Int) < 0 := by omega
  have k1 : ¬ (1024 : Int) < (n : Int) := by omega
  replace hR := hide hR
  go_enter Try.func37, Try.ntmps37
  go_wp2_with (first
    | (go_at_call 43; refine (unhide hR _ _ (Blk.new rfl)).mono ?_; rintro e w1 ⟨g, rfl, hB, hg, hb1⟩; replace hB := hide hB)
    | fail)
  go_ret2
  have hB' := unhide hB
  rw [rep_flat] at hB'
  exact ⟨_, n, rfl, Is.of_blk (l := List.replicate n 1024) hB' (by simp) (by simp; omega) n (by simp), by (repeat (first | with_reducible exact Below.refl _ _ | with_reducible assumption | with_reducible refine Below.drew ?_ | with_reducible refine bl_alloc ?_ _ | with_reducible refine bl_call ?_ (by assumption) | (focus (with_reducible refine Below.setCell ?_ ?_ _; rotate_left; focus (first | omega | (simp <;> omega)))) | fail))⟩

set_option maxHeartbeats 1000000 in
theorem New_bad (n : Int) (hn : newN n = false) (w : World) :
    Calls Try.prog 37 #[.int .i64 n] w fun e w' => e = .returned (.tuple #[.slice none 0 0, .int .i64 1]) ∧ Below w.heap.size w w' := by
  by_cases k0 : n < 0
  · clear hn
    go_enter Try.func37, Try.ntmps37
    go_wp2
    go_ret2
    exact ⟨rfl, by (repeat (first | with_reducible exact Below.refl _ _ | with_reducible assumption | with_reducible refine Below.drew ?_ | with_reducible refine bl_alloc ?_ _ | with_reducible refine bl_call ?_ (by assumption) | (focus (with_reducible refine Below.setCell ?_ ?_ _; rotate_left; focus (first | omega | (simp <;> omega)))) | fail))⟩
  · have k1 : 1024 < n := by simp [newN] at hn; omega
    clear hn
    go_enter Try.func37, Try.ntmps37
    go_wp2
    go_ret2
    exact ⟨rfl, by (repeat (first | with_reducible exact Below.refl _ _ | with_reducible assumption | with_reducible refine Below.drew ?_ | with_reducible refine bl_alloc ?_ _ | with_reducible refine bl_call ?_ (by assumption) | (focus (with_reducible refine Below.setCell ?_ ?_ _; rotate_left; focus (first | omega | (simp <;> omega)))) | fail))⟩

set_option maxHeartbeats 1000000 in
theorem refNew_bad (n : Int) (hn : newN n = false) (w : World) :
    Calls Try.prog 28 #[.int .i64 n] w fun e w' => e = .returned (.tuple #[.slice none 0 0, .int .i64 1]) ∧ Below w.heap.size w w' := by
  by_cases k0 : n < 0
  · clear hn
    go_enter Try.func28, Try.ntmps28
    go_wp2
    go_ret2
    exact ⟨rfl, by (repeat (first | with_reducible exact Below.refl _ _ | with_reducible assumption | with_reducible refine Below.drew ?_ | with_reducible refine bl_alloc ?_ _ | with_reducible refine bl_call ?_ (by assumption) | (focus (with_reducible refine Below.setCell ?_ ?_ _; rotate_left; focus (first | omega | (simp <;> omega)))) | fail))⟩
  · have k1 : 1024 < n := by simp [newN] at hn; omega
    clear hn
    go_enter Try.func28, Try.ntmps28
    go_wp2
    go_ret2
    exact ⟨rfl, by (repeat (first | with_reducible exact Below.refl _ _ | with_reducible assumption | with_reducible refine Below.drew ?_ | with_reducible refine bl_alloc ?_ _ | with_reducible refine bl_call ?_ (by assumption) | (focus (with_reducible refine Below.setCell ?_ ?_ _; rotate_left; focus (first | omega | (simp <;> omega)))) | fail))⟩

set_option maxHeartbeats 1000000 in
theorem refNew_good (n : Nat) (hn : n ≤ 1024) (w : World) :
    Calls Try.prog 28 #[.int .i64 n] w fun e w' => ∃ A c, e = .returned (.tuple #[.slice A n c, .int .i64 0]) ∧ Is 0 w'.heap.size w' (.slice A n c) (List.replicate n 1024) ∧ Below w.heap.size w w' := by
  obtain ⟨i0, hi0, hz0, hz1, hz2⟩ := info3'
  have k0 : ¬ (n : Int) < 0 := by omega
  have k1 : ¬ (1024 : Int) < (n : Int) := by omega
  go_enter Try.func28, Try.ntmps28
  go_wp2_with fail
  clear k0 k1
  go_loopw [4, 12] (fun s i wr => ∃ (k : Nat) (A : Option Addr) (c : Nat), k ≤ n ∧ i = .int .i64 k ∧ s = .slice A k c ∧ Hid (wr.ownsRow w.heap.size 3 1 (.slice A k c) k ((List.replicate k (1024 : Int)).flatMap ivc)) ∧ Hid (Below w.heap.size w wr)) (fun _ i _ => n - (intOf i).toNat)
  case atStart => exact ⟨0, none, 0, Nat.zero_le _, rfl, rfl, hide (World.ownsRow_nil _ _ _ _), hide (by (repeat (first | with_reducible exact Below.refl _ _ | with_reducible assumption | with_reducible refine Below.drew ?_ | with_reducible refine bl_alloc ?_ _ | with_reducible refine bl_call ?_ (by assumption) | (focus (with_reducible refine Below.setCell ?_ ?_ _; rotate_left; focus (first | omega | (simp <;> omega)))) | fail)))⟩
  case round =>
    obtain ⟨k, A, c, hk, rfl, rfl, ho, hb⟩ := hrel
    by_cases hlt : k < n
    · have hsz := (unhide hb).size
      have ho1 := (unhide ho).alloc (.cells #[.int .i64 1024] 3)
      have hsrc : SrcOk (wr.alloc (.cells #[.int .i64 1024] 3)) (some ⟨wr.heap.size, 0, none⟩) 1 [.int .i64 1024] := SrcOk.blk (cur := [.int .i64 1024]) (Blk.new rfl) fun j u hu => by simpa using hu
      have hs1 : w.heap.size ≤ (wr.alloc (.cells #[.int .i64 1024] 3)).heap.size := by simp; omega
      have hb1 : k + 1 ≤ maxLen := by simp only [maxLen]; omega
      have hb2 : (k + 1) * 8 ≤ 140737488355328 := by omega
      have hbA := (unhide hb).alloc hsz (.cells #[.int .i64 1024] 3)
      have hf : (List.replicate (k + 1) (1024 : Int)).flatMap ivc = (List.replicate k (1024 : Int)).flatMap ivc ++ [.int .i64 1024] := by
        rw [List.replicate_succ', List.flatMap_append]; rfl
      have h1c : ∀ u ∈ [Value.int .i64 1024], u.oneCell' = true := by intro u hu; simp at hu; subst hu; rfl
      generalize (List.replicate k (1024 : Int)).flatMap ivc = xs at *
      replace ho1 := hide ho1; replace hsrc := hide hsrc; replace hs1 := hide hs1; replace hb1 := hide hb1; replace hb2 := hide hb2; replace hbA := hide hbA; replace hf := hide hf; replace h1c := hide h1c; replace hsz := hide hsz
      go_wp2_with (first
        | (at_builtin
           refine wpList_app _ rfl (.tmp 14) (.tmp 15) 24 rfl w.heap.size 3 i0 _ 1 8 Try.underlying24 hi0 hz0 hz1 hz2 rfl (Nat.succ_pos _) _ k xs rfl (unhide ho1) (some ⟨wr.heap.size, 0, none⟩) 1 1 [.int .i64 1024] rfl rfl (unhide hsrc) (unhide h1c) (unhide hb1) (unhide hb2) (unhide hs1) ?_
           intro v4 w4 ho5 hg4
           obtain ⟨A5, c5, rfl⟩ := ownsRow_form ho5
           have hb5 : Below w.heap.size w w4 := bl_grown (unhide hbA) hg4 (own_base (unhide ho1))
           replace hb5 := hide hb5
           clear hg4
           replace ho5 := hide ho5)
        | fail)
      go_roundw
      case rel => exact ⟨k + 1, A5, c5, by omega, by go_num, rfl, hide (by rw [unhide hf]; exact unhide ho5), hb5⟩
      case measure => simp [intOf]; omega
    · obtain rfl : k = n := by omega
      go_wp2_with fail
      go_ret2
      have := Rd.of_own ivc_len (by omega) (unhide ho)
      exact ⟨A, c, rfl, this.mono (Nat.zero_le _) (Nat.le_refl _), unhide hb⟩
end Go.Proofs.Ythmhhgodjpgjnaa
