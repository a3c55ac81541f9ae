import Derived.Test.YtkgfmiicfegnlaaT11
namespace Go.Proofs.Ytkgfmiicfegnlaa
open Go.RowKit
attribute [local go_sem] bz_size bz_toList run_store_float
set_option maxRecDepth 100000

theorem elem22 : Try.prog.underlying 22 = some (.slice (Try.prog.elem 22)) := by kernel_rfl
theorem size26 : ∀ W, (sizeOf (Try.prog.elem 22)).run Try.prog W = .ok 6 W := fun W => by kernel_rfl
theorem fslice_h (A : Option Addr) (n c j : Nat) (hj : j ≤ c) (W : World) :
    (Instr.slice 22 (.slice A n c) none (some (.int .i64 (j : Int))) none).run Try.prog W = .ok (sliced A 0 j c 6) W := by
  rw [run_slice_h (P := Try.prog) W 22 A n c elem22 .i64 j (by omega) (by omega), size26]
  simp [Result.andThen]
theorem fslice_l (A : Option Addr) (n c i : Nat) (hi : i ≤ n) (W : World) :
    (Instr.slice 22 (.slice A n c) (some (.int .i64 (i : Int))) none none).run Try.prog W = .ok (sliced A i n c 6) W := by
  rw [run_slice_l (P := Try.prog) W 22 A n c elem22 .i64 i (by omega) (by omega), size26]
  simp [Result.andThen]
theorem Rd.part6 {lo hi : Nat} {w : World} {A : Option Addr} {n c : Nat} {l : List Fl} (h : Fls lo hi w (.slice A n c) l) (i j : Nat) (hij : i ≤ j) (hj : j ≤ l.length) :
    ∃ A', sliced A i j c 6 = .slice A' (j - i) (c - i) ∧ Fls lo hi w (.slice A' (j - i) (c - i)) ((l.drop i).take (j - i)) := by
  obtain ⟨A', c', e, h1, h2, h3⟩ := h
  injection e with e1 e2 e3
  subst e1 e2 e3
  refine ⟨if c = i then A else A.map (·.add (i * 6)), rfl, ?_⟩
  have hlen : ((l.drop i).take (j - i)).length = j - i := by rw [List.length_take, List.length_drop]; omega
  refine ⟨_, c - i, by rw [hlen], by omega, by omega, fun h0 => ?_⟩
  obtain ⟨b, off, rfl, g1, g2, hc⟩ := h3 (by omega)
  rw [if_neg (by omega)]
  refine ⟨b, off + i * 6, ?_, g1, g2, fun q hq r u hu => ?_⟩
  · simp only [Option.map_some, Addr.add]
    split
    · rename_i h0
      have : i = 0 := by omega
      subst this; rfl
    · rfl
  · have hq' : i + q < l.length := by omega
    rw [List.getElem_take, List.getElem_drop] at hu
    have := hc (i + q) hq' r u hu
    rwa [show off + (i + q) * 6 + r = off + i * 6 + q * 6 + r by omega] at this
theorem own_src {w : World} {base : Nat} {v : Value} {l : List Fl} (h : OwnF w base v l) : ∃ A c, v = .slice A l.length c := ownsRow_form h

set_option maxHeartbeats 1000000 in
theorem without_any (lo hi : Nat) (v : Value) (l : List Fl) (i : Nat) (w : World) (h : Fls lo hi w v l) (hhi : hi ≤ w.heap.size) (hs : SmL l) (hl8 : l.length ≤ 100000) (hi' : i < l.length) :
    Calls Try.prog 40 #[v, .int .i64 (i : Int)] w fun e w' => ∃ v', e = .returned v' ∧ OwnF w' w.heap.size v' (l.take i ++ l.drop (i + 1)) ∧ Below w.heap.size w w' := by
  have hh := h
  obtain ⟨A, c, rfl, h1, h2, h3⟩ := hh
  clear h3
  obtain ⟨A0, s0, z0⟩ := h.part6 0 i (by omega) (by omega)
  obtain ⟨A2, s2, z2⟩ := h.part6 (i + 1) l.length (by omega) (by omega)
  rw [List.drop_zero, Nat.sub_zero, Nat.sub_zero] at z0
  rw [Nat.sub_zero, Nat.sub_zero] at s0
  rw [List.take_of_length_le (by rw [List.length_drop]; omega)] at z2
  have t0 := fslice_h A l.length c i (by omega)
  have t2 := fslice_l A l.length c (i + 1) (by omega)
  rw [s0] at t0
  rw [s2] at t2
  have hT : ∀ W g, Below w.heap.size w W → g < W.heap.size → W.cell? ⟨g, 0, none⟩ = some (.slice A0 i c) → W.cell? ⟨g, 1, none⟩ = some (.slice A2 (l.length - (i + 1)) (c - (i + 1))) →
      Calls Try.prog 51 #[.slice (some ⟨g, 0, none⟩) 2 2] W fun e w' => ∃ v, e = .returned v ∧ OwnF w' W.heap.size v (l.take i ++ l.drop (i + 1)) ∧ Below W.heap.size W w' := fun W g hB hg c0 c1 => by
    have e0 : (l.take i).length = i := by rw [List.length_take]; omega
    have e2 : (l.drop (i + 1)).length = l.length - (i + 1) := List.length_drop
    have hL : Lists 0 W g [l.take i, l.drop (i + 1)] := fun k hk => by
      have hk : k < 2 := hk
      match k, hk with
      | 0, _ => exact ⟨A0, c, by simp only [List.getElem_cons_zero]; rw [e0]; exact c0, by simp only [List.getElem_cons_zero]; rw [e0]; exact (z0.below hB hhi).mono (Nat.zero_le _) (Nat.le_trans hhi hB.size)⟩
      | 1, _ => exact ⟨A2, c - (i + 1), by simp only [List.getElem_cons_succ, List.getElem_cons_zero]; rw [e2]; exact c1, by simp only [List.getElem_cons_succ, List.getElem_cons_zero]; rw [e2]; exact (z2.below hB hhi).mono (Nat.zero_le _) (Nat.le_trans hhi hB.size)⟩
    have hcat : cat [l.take i, l.drop (i + 1)] 2 = l.take i ++ l.drop (i + 1) := by simp [cat]
    have := together_any 0 g _ W hL hg (by simp) (by unfold upto; simp; omega) (fun f hf => by
      have : f ∈ l := by
        rw [show [l.take i, l.drop (i + 1)].length = 2 from rfl, hcat] at hf
        rcases List.mem_append.1 hf with hf | hf
        · exact List.mem_of_mem_take hf
        · exact List.mem_of_mem_drop hf
      have := (hs f this).1
      omega)
    rw [show [l.take i, l.drop (i + 1)].length = 2 from rfl, hcat] at this
    exact this
  have iw : IntKind.i64.wrap ((i : Int) + 1) = (i : Int) + 1 := IntWalk.i64_in _ (by omega)
  obtain ⟨m, hm⟩ : ∃ m, m = l.take i ++ l.drop (i + 1) := ⟨_, rfl⟩
  rw [← hm] at hT ⊢
  simp only [show ((i + 1 : Nat) : Int) = (i : Int) + 1 by omega] at t2
  clear h z0 z2 s0 s2 hs hm
  generalize l.length - (i + 1) = n2 at *
  generalize c - (i + 1) = c2 at *
  generalize l.length = n at *
  replace hT := hide hT; replace h1 := hide h1
  go_enter Try.func40, Try.ntmps40
  go_upto_region 1 with (fail)
  go_region_with ((go_at_call 51; refine (unhide hT _ _ (by (repeat (first | with_reducible exact Below.refl _ _ | with_reducible assumption | with_reducible refine Below.drew ?_ | with_reducible refine bl_alloc ?_ _ | with_reducible refine bl_call ?_ (by assumption) | (focus (with_reducible refine Below.setCell ?_ ?_ _; rotate_left; focus (first | omega | (simp <;> omega)))) | fail))) (by simp) (by simp) (by simp)).mono ?_; rintro e w1 ⟨v', rfl, O1, B1⟩))
  all_goals go_wp2
  all_goals go_ret
  all_goals exact ⟨v', rfl, ownsRow_mono O1 (by simp), Below.trans (b := w.drew.alloc (.cells #[.slice A0 i c, .slice A2 n2 c2] 22)) (by (repeat (first | with_reducible exact Below.refl _ _ | with_reducible assumption | with_reducible refine Below.drew ?_ | with_reducible refine bl_alloc ?_ _ | with_reducible refine bl_call ?_ (by assumption) | (focus (with_reducible refine Below.setCell ?_ ?_ _; rotate_left; focus (first | omega | (simp <;> omega)))) | fail))) (B1.mono (by simp))⟩
end Go.Proofs.Ytkgfmiicfegnlaa
