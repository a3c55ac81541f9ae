import Derived.Test.YthmhhgodjpgjnaaW32
namespace Go.Proofs.Ythmhhgodjpgjnaa
open Go.RowKit

theorem elem23 : Try.prog.underlying 23 = some (.slice (Try.prog.elem 23)) := by kernel_rfl
theorem size5 : ∀ W, (sizeOf (Try.prog.elem 23)).run Try.prog W = .ok 1 W := fun W => by kernel_rfl
theorem slice_l23 (A : Option Addr) (n c i : Nat) (hi : i ≤ n) (W : World) :
    (Instr.slice 23 (.slice A n c) (some (.int .i64 (i : Int))) none none).run Try.prog W = .ok (sliced A i n c 1) W := by
  rw [run_slice_l (P := Try.prog) W 23 A n c elem23 .i64 i (by omega) (by omega), size5]
  simp [Result.andThen]

theorem okR_start {n : Int} {t : List Int} (hn : n ≤ 1024) (h : startE n t = 0) (ht : okB t) : OkR (startR n t) := by
  obtain ⟨h1, h2, h3, h4⟩ := startE_iff.1 h
  have hb : okB ((t.drop 1).take 4) := fun x hx => ht x (List.mem_of_mem_drop (List.mem_of_mem_take hx))
  have hl := num_lt hb
  have e : ((t.drop 1).take 4).length = 4 := by simp; omega
  rw [e] at hl
  refine ⟨(start_ok (n := n) hn).c, by simp [startR], ?_⟩
  simp only [startR]
  have : (256 : Int) ^ 4 = 4294967296 := by decide
  omega
theorem take4 {t : List Int} (h : 5 ≤ t.length) : (t.drop 1).take 4 = [t[1], t[2], t[3], t[4]] := by
  match t, h with
  | a :: b :: c :: d :: e :: r, _ => simp

set_option maxHeartbeats 4000000 in
theorem NewReader_good (n : Nat) (hn : n ≤ 1024) (lo : Nat) (v : Value) (t : List Int) (w : World) (hv : Os lo w.heap.size w v t) (ht : okB t) (hl : t.length ≤ 1000000) (h : startE n t = 0) :
    Calls Try.prog 16 #[.int .i64 n, v] w fun e w' => ∃ g gc gt ct, e = .returned (.tuple #[.pointer (some ⟨g, 0, none⟩), .int .i64 0]) ∧ Rdg w.heap.size g gc n gt ct w' (startR n t) t ∧ w.heap.size ≤ g ∧ Below w.heap.size w w' := by
  obtain ⟨h1, h5, h3, h4⟩ := startE_iff.1 h
  have hS := fun W => start_good n hn W
  have hC := fun W (hb : Below w.heap.size w W) => Clone_any lo v t W (hv.grow hb) hl (by omega)
  rw [take4 h5] at h4
  have hN := fun W => number_any t[1] t[2] t[3] t[4] (ht _ (List.getElem_mem _)) (ht _ (List.getElem_mem _)) (ht _ (List.getElem_mem _)) (ht _ (List.getElem_mem _)) W
  have hstart : startR n t = ⟨List.replicate n 1024, 4294967295, num [t[1], t[2], t[3], t[4]], 5⟩ := by unfold startR; rw [take4 h5]; simp
  rw [hstart]
  obtain ⟨A, c, rfl, x1, x2, x3⟩ := hv.open
  obtain ⟨b, off, rfl, y1, y2, q0⟩ := x3 0 (by omega)
  have qq : ∀ i (hi : i < t.length), w.cell? ⟨b, off + i, none⟩ = some (.int .u8 t[i]) := fun i hi => by
    obtain ⟨b', off', e, _, _, hc⟩ := x3 i hi
    injection e with e; injection e with e1 e2; subst e1 e2
    exact hc
  have q1 := qq 1 (by omega); have q2 := qq 2 (by omega); have q3 := qq 3 (by omega); have q4 := qq 4 (by omega)
  have e0 : t[0] = 0 := by rw [← getD_get (l := t) (k := 0) (by omega)]; exact h3
  rw [e0, Nat.add_zero] at q0
  have sl := slice_l23 (some ⟨b, off, none⟩) t.length c 1 (by omega)
  unfold sliced at sl
  rw [if_neg (by omega)] at sl
  have hL : 5 ≤ (t.length : Int) := by omega
  have ra : ∀ W, (Instr.arrayAt 76 (.slice (some ⟨b, off + 1, none⟩) (t.length - 1) (c - 1))).run Try.prog W = .ok (.pointer (some ⟨b, off + 1, none⟩)) W := fun W => by
    have h4 : ¬ t.length - 1 < 4 := by omega
    simp [Instr.arrayAt, run_underlying Try.underlying76, h4]
  generalize num [t[1], t[2], t[3], t[4]] = N at *
  generalize t[1] = o1 at *; generalize t[2] = o2 at *; generalize t[3] = o3 at *; generalize t[4] = o4 at *
  clear x3 qq h h3 hv ht e0
  have hne : (N == 4294967295) = false := by simpa using h4
  replace hS := hide hS; replace hC := hide hC; replace hN := hide hN; replace hstart := hide hstart
  clear h4
  go_enter Try.func16, Try.ntmps16
  go_wp2_with (first
    | (go_at_call 22; refine (unhide hS _).mono ?_; rintro e w1 ⟨gc, rfl, ho, hb1⟩; replace ho := hide ho; (obtain ⟨hc1, hf1⟩ := bcell hb1; have hz1 := hb1.size; (try have y0 : w.heap.size < w1.heap.size := (by (simp at hz1; omega))); (try have y1 : w.heap.size + 1 < w1.heap.size := (by (simp at hz1; omega))); (try have y2 : w.heap.size + 2 < w1.heap.size := (by (simp at hz1; omega))); (try have y3 : w.heap.size + 3 < w1.heap.size := (by (simp at hz1; omega))); clear hz1); have y9 : b < w1.heap.size := (by have := hb1.size; omega))
    | (go_at_call 32; refine (unhide hN _).mono ?_; rintro e w2 ⟨rfl, hb2⟩)
    | fail)
  have hK6 := (Blk.new (w := w1) (g := w1.heap.size) (t := 57) (cs := #[.int .u32 4294967295, .slice (some ⟨gc, 0, none⟩) n n]) rfl).below hb2 (by simp)
  have ho2 := own_below ((unhide ho).alloc (.cells #[.int .u32 4294967295, .slice (some ⟨gc, 0, none⟩) n n] 57)) hb2 (Nat.le_refl _)
  have hB2 : Below w.heap.size w w2 := by (repeat (first | with_reducible exact Below.refl _ _ | with_reducible assumption | with_reducible refine Below.drew ?_ | with_reducible refine bl_alloc ?_ _ | with_reducible refine bl_call ?_ (by assumption) | (focus (with_reducible refine Below.setCell ?_ ?_ _; rotate_left; focus (first | omega | (simp <;> omega)))) | fail))
  have z0 : w2.cell? ⟨w1.heap.size, 0, none⟩ = some (.int .u32 4294967295) := hK6.cell 0
  have z1 : w2.cell? ⟨w1.heap.size, 1, none⟩ = some (.slice (some ⟨gc, 0, none⟩) n n) := hK6.cell 1
  have z2 := hK6.lt
  generalize w1.heap.size = g6 at *
  replace ho2 := hide ho2; replace hB2 := hide hB2; replace hK6 := hide hK6
  clear hb2 ho hb1 hc1 hf1 y9 q0 q1 q2 q3 q4 ra sl
  go_region_held3 (fun W => W.cell? ⟨g6, 0, none⟩ = some (.int .u32 4294967295) ∧ W.cell? ⟨g6, 1, none⟩ = some (.slice (some ⟨gc, 0, none⟩) n n)) (first | exact ⟨by assumption, by assumption⟩ | exact ⟨by go_simp, by go_simp⟩)
    (first
      | (go_at_call 33; refine (unhide hC w2.drew (unhide hB2).drew).mono ?_; rintro e w3 ⟨gt, ct, rfl, ho3, hb3⟩
         have K7 := (unhide hK6).drew.below hb3 (unhide hK6).lt
         have u0 : w3.cell? ⟨g6, 0, none⟩ = some (.int .u32 4294967295) := K7.cell 0
         have u1 : w3.cell? ⟨g6, 1, none⟩ = some (.slice (some ⟨gc, 0, none⟩) n n) := K7.cell 1
         have r3 := own_below (own_drew (unhide ho2)) hb3 (Nat.le_refl _)
         have B3 : Below w.heap.size w w3 := bl_call (unhide hB2).drew hb3
         replace ho3 := hide ho3; replace r3 := hide r3; replace B3 := hide B3
         have u2 := K7.lt
         have s3 : w.heap.size ≤ w2.drew.heap.size := (unhide hB2).size
         replace s3 := hide s3
         clear K7 hb3))
  all_goals go_wp2_with fail
  all_goals go_ret2
  all_goals exact ⟨w3.heap.size, gc, gt, ct, rfl, ⟨by rw [List.length_replicate]; exact Blk.new rfl, by rw [List.length_replicate]; exact (unhide r3).alloc _, (ownsRow_mono (unhide ho3) (unhide s3)).alloc _⟩, (unhide B3).size, (unhide B3).alloc (unhide B3).size _⟩
end Go.Proofs.Ythmhhgodjpgjnaa
