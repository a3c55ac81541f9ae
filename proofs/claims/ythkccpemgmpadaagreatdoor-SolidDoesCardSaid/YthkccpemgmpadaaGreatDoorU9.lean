import Derived.Test.YthkccpemgmpadaaGreatDoorU8
import Derived.Lib.SlBytesConst
namespace Go.Proofs.YthkccpemgmpadaaGreatDoor.P
set_option maxRecDepth 100000
open Go.RowKit
theorem elem23 : Tryz.prog.underlying 29 = some (.slice (Tryz.prog.elem 29)) := by kernel_rfl
theorem size5 : ∀ W, (sizeOf (Tryz.prog.elem 29)).run Tryz.prog W = .ok 1 W := fun W => by kernel_rfl
theorem slice_l23 (A : Option Addr) (n c i : Nat) (hi : i ≤ n) (W : World) :
    (Instr.slice 29 (.slice A n c) (some (.int .i64 (i : Int))) none none).run Tryz.prog W = .ok (sliced A i n c 1) W := by
  rw [run_slice_l (P := Tryz.prog) W 29 A n c elem23 .i64 i (by omega) (by omega), size5]
  simp [Result.andThen]
theorem okR_start {n : Int} {t : List Int} (hn : n ≤ 1024) (h : startE n t = 0) (ht : okB t) : OkR (startR n t) := by
  obtain ⟨h1, h2, h3, h4⟩ := startE_iff.1 h
  have hb : okB ((t.drop 1).take 4) := fun x hx => ht x (List.mem_of_mem_drop (List.mem_of_mem_take hx))
  have hl := num_lt hb
  have e : ((t.drop 1).take 4).length = 4 := by simp; omega
  rw [e] at hl
  refine ⟨(start_ok (n := n) hn).c, by simp [startR], ?_⟩
  simp only [startR]
  have : (256 : Int) ^ 4 = 4294967296 := by decide
  omega
theorem take4 {t : List Int} (h : 5 ≤ t.length) : (t.drop 1).take 4 = [t[1], t[2], t[3], t[4]] := by
  match t, h with
  | a :: b :: c :: d :: e :: r, _ => simp
set_option maxHeartbeats 4000000 in
theorem NewReader_good (n : Nat) (hn : n ≤ 1024) (lo : Nat) (v : Value) (t : List Int) (w : World) (hv : Os lo w.heap.size w v t) (ht : okB t) (hl : t.length ≤ 1000000) (h : startE n t = 0) :
    Calls Tryz.prog 108 #[.int .i64 n, v] w fun e w' => ∃ g gc gt ct, e = .returned (.tuple #[.pointer (some ⟨g, 0, none⟩), .int .i64 0]) ∧ Rdg w.heap.size g gc n gt ct w' (startR n t) t ∧ w.heap.size ≤ g ∧ Below w.heap.size w w' := by
  obtain ⟨h1, h5, h3, h4⟩ := startE_iff.1 h
  have hS := fun W => start_good n hn W
  have hC := fun W (hb : Below w.heap.size w W) => Clone_any lo v t W (hv.grow hb) hl (by omega)
  rw [take4 h5] at h4
  have hN := fun W => number_any t[1] t[2] t[3] t[4] (ht _ (List.getElem_mem _)) (ht _ (List.getElem_mem _)) (ht _ (List.getElem_mem _)) (ht _ (List.getElem_mem _)) W
  have hstart : startR n t = ⟨List.replicate n 1024, 4294967295, num [t[1], t[2], t[3], t[4]], 5⟩ := by unfold startR; rw [take4 h5]; simp
  rw [hstart]
  obtain ⟨A, c, rfl, x1, x2, x3⟩ := hv.open
  obtain ⟨b, off, rfl, y1, y2, q0⟩ := x3 0 (by omega)
  have qq : ∀ i (hi : i < t.length), w.cell? ⟨b, off + i, none⟩ = some (.int .u8 t[i]) := fun i hi => by
    obtain ⟨b', off', e, _, _, hc⟩ := x3 i hi
    injection e with e; injection e with e1 e2; subst e1 e2
    exact hc
  have q1 := qq 1 (by omega); have q2 := qq 2 (by omega); have q3 := qq 3 (by omega); have q4 := qq 4 (by omega)
  have e0 : t[0] = 0 := by rw [← getD_get (l := t) (k := 0) (by omega)]; exact h3
  rw [e0, Nat.add_zero] at q0
  have sl := slice_l23 (some ⟨b, off, none⟩) t.length c 1 (by omega)
  unfold sliced at sl
  rw [if_neg (by omega)] at sl
  have hL : 5 ≤ (t.length : Int) := by omega
  have ra : ∀ W, (Instr.arrayAt 93 (.slice (some ⟨b, off + 1, none⟩) (t.length - 1) (c - 1))).run Tryz.prog W = .ok (.pointer (some ⟨b, off + 1, none⟩)) W := fun W => by
    have h4 : ¬ t.length - 1 < 4 := by omega
    simp [Instr.arrayAt, run_underlying Tryz.underlying93, h4]
  generalize num [t[1], t[2], t[3], t[4]] = N at *
  generalize t[1] = o1 at *; generalize t[2] = o2 at *; generalize t[3] = o3 at *; generalize t[4] = o4 at *
  clear x3 qq h h3 hv ht e0
  have hne : (N == 4294967295) = false := by simpa using h4
  replace hS := hide hS; replace hC := hide hC; replace hN := hide hN; replace hstart := hide hstart
  clear h4
  go_enter Tryz.func108, Tryz.ntmps108
  go_wp2_with (first
    | (go_at_call 88; refine (unhide hS _).mono ?_; rintro e w1 ⟨gc, rfl, ho, hb1⟩; replace ho := hide ho; (obtain ⟨hc1, hf1⟩ := bcell hb1; have hz1 := hb1.size; (try have y0 : w.heap.size < w1.heap.size := (by (simp at hz1; omega))); (try have y1 : w.heap.size + 1 < w1.heap.size := (by (simp at hz1; omega))); (try have y2 : w.heap.size + 2 < w1.heap.size := (by (simp at hz1; omega))); (try have y3 : w.heap.size + 3 < w1.heap.size := (by (simp at hz1; omega))); clear hz1); have y9 : b < w1.heap.size := (by have := hb1.size; omega))
    | (go_at_call 127; refine (unhide hN _).mono ?_; rintro e w2 ⟨rfl, hb2⟩)
    | fail)
  have hK6 := (Blk.new (w := w1) (g := w1.heap.size) (t := 116) (cs := #[.int .u32 4294967295, .slice (some ⟨gc, 0, none⟩) n n]) rfl).below hb2 (by simp)
  have ho2 := own_below ((unhide ho).alloc (.cells #[.int .u32 4294967295, .slice (some ⟨gc, 0, none⟩) n n] 116)) hb2 (Nat.le_refl _)
  have hB2 : Below w.heap.size w w2 := by (repeat (first | with_reducible exact Below.refl _ _ | with_reducible assumption | with_reducible refine Below.drew ?_ | with_reducible refine bl_alloc ?_ _ | with_reducible refine bl_call ?_ (by assumption) | (focus (with_reducible refine Below.setCell ?_ ?_ _; rotate_left; focus (first | omega | (simp <;> omega)))) | fail))
  have z0 : w2.cell? ⟨w1.heap.size, 0, none⟩ = some (.int .u32 4294967295) := hK6.cell 0
  have z1 : w2.cell? ⟨w1.heap.size, 1, none⟩ = some (.slice (some ⟨gc, 0, none⟩) n n) := hK6.cell 1
  have z2 := hK6.lt
  generalize w1.heap.size = g6 at *
  replace ho2 := hide ho2; replace hB2 := hide hB2; replace hK6 := hide hK6
  clear hb2 ho hb1 hc1 hf1 y9 q0 q1 q2 q3 q4 ra sl
  go_region_held3 (fun W => W.cell? ⟨g6, 0, none⟩ = some (.int .u32 4294967295) ∧ W.cell? ⟨g6, 1, none⟩ = some (.slice (some ⟨gc, 0, none⟩) n n)) (first | exact ⟨by assumption, by assumption⟩ | exact ⟨by go_simp, by go_simp⟩)
    (first
      | (go_at_call 37; refine (unhide hC w2.drew (unhide hB2).drew).mono ?_; rintro e w3 ⟨gt, ct, rfl, ho3, hb3⟩
         have K7 := (unhide hK6).drew.below hb3 (unhide hK6).lt
         have u0 : w3.cell? ⟨g6, 0, none⟩ = some (.int .u32 4294967295) := K7.cell 0
         have u1 : w3.cell? ⟨g6, 1, none⟩ = some (.slice (some ⟨gc, 0, none⟩) n n) := K7.cell 1
         have r3 := own_below (own_drew (unhide ho2)) hb3 (Nat.le_refl _)
         have B3 : Below w.heap.size w w3 := bl_call (unhide hB2).drew hb3
         replace ho3 := hide ho3; replace r3 := hide r3; replace B3 := hide B3
         have u2 := K7.lt
         have s3 : w.heap.size ≤ w2.drew.heap.size := (unhide hB2).size
         replace s3 := hide s3
         clear K7 hb3))
  all_goals go_wp2_with fail
  all_goals go_ret2
  all_goals exact ⟨w3.heap.size, gc, gt, ct, rfl, ⟨by rw [List.length_replicate]; exact Blk.new rfl, by rw [List.length_replicate]; exact (unhide r3).alloc _, (ownsRow_mono (unhide ho3) (unhide s3)).alloc _⟩, (unhide B3).size, (unhide B3).alloc (unhide B3).size _⟩
set_option maxHeartbeats 2000000 in
theorem NewReader_arg (n : Int) (hn : newN n = false) (v : Value) (w : World) :
    Calls Tryz.prog 108 #[.int .i64 n, v] w fun e w' => e = .returned (.tuple #[.pointer none, .int .i64 1]) ∧ Below w.heap.size w w' := by
  have hS := fun W => start_bad n hn W
  replace hS := hide hS
  clear hn
  go_enter Tryz.func108, Tryz.ntmps108
  go_wp2_with (first
    | (go_at_call 88; refine (unhide hS _).mono ?_; rintro e w1 ⟨rfl, hb1⟩)
    | fail)
  go_ret2
  exact ⟨rfl, by (repeat (first | with_reducible exact Below.refl _ _ | with_reducible assumption | with_reducible refine Below.drew ?_ | with_reducible refine bl_alloc ?_ _ | with_reducible refine bl_call ?_ (by assumption) | (focus (with_reducible refine Below.setCell ?_ ?_ _; rotate_left; focus (first | omega | (simp <;> omega)))) | fail))⟩
set_option maxHeartbeats 2000000 in
theorem NewReader_few (n : Nat) (hn : n ≤ 1024) (lo : Nat) (v : Value) (t : List Int) (w : World) (hv : Os lo w.heap.size w v t) (h : t.length < 5) :
    Calls Tryz.prog 108 #[.int .i64 n, v] w fun e w' => e = .returned (.tuple #[.pointer none, .int .i64 2]) ∧ Below w.heap.size w w' := by
  have hS := fun W => start_good n hn W
  obtain ⟨A, c, rfl, x1, x2, x3⟩ := hv.open
  clear hv x3
  have h' : (t.length : Int) < 5 := by omega
  replace hS := hide hS
  go_enter Tryz.func108, Tryz.ntmps108
  go_wp2_with (first
    | (go_at_call 88; refine (unhide hS _).mono ?_; rintro e w1 ⟨gc, rfl, ho, hb1⟩; replace ho := hide ho)
    | fail)
  go_ret2
  exact ⟨rfl, by (repeat (first | with_reducible exact Below.refl _ _ | with_reducible assumption | with_reducible refine Below.drew ?_ | with_reducible refine bl_alloc ?_ _ | with_reducible refine bl_call ?_ (by assumption) | (focus (with_reducible refine Below.setCell ?_ ?_ _; rotate_left; focus (first | omega | (simp <;> omega)))) | fail))⟩
set_option maxHeartbeats 2000000 in
theorem NewReader_zero (n : Nat) (hn : n ≤ 1024) (lo : Nat) (v : Value) (t : List Int) (w : World) (hv : Os lo w.heap.size w v t) (h5 : 5 ≤ t.length) (h : t.getD 0 0 ≠ 0) :
    Calls Tryz.prog 108 #[.int .i64 n, v] w fun e w' => e = .returned (.tuple #[.pointer none, .int .i64 2]) ∧ Below w.heap.size w w' := by
  have hS := fun W => start_good n hn W
  obtain ⟨A, c, rfl, x1, x2, x3⟩ := hv.open
  obtain ⟨b, off, rfl, y1, y2, q0⟩ := x3 0 (by omega)
  rw [getD_get (l := t) (k := 0) (by omega)] at h
  rw [Nat.add_zero] at q0
  generalize t[0] = o at *
  clear hv x3
  have h' : (o != 0) = true := by simpa using h
  have hL : 5 ≤ (t.length : Int) := by omega
  replace hS := hide hS
  clear h
  go_enter Tryz.func108, Tryz.ntmps108
  go_wp2_with (first
    | (go_at_call 88; refine (unhide hS _).mono ?_; rintro e w1 ⟨gc, rfl, ho, hb1⟩; replace ho := hide ho; (obtain ⟨hc1, hf1⟩ := bcell hb1; have hz1 := hb1.size; (try have y0 : w.heap.size < w1.heap.size := (by (simp at hz1; omega))); (try have y1 : w.heap.size + 1 < w1.heap.size := (by (simp at hz1; omega))); (try have y2 : w.heap.size + 2 < w1.heap.size := (by (simp at hz1; omega))); (try have y3 : w.heap.size + 3 < w1.heap.size := (by (simp at hz1; omega))); clear hz1); have y9 : b < w1.heap.size := (by have := hb1.size; omega))
    | fail)
  go_ret2
  exact ⟨rfl, by (repeat (first | with_reducible exact Below.refl _ _ | with_reducible assumption | with_reducible refine Below.drew ?_ | with_reducible refine bl_alloc ?_ _ | with_reducible refine bl_call ?_ (by assumption) | (focus (with_reducible refine Below.setCell ?_ ?_ _; rotate_left; focus (first | omega | (simp <;> omega)))) | fail))⟩
set_option maxHeartbeats 4000000 in
theorem NewReader_full (n : Nat) (hn : n ≤ 1024) (lo : Nat) (v : Value) (t : List Int) (w : World) (hv : Os lo w.heap.size w v t) (ht : okB t) (h5 : 5 ≤ t.length) (h3 : t.getD 0 0 = 0) (h4 : num ((t.drop 1).take 4) = 4294967295) :
    Calls Tryz.prog 108 #[.int .i64 n, v] w fun e w' => e = .returned (.tuple #[.pointer none, .int .i64 2]) ∧ Below w.heap.size w w' := by
  have hS := fun W => start_good n hn W
  rw [take4 h5] at h4
  have hN := fun W => number_any t[1] t[2] t[3] t[4] (ht _ (List.getElem_mem _)) (ht _ (List.getElem_mem _)) (ht _ (List.getElem_mem _)) (ht _ (List.getElem_mem _)) W
  obtain ⟨A, c, rfl, x1, x2, x3⟩ := hv.open
  obtain ⟨b, off, rfl, y1, y2, q0⟩ := x3 0 (by omega)
  have qq : ∀ i (hi : i < t.length), w.cell? ⟨b, off + i, none⟩ = some (.int .u8 t[i]) := fun i hi => by
    obtain ⟨b', off', e, _, _, hc⟩ := x3 i hi
    injection e with e; injection e with e1 e2; subst e1 e2
    exact hc
  have q1 := qq 1 (by omega); have q2 := qq 2 (by omega); have q3 := qq 3 (by omega); have q4 := qq 4 (by omega)
  have e0 : t[0] = 0 := by rw [← getD_get (l := t) (k := 0) (by omega)]; exact h3
  rw [e0, Nat.add_zero] at q0
  have sl := slice_l23 (some ⟨b, off, none⟩) t.length c 1 (by omega)
  unfold sliced at sl
  rw [if_neg (by omega)] at sl
  have hL : 5 ≤ (t.length : Int) := by omega
  have ra : ∀ W, (Instr.arrayAt 93 (.slice (some ⟨b, off + 1, none⟩) (t.length - 1) (c - 1))).run Tryz.prog W = .ok (.pointer (some ⟨b, off + 1, none⟩)) W := fun W => by
    have h4 : ¬ t.length - 1 < 4 := by omega
    simp [Instr.arrayAt, run_underlying Tryz.underlying93, h4]
  generalize num [t[1], t[2], t[3], t[4]] = N at *
  generalize t[1] = o1 at *; generalize t[2] = o2 at *; generalize t[3] = o3 at *; generalize t[4] = o4 at *
  clear x3 qq h3 hv ht e0
  rw [h4] at hN
  replace hS := hide hS; replace hN := hide hN
  clear h4
  go_enter Tryz.func108, Tryz.ntmps108
  go_wp2_with (first
    | (go_at_call 88; refine (unhide hS _).mono ?_; rintro e w1 ⟨gc, rfl, ho, hb1⟩; replace ho := hide ho; (obtain ⟨hc1, hf1⟩ := bcell hb1; have hz1 := hb1.size; (try have y0 : w.heap.size < w1.heap.size := (by (simp at hz1; omega))); (try have y1 : w.heap.size + 1 < w1.heap.size := (by (simp at hz1; omega))); (try have y2 : w.heap.size + 2 < w1.heap.size := (by (simp at hz1; omega))); (try have y3 : w.heap.size + 3 < w1.heap.size := (by (simp at hz1; omega))); clear hz1); have y9 : b < w1.heap.size := (by have := hb1.size; omega))
    | (go_at_call 127; refine (unhide hN _).mono ?_; rintro e w2 ⟨rfl, hb2⟩)
    | fail)
  go_ret2
  exact ⟨rfl, by (repeat (first | with_reducible exact Below.refl _ _ | with_reducible assumption | with_reducible refine Below.drew ?_ | with_reducible refine bl_alloc ?_ _ | with_reducible refine bl_call ?_ (by assumption) | (focus (with_reducible refine Below.setCell ?_ ?_ _; rotate_left; focus (first | omega | (simp <;> omega)))) | fail))⟩
theorem NewReader_bad (n : Int) (lo : Nat) (v : Value) (t : List Int) (w : World) (hv : Os lo w.heap.size w v t) (ht : okB t) (h : startE n t ≠ 0) :
    Calls Tryz.prog 108 #[.int .i64 n, v] w fun e w' => e = .returned (.tuple #[.pointer none, .int .i64 (startE n t)]) ∧ Below w.heap.size w w' := by
  cases hn : newN n
  · have e : startE n t = 1 := by unfold startE; rw [if_pos hn]
    rw [e]
    exact NewReader_arg n hn v w
  · have e : startE n t = 2 := by
      unfold startE at h ⊢
      rw [if_neg (by rw [hn]; decide)] at h ⊢
      split
      · rfl
      · rename_i h1
        rw [if_neg h1] at h
        exact absurd rfl h
    have h' : ¬ startE n t = 0 := h
    rw [startE_iff] at h'
    rw [e]
    obtain ⟨n0, n1⟩ := newN_iff.1 hn
    obtain ⟨m, rfl⟩ : ∃ m : Nat, n = (m : Int) := ⟨n.toNat, by omega⟩
    by_cases h5 : t.length < 5
    · exact NewReader_few m (by omega) lo v t w hv h5
    · by_cases h0 : t.getD 0 0 = 0
      · exact NewReader_full m (by omega) lo v t w hv ht (by omega) h0 (Decidable.byContradiction fun hc => h' ⟨hn, by omega, h0, hc⟩)
      · exact NewReader_zero m (by omega) lo v t w hv (by omega) h0
set_option maxHeartbeats 2000000 in
theorem Rdg.grown {base g gc cc gt ct : Nat} {w w' : World} {r : Rdr} {t : List Int} {base' n : Nat} {e : TypeId} {v : Value} {xs : List Value} (h : Rdg base g gc cc gt ct w r t) (ho : w.ownsRow base' e 1 v n xs) (hg : w.grownBy w' v.ownBlock) (h1 : e ≠ 157) (h2 : 3 ≠ e) (h3 : 5 ≠ e) : Rdg base g gc cc gt ct w' r t :=
  ⟨h.blk.grown hg (own_ne ho h.blk h1), own_grown h.c hg (own_own h.c ho h2), own_grown h.text hg (own_own h.text ho h3)⟩
theorem Os.convert {lo hi : Nat} {w : World} {v : Value} {l : List Int} (h : Os lo hi w v l) : (convert 29 9 v).run Tryz.prog w = .ok (.string (strOfNums l)) w := by
  obtain ⟨A, c, rfl, h1, h2, h3⟩ := h.open1
  rcases Nat.eq_zero_or_pos l.length with h0 | h0
  · obtain rfl : l = [] := List.eq_nil_of_length_eq_zero h0
    rw [run_convert_bytes_string w 29 9 5 _ _ c Tryz.underlying29 Tryz.underlying5 Tryz.underlying9]
    cases A <;> simp [Conv.bytesToString, loadCells, loadCellsFrom, strOfNums]
    all_goals rfl
  · obtain ⟨b, o, rfl, _, _, _⟩ := h3 0 h0
    exact run_convert_bytes_arg (P := Tryz.prog) w 29 5 Tryz.underlying29 Tryz.underlying5 b o l.length c l rfl (fun i hi => by
      obtain ⟨b', o', e, _, _, hc⟩ := h3 i (by simpa using hi)
      injection e with e; injection e with e1 e2; subst e1 e2
      rw [hc _ rfl]
      simp [List.getD, List.getElem?_eq_getElem (show i < l.length by simpa using hi)]) 9 Tryz.underlying9
set_option maxHeartbeats 1000000 in
theorem Encode_any (n : Int) (lo : Nat) (v : Value) (bs : List Bit) (w : World) (h : Bts lo w.heap.size w v bs) (hl : bs.length ≤ 10000) :
    Calls Tryz.prog 56 #[.int .i64 n, v] w fun e w' => ∃ A c, e = .returned (.tuple #[.slice A (encT n bs).length c, .int .i64 (encE n bs)]) ∧
      w'.ownsRow w.heap.size 5 1 (.slice A (encT n bs).length c) (encT n bs).length ((encT n bs).flatMap byc) ∧ Below w.heap.size w w' := by
  cases hn : newN n
  · have e : encE n bs = 1 := by unfold encE; rw [if_pos hn]
    have e2 : encT n bs = [] := by unfold encT; rw [if_neg (by rw [e]; decide)]
    rw [e, e2]
    exact (Encode_bad n hn v w).mono fun e w' ⟨he, hb⟩ => ⟨none, 0, he, World.ownsRow_nil _ _ _ _, hb⟩
  · obtain ⟨n0, n1⟩ := newN_iff.1 hn
    obtain ⟨m, rfl⟩ : ∃ m : Nat, n = (m : Int) := ⟨n.toNat, by omega⟩
    cases hin : bs.all (inB m)
    · have e : encE m bs = 4 := by unfold encE; rw [if_neg (by rw [hn]; decide), if_neg (by omega), if_pos (by simpa using hin)]
      have e2 : encT m bs = [] := by unfold encT; rw [if_neg (by rw [e]; decide)]
      rw [e, e2]
      exact (Encode_none m (by omega) lo v bs w h hl hin).mono fun e w' ⟨he, hb⟩ => ⟨none, 0, he, World.ownsRow_nil _ _ _ _, hb⟩
    · have e : encE m bs = 0 := by unfold encE; rw [if_neg (by rw [hn]; decide), if_neg (by omega), if_neg (by simp only [Int.toNat_natCast]; rw [hin]; decide)]
      rw [e, encT_ok e]
      exact (Encode_good m (by omega) lo v bs w h hl hin).mono fun e w' ⟨g, c, he, ho, hb⟩ => ⟨some ⟨g, 0, none⟩, c, he, ho, hb⟩
theorem Os.of_blk {w : World} {g : Nat} {l : List Int} (h : Blk w g 5 (l.flatMap byc).toArray) (hl : l.length ≤ 9223372036854775807) : Os 0 w.heap.size w (.slice (some ⟨g, 0, none⟩) l.length l.length) l := by
  refine ⟨_, _, rfl, Nat.le_refl _, hl, fun _ => ⟨g, 0, rfl, Nat.zero_le _, h.lt, fun i hi j u hu => ?_⟩⟩
  have hj : j < 1 := (List.getElem?_eq_some_iff.1 hu).1
  obtain rfl : j = 0 := by omega
  rw [h.cell, Nat.zero_add]
  have := byc_at l i hi
  simp [byc] at this hu ⊢
  rw [this, hu]
set_option maxHeartbeats 1000000 in
theorem Is.own {w : World} {base n : Nat} {v : Value} {l : List Int} (h : w.ownsRow base 3 1 v n (l.flatMap ivc)) : Is 0 w.heap.size w v l := (Rd.of_own ivc_len (by omega) h).mono (Nat.zero_le _) (Nat.le_refl _)
theorem Os.own {w : World} {base n : Nat} {v : Value} {l : List Int} (h : w.ownsRow base 5 1 v n (l.flatMap byc)) : Os 0 w.heap.size w v l := (Rd.of_own byc_len (by omega) h).mono (Nat.zero_le _) (Nat.le_refl _)
theorem Bos.own {w : World} {base n : Nat} {v : Value} {l : List Bool} (h : w.ownsRow base 4 1 v n (l.flatMap bvc)) : Bos 0 w.heap.size w v l := (Rd.of_own bvc_len (by omega) h).mono (Nat.zero_le _) (Nat.le_refl _)
end Go.Proofs.YthkccpemgmpadaaGreatDoor.P
