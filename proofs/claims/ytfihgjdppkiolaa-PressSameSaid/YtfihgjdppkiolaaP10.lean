import Derived.Test.YtfihgjdppkiolaaP6
namespace Go.Proofs.Ytfihgjdppkiolaa.M
set_option maxRecDepth 100000
open Go.RowKit

/-- 'n' octets, the first 'k' of them 'c'. -/
def laid (n : Nat) (c : UInt8) (k : Nat) : Array Value := (List.replicate k (u8v c) ++ List.replicate (n - k) (Value.int .u8 0)).toArray
theorem laid_size (n : Nat) (c : UInt8) (k : Nat) (h : k ≤ n) : (laid n c k).size = n := by
  simp [laid]; omega
theorem laid_set (n : Nat) (c : UInt8) (k : Nat) (h : k < n) : (laid n c k).setIfInBounds k (.int .u8 (n8 c)) = laid n c (k + 1) := by
  unfold laid
  rw [List.setIfInBounds_toArray]
  congr 1
  rw [List.set_append_right _ _ (by simp), List.length_replicate, Nat.sub_self]
  have h2 : n - k = (n - (k + 1)) + 1 := by omega
  rw [h2, List.replicate_succ, List.set_cons_zero, List.replicate_succ', List.append_assoc]
  rfl
theorem laid_get (n : Nat) (c : UInt8) (k : Nat) (h : k < n) : (laid n c k)[k]? = some (.int .u8 0) := by
  unfold laid
  rw [List.getElem?_toArray, List.getElem?_append_right (by simp), List.length_replicate, Nat.sub_self, List.getElem?_replicate, if_pos (by omega)]
theorem laid_all {w : World} {g n : Nat} {c : UInt8} (h : Blk w g 5 (laid n c n)) (hl : n ≤ 9223372036854775807) : Bs 0 w.heap.size w (.slice (some ⟨g, 0, none⟩) n n) (List.replicate n c) := by
  refine ⟨_, n, by rw [List.length_replicate], by simp, hl, fun _ => ⟨g, 0, rfl, Nat.zero_le _, h.lt, fun i hi => ?_⟩⟩
  rw [h.cell]
  simp at hi
  simp [laid, hi]
theorem laid_make (n : Nat) (c : UInt8) : laid n c 0 = madeCells (Value.int .u8 0).cells (n * 1) := by
  unfold laid madeCells
  refine Array.ext (by simp) fun i h1 h2 => ?_
  simp [Value.cells, Nat.mod_one]
end Go.Proofs.Ytfihgjdppkiolaa.M

namespace Go.Proofs.Ytfihgjdppkiolaa
set_option maxRecDepth 100000
open Go.RowKit

set_option maxHeartbeats 1000000 in
theorem same_gate (c : UInt8) (n : Int) (v : Value) (A : Option Addr) (m k : Nat) (hv : v = .slice A m k) (hg : ¬ (0 ≤ n ∧ n ≤ 300 ∧ m ≤ 100)) (w : World) :
    Calls Try.prog 8 #[M.u8v c, .int .i64 n, v] w fun e w' => e = .returned (.bool true) ∧ Below w.heap.size w w' := by
  subst hv
  have hL := fun W => live_any W
  replace hL := hide hL
  by_cases h0 : n < 0
  · clear hg
    go_enter Try.func8, Try.ntmps8
    go_wp2_with (first
      | (go_at_call 9; refine (unhide hL _).mono ?_; rintro e w1 ⟨rfl, hb1⟩)
      | fail)
    go_ret
    exact ⟨rfl, hb1⟩
  · by_cases h1 : 300 < n
    · clear hg
      go_enter Try.func8, Try.ntmps8
      go_wp2_with (first
        | (go_at_call 9; refine (unhide hL _).mono ?_; rintro e w1 ⟨rfl, hb1⟩)
        | fail)
      go_ret
      exact ⟨rfl, hb1⟩
    · have h2 : (100 : Int) < (m : Int) := by omega
      clear hg
      go_enter Try.func8, Try.ntmps8
      go_wp2_with (first
        | (go_at_call 9; refine (unhide hL _).mono ?_; rintro e w1 ⟨rfl, hb1⟩)
        | fail)
      go_ret
      exact ⟨rfl, hb1⟩

set_option maxHeartbeats 2000000 in
theorem same_main (c : UInt8) (n : Nat) (lo : Nat) (v : Value) (b : List UInt8) (w : World) (h : M.Bs lo w.heap.size w v b) (hn : n ≤ 300) (hb : b.length ≤ 100) :
    Calls Try.prog 8 #[.int .u8 (M.n8 c), .int .i64 n, v] w fun e w' => e = .returned (.bool true) ∧ Below w.heap.size w w' := by
  obtain ⟨i5, hi5, jz0, jz1, jz2⟩ := info5'
  have hmk : ∀ W : World, (Instr.makeSlice 23 (.int .i64 n) (.int .i64 n)).run Try.prog W = .ok (.slice (some ⟨W.heap.size, 0, none⟩) n n) (W.alloc (.cells (M.laid n c 0) 5)) := fun W => by
    rw [M.laid_make]
    exact run_mk 23 5 i5 _ 1 Try.underlying23 hi5 jz0 jz1 n (by rw [jz2]; omega) (by omega) W
  have hL := fun W => live_any W
  have hS := fun (g : Nat) (W : World) (k : Blk W g 5 (M.laid n c n)) => Pack_good 0 (.slice (some ⟨g, 0, none⟩) n n) (List.replicate n c) W (M.laid_all k (by omega)) (by simp; omega)
  have hP := fun (W : World) (k : M.Bs lo W.heap.size W v b) => Pack_good lo v b W k (by omega)
  have e1 := E.same_len n c hn
  have e2 := E.pack_len (b := b) (by omega)
  generalize packT (List.replicate n c) = T1 at *
  generalize packT b = T2 at *
  obtain ⟨n1, hn1⟩ : ∃ n1, n1 = T1.length := ⟨_, rfl⟩
  obtain ⟨n2, hn2⟩ : ∃ n2, n2 = T2.length := ⟨_, rfl⟩
  rw [← hn1] at hS e1
  rw [← hn2] at hP e2
  have hT := h
  obtain ⟨A, cc, rfl, x1, x2, _⟩ := h.open
  replace hL := hide hL; replace hS := hide hS; replace hP := hide hP; replace e1 := hide e1; replace e2 := hide e2; replace hT := hide hT
  clear hn1 hn2 h
  go_enter Try.func8, Try.ntmps8
  go_wp2_with (first
    | (go_at_call 9; refine (unhide hL _).mono ?_; rintro e w1 ⟨rfl, hb1⟩; have T1' := hide ((unhide hT).grow hb1); replace hb1 := hide hb1)
    | fail)
  obtain ⟨g, hg⟩ : ∃ g, g = w1.heap.size := ⟨_, rfl⟩
  rw [← hg]
  replace hg := hide hg; replace hmk := hide hmk
  go_loopw [31] (fun i wr => ∃ (k : Nat), k ≤ n ∧ i = .int .i64 k ∧ Hid (Below w1.heap.size w1 wr) ∧ Hid (Blk wr g 5 (M.laid n c k))) (fun i _ => n - (intOf i).toNat)
  case atStart => exact ⟨0, Nat.zero_le _, rfl, hide (by (repeat (first | with_reducible exact Below.refl _ _ | with_reducible assumption | with_reducible refine Below.drew ?_ | with_reducible refine bl_alloc ?_ _ | with_reducible refine bl_call ?_ (by assumption) | (focus (with_reducible refine Below.setCell ?_ ?_ _; rotate_left; focus (first | omega | (simp <;> omega)))) | fail))), hide (Blk.new (unhide hg))⟩
  case round =>
    obtain ⟨k, hk, rfl, hB, hK⟩ := hrel
    by_cases hlt : k < n
    · have q0 := (unhide hK).cell k
      rw [M.laid_get n c k hlt] at q0
      have f0 := (unhide hK).frozen k
      have y0 : g < wr.heap.size := (unhide hK).lt
      go_wp2_with fail
      go_roundw
      case rel =>
        refine ⟨k + 1, by omega, by go_num, hide ?_, hide ?_⟩
        · exact (unhide hB).setCell (by rw [unhide hg]; exact Nat.le_refl _) _
        · rw [← M.laid_set n c k hlt]; exact (unhide hK).set k _
      case measure => simp [intOf]; omega
    · obtain rfl : k = n := by omega
      have T3 := hide ((unhide T1').grow (unhide hB))
      have B3 := hide (bl_call (unhide hb1) (unhide hB))
      clear hlt hk hB hb1 T1' hT
      go_wp2_with (first
        | (go_at_call 12; refine (unhide hS _ _ (unhide hK)).mono ?_; rintro e w2 ⟨A2, c2, rfl, _, hb2⟩; have T4 := hide ((unhide T3).grow hb2); replace hb2 := hide (bl_call (unhide B3) hb2); clear T3 hK)
        | (go_at_call 12; refine (unhide hP _ (unhide T4)).mono ?_; rintro e w3 ⟨A3, c3, rfl, _, hb3⟩; have u1 := unhide e1; have u2 := unhide e2)
        | fail)
      go_ret
      exact ⟨ret_b rfl (decide_eq_true (by omega)), bl_call (unhide hb2) hb3⟩

theorem same_any (c : UInt8) (n : Int) (lo : Nat) (v' v : Value) (b : List UInt8) (w : World) (hv : v' = M.u8v c) (h : M.Bs lo w.heap.size w v b) :
    Calls Try.prog 8 #[v', .int .i64 n, v] w fun e w' => e = .returned (.bool true) ∧ Below w.heap.size w w' := by
  subst hv
  by_cases hg : 0 ≤ n ∧ n ≤ 300 ∧ b.length ≤ 100
  · obtain ⟨N, rfl⟩ := Int.eq_ofNat_of_zero_le hg.1
    exact same_main c N lo v b w h (by omega) hg.2.2
  · obtain ⟨A, k, e, _⟩ := h
    exact same_gate c n v A b.length k e hg w
end Go.Proofs.Ytfihgjdppkiolaa
