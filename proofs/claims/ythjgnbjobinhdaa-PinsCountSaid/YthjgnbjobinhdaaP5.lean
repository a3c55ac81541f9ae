import Derived.Test.YthjgnbjobinhdaaP4
import Derived.Lib.AppendZeros
namespace Go.Proofs.Ythjgnbjobinhdaa
open Go.RowKit
set_option maxRecDepth 100000

theorem info35 : (Try.prog.info? 35).map (fun i => (i.zero, i.size, i.bytes)) = some (some (.agg #[.int .u64 0, .int .i64 0]), 2, 16) := by kernel_rfl
set_option maxHeartbeats 1000000 in
theorem grow_any (n : Nat) (w : World) (hn : n ≤ 1000000) :
    Calls Try.prog 36 #[.slice none 0 0, .int .i64 n] w fun e w' => ∃ A c, e = .returned (.slice A 0 c) ∧ w'.ownsRow w.heap.size 35 2 (.slice A 0 c) 0 [] ∧ Below w.heap.size w w' := by
  rcases Nat.eq_zero_or_pos n with rfl | h0
  · go_enter Try.func36, Try.ntmps36
    go_wp2_with fail
    go_ret
    exact ⟨_, _, rfl, World.ownsRow_nil _ _ _ _, Below.refl _ _⟩
  · obtain ⟨i0, hi0, hz0, hz1, hz2⟩ := info_parts info35
    have hrun := fun W => Lib.run_append_nil_zeros (P := Try.prog) W 22 3 22 35 i0 _ .i64 .i64 Try.underlying22 Try.underlying3 hi0 hz0 n h0 (by rw [hz1]; omega) (by omega) (by rw [hz2]; omega)
    have hge := grownCap_ge w n 0 35
    have hle := grownCap_le_maxLen w n 0 35 (by simp [maxLen]; omega)
    have y0 : (0 : Int) < (n : Int) := by omega
    have y1 : (0 : Int) ≤ (n : Int) := by omega
    replace hrun := hide hrun
    go_enter Try.func36, Try.ntmps36
    go_wp2_with (first
      | (at_builtin
         refine Lib.wpList_append_run _ rfl (.tmp 20) (.tmp 21) 22 3 rfl _ _ rfl rfl _ _ (unhide hrun _) ?_)
      | fail)
    go_ret
    refine ⟨_, _, rfl, own_drew (own_fresh _ _ _ 35 2 _ _ rfl (Nat.le_refl _) hle ?_), by (repeat (first | with_reducible exact Below.refl _ _ | with_reducible assumption | with_reducible refine Below.drew ?_ | with_reducible refine bl_alloc ?_ _ | with_reducible refine bl_call ?_ (by assumption) | (focus (with_reducible refine Below.setCell ?_ ?_ _; rotate_left; focus (first | omega | (simp <;> omega)))) | fail))⟩
    simp [Builtin.zeroCells]
    omega

/-- The cells of a slice of slices of pins. -/
def Lists (lo : Nat) (w : World) (g : Nat) (Ls : List (List Pn)) : Prop :=
  ∀ k (hk : k < Ls.length), ∃ A c, w.cell? ⟨g, k, none⟩ = some (.slice A Ls[k].length c) ∧ Pns lo w.heap.size w (.slice A Ls[k].length c) Ls[k]
theorem take_flat {Ls : List (List Pn)} {k : Nat} (hk : k < Ls.length) : (Ls.take (k + 1)).flatten = (Ls.take k).flatten ++ Ls[k] := by
  have h : Ls.take (k + 1) = Ls.take k ++ [Ls[k]] := by
    rw [List.take_add_one, List.getElem?_eq_getElem hk]; rfl
  rw [h, List.flatten_append, List.flatten_singleton]
/-- How many there are in the first lists. -/
def upto (Ls : List (List Pn)) (k : Nat) : Nat := (Ls.take k).flatten.length
theorem upto_succ {Ls : List (List Pn)} {k : Nat} (hk : k < Ls.length) : upto Ls (k + 1) = upto Ls k + Ls[k].length := by
  unfold upto; rw [take_flat hk, List.length_append]
/-- All of the first lists. -/
def cat (Ls : List (List Pn)) (k : Nat) : List Pn := (Ls.take k).flatten
theorem cat_succ {Ls : List (List Pn)} {k : Nat} (hk : k < Ls.length) : cat Ls (k + 1) = cat Ls k ++ Ls[k] := take_flat hk
theorem upto_cat (Ls : List (List Pn)) (k : Nat) : (cat Ls k).length = upto Ls k := rfl
theorem flat_le (Ls : List (List Pn)) (k : Nat) : upto Ls k ≤ upto Ls Ls.length := by
  unfold upto
  rw [List.take_length]
  have h : Ls.flatten = (Ls.take k).flatten ++ (Ls.drop k).flatten := by rw [← List.flatten_append, List.take_append_drop]
  rw [h]; simp

set_option maxHeartbeats 2000000 in
theorem concat_any (lo g : Nat) (Ls : List (List Pn)) (w : World) (h : Lists lo w g Ls) (hg : g < w.heap.size) (hn : Ls.length ≤ 1000) (hL : upto Ls Ls.length ≤ 1000000) :
    Calls Try.prog 31 #[.slice (some ⟨g, 0, none⟩) Ls.length Ls.length] w fun e w' => ∃ A c, e = .returned (.slice A (upto Ls Ls.length) c) ∧ w'.ownsRow w.heap.size 35 2 (.slice A (upto Ls Ls.length) c) (upto Ls Ls.length) ((cat Ls Ls.length).flatMap pc) ∧ Below w.heap.size w w' := by
  obtain ⟨i0, hi0, hz0, hz1, hz2⟩ := info_parts info35
  obtain ⟨n, hn'⟩ : ∃ n, n = Ls.length := ⟨_, rfl⟩
  have hfl := flat_le Ls
  have hgrow := fun W => grow_any (upto Ls Ls.length) W hL
  rw [← hn'] at hfl hgrow hL ⊢
  replace h := hide h; replace hn' := hide hn'; replace hfl := hide hfl; replace hgrow := hide hgrow
  have hn2 : n ≤ 1000 := by rw [unhide hn']; exact hn
  clear hn
  go_enter Try.func31, Try.ntmps31
  go_wp2_with fail
  go_loopw [3, 11] (fun s3 s11 wr => ∃ k : Nat, k ≤ n ∧ s11 = .int .i64 k ∧ s3 = .int .i64 (upto Ls k : Nat) ∧ w = wr) (fun _ i _ => n - (intOf i).toNat)
  case atStart => exact ⟨0, by omega, rfl, rfl, rfl⟩
  case round =>
    obtain ⟨k, hk, rfl, rfl, rfl⟩ := hrel
    by_cases hlt : k < n
    · have hlt' : k < Ls.length := by rw [← unhide hn']; exact hlt
      obtain ⟨A, c, hc, _⟩ := unhide h k hlt'
      have ha : upto Ls (k + 1) = upto Ls k + Ls[k].length := upto_succ hlt'
      have hb := unhide hfl (k + 1)
      rw [ha] at hb
      generalize ha1 : upto Ls k = a at *
      generalize Ls[k].length = b at *
      replace ha := hide ha
      have w1 : (0 : Int) ≤ (a : Int) + (b : Int) := by omega
      have w2 : (a : Int) + (b : Int) ≤ 1000000 := by omega
      go_wp2_with fail
      go_roundw
      case rel => exact ⟨k + 1, by omega, by go_num, by rw [unhide ha]; go_num, by simp⟩
      case measure => simp [intOf]; omega
    · obtain rfl : k = n := by omega
      have hgz : Hid (g < w.heap.size) := hg
      go_wp2_with (go_at_call 36; refine (unhide hgrow _).mono ?_; rintro e w1 ⟨A1, c1, rfl, hown, hb1⟩)
      replace hown := hide hown; replace hb1 := hide hb1
      go_loopw [6, 27] (fun s6 s27 wx => ∃ (j : Nat) (A2 : Option Addr) (c2 : Nat), j ≤ k ∧ s27 = .int .i64 j ∧ s6 = .slice A2 (upto Ls j) c2 ∧ Hid (wx.ownsRow w.heap.size 35 2 (.slice A2 (upto Ls j) c2) (upto Ls j) ((cat Ls j).flatMap pc)) ∧ Hid (Below w.heap.size w wx)) (fun _ i _ => k - (intOf i).toNat)
      case atStart => exact ⟨0, A1, c1, by omega, rfl, rfl, hide (unhide hown), hb1⟩
      case round =>
        obtain ⟨j, A2, c2, hj, rfl, rfl, o2, b2⟩ := hrel
        by_cases hlt2 : j < k
        · have hlt' : j < Ls.length := by rw [← unhide hn']; exact hlt2
          obtain ⟨A, c, hc, hx⟩ := unhide h j hlt'
          have ha : cat Ls (j + 1) = cat Ls j ++ Ls[j] := cat_succ hlt'
          have ha' : upto Ls (j + 1) = upto Ls j + Ls[j].length := upto_succ hlt'
          have hb := unhide hfl (j + 1)
          rw [ha'] at hb
          have hsrc := SrcOk.below (Rd.src pc_len hx).2 (unhide b2)
          have hc' := ((unhide b2).cell (p := ⟨g, j, none⟩) hg).trans hc
          have hgx : g < wr.heap.size := Nat.lt_of_lt_of_le hg (unhide b2).size
          have hnl := flat_len pc_len Ls[j]
          have hno := flat_one pc_one Ls[j]
          have hsz := (unhide b2).size
          generalize Ls[j] = N at *
          have hml : ((cat Ls j).flatMap pc).length = (upto Ls j) * 2 := by rw [flat_len pc_len, upto_cat]
          generalize upto Ls j = m at *
          have u1 : m + N.length ≤ maxLen := by simp only [maxLen]; omega
          have u2 : (m + N.length) * 16 ≤ 140737488355328 := by omega
          replace ha := hide ha; replace hsrc := hide hsrc; replace hnl := hide hnl; replace hno := hide hno; replace u1 := hide u1; replace u2 := hide u2; replace hb := hide hb
          replace hml := hide hml; replace ha' := hide ha'
          clear hc hx
          go_wp2_with (first
            | (at_builtin
               refine wpList_app _ rfl (.tmp 31) (.tmp 32) 22 rfl w.heap.size 35 i0 _ 2 16 Try.underlying22 hi0 hz0 hz1 hz2 rfl (Nat.succ_pos _) _ m ((cat Ls j).flatMap pc) rfl (unhide o2) A N.length c (N.flatMap pc) rfl (unhide hnl) (unhide hsrc) (unhide hno) (unhide u1) (unhide u2) hsz ?_
               intro v' w2 hown2 hg2
               obtain ⟨A3, c3, rfl⟩ := ownsRow_form hown2))
          have hal : (cat Ls j).flatMap pc ++ N.flatMap pc = (cat Ls (j + 1)).flatMap pc := by rw [unhide ha, List.flatMap_append]
          rw [hal, ← unhide ha'] at hown2
          go_roundw
          case rel => exact ⟨j + 1, A3, c3, by omega, by go_num, by rw [unhide ha'], hide hown2, hide (bl_grown (unhide b2) hg2 (own_base (unhide o2)))⟩
          case measure => simp [intOf]; omega
        · obtain rfl : j = k := by omega
          go_wp2_with fail
          go_ret
          exact ⟨A2, c2, rfl, unhide o2, unhide b2⟩
end Go.Proofs.Ythjgnbjobinhdaa
