import Derived.Test.YtnjepbehfioclaaP9
import Derived.Recover
import Derived.WalkLawsBesides
namespace Go.Proofs.Ytnjepbehfioclaa
open Go.RowKit
attribute [local go_sem] bz_size bz_toList run_store_float
set_option maxRecDepth 100000

/-- What reading stops with. -/
abbrev stopV : Value := .iface 52 (.agg #[])
abbrev stopE : Ending := .panicked [{ v := stopV, recovered := false }]
theorem need_ok (w : World) : Calls Try.prog 43 #[.bool true] w fun e w' => e = .returned (.tuple #[]) ∧ w = w' := by
  go_enter Try.func43, Try.ntmps43
  go_wp2
  refine bodyPost_end (results_none rfl _ _ _) rfl ?_
  exact ⟨rfl, rfl⟩
theorem need_no (w : World) : Calls Try.prog 43 #[.bool false] w fun e w' => e = stopE ∧ w = w' := by
  go_enter Try.func43, Try.ntmps43
  go_wp2
  exact ⟨rfl, rfl, rfl⟩

/-- The reader at block 'g' has 'l' left. -/
def RdB (g : Nat) (W : World) (l : List UInt8) : Prop := ∃ A c, Blk W g 55 #[.slice A l.length c] ∧ Bs 0 g W (.slice A l.length c) l
theorem RdB.but {g : Nat} {W W' : World} {l : List UInt8} (h : RdB g W l) (hb : Below W.heap.size W W') : RdB g W' l := by
  obtain ⟨A, c, h1, h2⟩ := h
  exact ⟨A, c, h1.below hb h1.lt, h2.below hb (Nat.le_of_lt h1.lt)⟩
theorem RdB.lt {g : Nat} {W : World} {l : List UInt8} (h : RdB g W l) : g < W.heap.size := by obtain ⟨A, c, h1, _⟩ := h; exact h1.lt
set_option maxHeartbeats 1000000 in
theorem take_some (g n : Nat) (l : List UInt8) (w : World) (h : RdB g w l) (hn : n ≤ l.length) :
    Calls Try.prog 54 #[.pointer (some ⟨g, 0, none⟩), .int .i64 (n : Int)] w fun e w' => ∃ A' c', e = .returned (.slice A' n c') ∧ Bs 0 g w' (.slice A' n c') (l.take n) ∧ RdB g w' (l.drop n) ∧ But [g] w w' := by
  obtain ⟨A, c, hB, hb⟩ := h
  obtain ⟨A1, c1, r1, b1⟩ := hb.cut_h n (n : Int) rfl hn
  obtain ⟨A2, c2, r2, b2⟩ := hb.cut_l n (n : Int) rfl hn
  have hc : w.cell? ⟨g, 0, none⟩ = some (.slice A l.length c) := hB.cell 0
  have hf := hB.frozen 0
  have h1 := fun W => need_ok W
  have d1 : (n : Int) ≤ (l.length : Int) := by omega
  have hset := Below.setCell (Below.refl g w) (Nat.le_refl g) (.slice A2 (l.length - n) c2) (p := ⟨g, 0, none⟩)
  have b1' := b1.below hset (Nat.le_refl _)
  have b2' := b2.below hset (Nat.le_refl _)
  have hB' : Blk (w.setCell ⟨g, 0, none⟩ (.slice A2 (l.length - n) c2)) g 55 #[.slice A2 (l.length - n) c2] := by simpa using hB.set 0 (.slice A2 (l.length - n) c2)
  have hR : RdB g (w.setCell ⟨g, 0, none⟩ (.slice A2 (l.length - n) c2)) (l.drop n) := ⟨A2, c2, by rw [List.length_drop]; exact hB', by rw [List.length_drop]; exact b2'⟩
  have hBut : But [g] w (w.setCell ⟨g, 0, none⟩ (.slice A2 (l.length - n) c2)) := (But.refl [g] w).set (p := ⟨g, 0, none⟩) (by simp) _
  replace h1 := hide h1; replace b1' := hide b1'; replace hR := hide hR; replace hBut := hide hBut
  clear hb b1 b2 hB hset b2' hB'
  generalize l.length = m at *
  go_enter Try.func54, Try.ntmps54
  go_wp2_with (first
    | (go_at_call 43; refine (unhide h1 _).mono ?_; rintro e w1 ⟨rfl, rfl⟩)
    | fail)
  go_ret
  exact ⟨_, _, rfl, unhide b1', unhide hR, unhide hBut⟩
theorem take_none (g n : Nat) (l : List UInt8) (w : World) (h : RdB g w l) (hn : l.length < n) :
    Calls Try.prog 54 #[.pointer (some ⟨g, 0, none⟩), .int .i64 (n : Int)] w fun e w' => e = stopE ∧ w = w' := by
  obtain ⟨A, c, hB, hb⟩ := h
  have hc : w.cell? ⟨g, 0, none⟩ = some (.slice A l.length c) := hB.cell 0
  have h1 := fun W => need_no W
  have d1 : ¬ (n : Int) ≤ (l.length : Int) := by omega
  replace h1 := hide h1
  clear hb hB
  generalize l.length = m at *
  go_enter Try.func54, Try.ntmps54
  go_wp2_with (first
    | (go_at_call 43; refine (unhide h1 _).mono ?_; rintro e w1 ⟨rfl, rfl⟩)
    | fail)
  exact ⟨rfl, rfl, rfl⟩
/-- So many octets as a number. -/
theorem rnum_some (g n : Nat) (l : List UInt8) (w : World) (h : RdB g w l) (hn : n ≤ l.length) (hn4 : n ≤ 4) :
    Calls Try.prog 41 #[.pointer (some ⟨g, 0, none⟩), .int .i64 (n : Int)] w fun e w' => e = .returned (.int .i64 ((numN (l.take n) : Nat) : Int)) ∧ RdB g w' (l.drop n) ∧ But [g] w w' := by
  have h1 := take_some g n l w h hn
  have hlt : numN (l.take n) < 4294967296 := by
    have h2 := num_take_lt l n
    have : 256 ^ n ≤ 256 ^ 4 := Nat.pow_le_pow_right (by omega) hn4
    omega
  have hnum := fun (A' : Option Addr) (c' : Nat) (W : World) (hW : Bs 0 g W (.slice A' n c') (l.take n)) => number_any 0 g _ _ W hW (by rw [List.length_take]; omega)
  obtain ⟨q, hq⟩ : ∃ q, q = numN (l.take n) := ⟨_, rfl⟩
  rw [← hq] at hnum hlt ⊢
  have i1 : IntKind.i64.wrap (q : Int) = (q : Int) := IntWalk.i64_in _ (by omega)
  replace h1 := hide h1; replace hnum := hide hnum
  clear hq h
  go_enter Try.func41, Try.ntmps41
  go_wp2_with (first
    | (go_at_call 54; refine (unhide h1).mono ?_; rintro e w1 ⟨A1, c1, rfl, b1, hR, hB⟩; replace b1 := hide b1; replace hR := hide hR; replace hB := hide hB)
    | (go_at_call 53; refine (unhide hnum _ _ _ (unhide b1)).mono ?_; rintro e w2 ⟨rfl, rfl⟩)
    | fail)
  go_ret
  exact ⟨ret_i rfl (by first | rfl | omega), unhide hR, unhide hB⟩
theorem rnum_none (g n : Nat) (l : List UInt8) (w : World) (h : RdB g w l) (hn : l.length < n) :
    Calls Try.prog 41 #[.pointer (some ⟨g, 0, none⟩), .int .i64 (n : Int)] w fun e w' => e = stopE ∧ w = w' := by
  have h1 := take_none g n l w h hn
  replace h1 := hide h1
  clear h
  go_enter Try.func41, Try.ntmps41
  go_wp2_with (first
    | (go_at_call 54; refine (unhide h1).mono ?_; rintro e w1 ⟨rfl, rfl⟩)
    | fail)
  exact ⟨rfl, rfl, rfl⟩
end Go.Proofs.Ytnjepbehfioclaa
