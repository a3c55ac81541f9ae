import Derived.Test.YtdnahdogohdmjaaW5
import Derived.BigRegion
import Derived.RegionTactic
namespace Go.Proofs.Ytdnahdogohdmjaa
open Go.RowKit
set_option maxRecDepth 100000

/-- The cells of a row: numbers, and what is spare behind them. -/
def rwA (d : List Nat) (sp : List Value) : Array Value := (d.map (Value.float .f64) ++ sp).toArray
theorem rwA_get {d : List Nat} {sp : List Value} {i : Nat} (h : i < d.length) : (rwA d sp)[i]? = some (.float .f64 (nth d i)) := by
  unfold rwA
  rw [List.getElem?_toArray, List.getElem?_append_left (by simpa using h), List.getElem?_map, List.getElem?_eq_getElem h, nth_get h]; rfl
theorem rwA_set {d : List Nat} {sp : List Value} {i : Nat} (h : i < d.length) (b : Nat) : (rwA d sp).setIfInBounds i (.float .f64 b) = rwA (d.set i b) sp := by
  unfold rwA
  rw [List.setIfInBounds_toArray, List.set_append_left _ _ (by simpa using h), List.map_set]
/-- A row that turns: its block, and nothing else has. -/
structure Row (g : Nat) (sp : List Value) (w0 w : World) (d : List Nat) : Prop where
  blk : Blk w g 22 (rwA d sp)
  only : Only g w0 w
theorem Only.refl (g : Nat) (w : World) : Only g w w := ⟨rfl, rfl, rfl, rfl, fun _ _ => rfl⟩
theorem Only.trans {g : Nat} {a b c : World} (h : Only g a b) (h' : Only g b c) : Only g a c :=
  ⟨h'.os.trans h.os, h'.tape.trans h.tape, h'.output.trans h.output, h'.size.trans h.size, fun k hk => (h'.block k hk).trans (h.block k hk)⟩
theorem Only.set {g : Nat} {a b : World} (h : Only g a b) (i : Nat) (u : Value) : Only g a (b.setCell ⟨g, i, none⟩ u) :=
  ⟨h.os, h.tape, h.output, by simpa [World.setCell] using h.size, fun k hk => (Below.heap_setCell b ⟨g, i, none⟩ u k hk).trans (h.block k hk)⟩
theorem Only.drewN {g : Nat} {a b : World} (h : Only g a b) (n : Nat) : Only g a (b.drewN n) := ⟨h.os, h.tape, h.output, h.size, h.block⟩
theorem Row.cell {g : Nat} {sp : List Value} {w0 w : World} {d : List Nat} (h : Row g sp w0 w d) {i : Nat} (hi : i < d.length) : w.cell? ⟨g, i, none⟩ = some (.float .f64 (nth d i)) := by
  rw [h.blk.cell, rwA_get hi]
theorem Row.frozen {g : Nat} {sp : List Value} {w0 w : World} {d : List Nat} (h : Row g sp w0 w d) (i : Nat) : w.frozen? ⟨g, i, none⟩ = false := h.blk.frozen i
theorem Row.drew {g : Nat} {sp : List Value} {w0 w : World} {d : List Nat} (h : Row g sp w0 w d) : Row g sp w0 w.drew d := ⟨h.blk.drew, h.only.drewN 1⟩
theorem Row.drewN {g : Nat} {sp : List Value} {w0 w : World} {d : List Nat} (h : Row g sp w0 w d) (n : Nat) : Row g sp w0 (w.drewN n) d := ⟨h.blk.drewN n, h.only.drewN n⟩
theorem Row.swap {g : Nat} {sp : List Value} {w0 w : World} {d : List Nat} (h : Row g sp w0 w d) {i j : Nat} (hi : i < d.length) (hj : j < d.length) :
    Row g sp w0 ((w.setCell ⟨g, i, none⟩ (.float .f64 (nth d j))).setCell ⟨g, j, none⟩ (.float .f64 (nth d i))) (swp d i j) := by
  refine ⟨?_, (h.only.set _ _).set _ _⟩
  have := (h.blk.set i (.float .f64 (nth d j))).set j (.float .f64 (nth d i))
  rwa [rwA_set hi, rwA_set (by simpa using hj)] at this
theorem Row.trans {g : Nat} {sp : List Value} {w0 w1 w : World} {d e : List Nat} (h : Row g sp w0 w1 d) (h' : Row g sp w1 w e) : Row g sp w0 w e := ⟨h'.blk, h.only.trans h'.only⟩

attribute [local go_sem] run_store_float m_neg m_lt m_gt m_eq m_ne x_bits x_from eq_self_ Bool.not_not
set_option maxHeartbeats 1000000 in
theorem swapRange_any (g : Nat) (sp : List Value) (d : List Nat) (c a b cnt : Nat) (f : Value) (w : World) (h : Row g sp w w d) (hl : d.length < 1099511627776) (hab : a + cnt ≤ b) (hb : b + cnt ≤ d.length) :
    Calls Try.prog 42 #[.slice (some ⟨g, 0, none⟩) d.length c, .int .i64 a, .int .i64 b, .int .i64 cnt, f] w fun e w' => e = .returned (.tuple #[]) ∧ ∃ d', By (swI a b cnt) d d' ∧ Row g sp w w' d' := by
  obtain ⟨n, hn⟩ : ∃ n, n = d.length := ⟨_, rfl⟩
  rw [← hn] at hl hb ⊢
  replace h := hide h; replace hn := hide hn
  go_enter Try.func42, Try.ntmps42
  go_wp2_with (fail)
  go_loopw [10] (fun i wr => ∃ (k : Nat) (e : List Nat), k ≤ cnt ∧ i = .int .i64 k ∧ Hid (By (swI a b k) d e) ∧ Hid (Row g sp w wr e)) (fun i _ => cnt - (intOf i).toNat)
  case atStart => exact ⟨0, d, Nat.zero_le _, rfl, hide (By.id d a b), h⟩
  case round =>
    obtain ⟨k, e, hk, rfl, he, hr⟩ := hrel
    by_cases hlt : k < cnt
    · have hel : e.length = n := (unhide he).len.trans (unhide hn).symm
      have c1 := (unhide hr).cell (i := a + k) (by omega)
      have c2 := (unhide hr).cell (i := b + k) (by omega)
      have f1 := (unhide hr).frozen (a + k)
      have f2 := (unhide hr).frozen (b + k)
      have i1 : IntKind.i64.wrap ((a : Int) + k) = (a : Int) + k := IntWalk.i64_in _ (by omega)
      have i2 : IntKind.i64.wrap ((b : Int) + k) = (b : Int) + k := IntWalk.i64_in _ (by omega)
      replace hel := hide hel
      go_wp2_with (fail)
      go_region
      all_goals
        have hr2 := hide (((unhide hr).drew).swap (i := a + k) (j := b + k) (by have := unhide hel; omega) (by have := unhide hel; omega))
        have he2 := hide ((unhide he).swap_step (by omega) (by have := unhide hn; omega))
        go_wp2
        go_roundw
        case rel => exact ⟨k + 1, _, by omega, by go_num, he2, hr2⟩
        case measure => simp [intOf]; omega
    · obtain rfl : k = cnt := by omega
      go_wp2
      go_end0
      exact ⟨rfl, e, unhide he, unhide hr⟩
end Go.Proofs.Ytdnahdogohdmjaa
