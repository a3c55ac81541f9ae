import Derived.Test.YtkgfmiicfegnlaaT23
import Derived.Test.YtkgfmiicfegnlaaS2
import Derived.BigRegion
import Derived.RegionTactic
namespace Go.Proofs.Ytkgfmiicfegnlaa
open Go.RowKit
set_option maxRecDepth 100000

/-- The cells of a row: files, and what is spare behind them. -/
def rwA (d : Array Fl) (sp : List Value) : Array Value := (d.toList.flatMap fc ++ sp).toArray
theorem rwA_get {d : Array Fl} {sp : List Value} {i : Nat} (h : i < d.size) (j : Nat) (hj : j < 6) : (rwA d sp)[i * 6 + j]? = (fc (nt d i))[j]? := by
  have hl : (d.toList.flatMap fc).length = d.size * 6 := by rw [flat_len fc_len, Array.length_toList]
  unfold rwA
  rw [List.getElem?_toArray, List.getElem?_append_left (by omega), flat_get fc_len d.toList i (by simpa using h) j hj, nt_get h, Array.getElem_toList]
theorem rwA_sp {d : Array Fl} {sp : List Value} {q : Nat} (h : d.size * 6 ≤ q) : (rwA d sp)[q]? = sp[q - d.size * 6]? := by
  have hl : (d.toList.flatMap fc).length = d.size * 6 := by rw [flat_len fc_len, Array.length_toList]
  unfold rwA
  rw [List.getElem?_toArray, List.getElem?_append_right (by omega), hl]
theorem rwA_size (d : Array Fl) (sp : List Value) : (rwA d sp).size = d.size * 6 + sp.length := by
  unfold rwA; rw [List.size_toArray, List.length_append, flat_len fc_len, Array.length_toList]
theorem rwA_put {d : Array Fl} {sp : List Value} {i : Nat} (h : i < d.size) (x : Fl) :
    ((((((rwA d sp).setIfInBounds (i * 6) (.string (bz x.nm))).setIfInBounds (i * 6 + 1) (.float .f64 x.rk)).setIfInBounds (i * 6 + 2) (.int .u32 x.sm)).setIfInBounds (i * 6 + 3) (.int .i64 x.bk)).setIfInBounds (i * 6 + 4) (.int .i64 x.fr)).setIfInBounds (i * 6 + 5) (.int .i64 x.ln) = rwA (d.setIfInBounds i x) sp := by
  have hz := rwA_size d sp
  have hs : (d.setIfInBounds i x).size = d.size := Array.size_setIfInBounds
  apply Array.ext_getElem?
  intro q
  simp only [Array.getElem?_setIfInBounds, Array.size_setIfInBounds]
  by_cases h1 : q < d.size * 6
  · have hq : q / 6 < d.size := by omega
    have e := rwA_get (d := d.setIfInBounds i x) (sp := sp) (i := q / 6) (by rw [hs]; exact hq) (q % 6) (Nat.mod_lt _ (by decide))
    have e0 := rwA_get (d := d) (sp := sp) (i := q / 6) hq (q % 6) (Nat.mod_lt _ (by decide))
    rw [show q / 6 * 6 + q % 6 = q by omega] at e e0
    rw [e, e0]
    have hn : nt (d.setIfInBounds i x) (q / 6) = if i = q / 6 then x else nt d (q / 6) := by
      unfold nt
      simp only [getElem!_def, Array.getElem?_setIfInBounds]
      by_cases h2 : i = q / 6
      · rw [if_pos h2, if_pos h2, if_pos h]
      · rw [if_neg h2, if_neg h2]
    rw [hn]
    have b : ∀ j, j < 6 → i * 6 + j < (rwA d sp).size := fun j hj => by rw [hz]; omega
    have b0 := b 0 (by decide); have b1 := b 1 (by decide); have b2 := b 2 (by decide); have b3 := b 3 (by decide); have b4 := b 4 (by decide); have b5 := b 5 (by decide)
    rw [Nat.add_zero] at b0
    by_cases hi : i = q / 6
    · rw [if_pos hi]
      have hm := Nat.mod_lt q (show 6 > 0 by decide)
      rcases (show q % 6 = 0 ∨ q % 6 = 1 ∨ q % 6 = 2 ∨ q % 6 = 3 ∨ q % 6 = 4 ∨ q % 6 = 5 by omega) with hm | hm | hm | hm | hm | hm
      all_goals rw [hm]
      · rw [if_neg (by omega), if_neg (by omega), if_neg (by omega), if_neg (by omega), if_neg (by omega), if_pos (by omega), if_pos b0]; rfl
      · rw [if_neg (by omega), if_neg (by omega), if_neg (by omega), if_neg (by omega), if_pos (by omega), if_pos b1]; rfl
      · rw [if_neg (by omega), if_neg (by omega), if_neg (by omega), if_pos (by omega), if_pos b2]; rfl
      · rw [if_neg (by omega), if_neg (by omega), if_pos (by omega), if_pos b3]; rfl
      · rw [if_neg (by omega), if_pos (by omega), if_pos b4]; rfl
      · rw [if_pos (by omega), if_pos b5]; rfl
    · rw [if_neg hi, if_neg (by omega), if_neg (by omega), if_neg (by omega), if_neg (by omega), if_neg (by omega), if_neg (by omega)]
  · rw [if_neg (by omega), if_neg (by omega), if_neg (by omega), if_neg (by omega), if_neg (by omega), if_neg (by omega), rwA_sp (by omega), rwA_sp (by rw [hs]; omega), hs]

/-- Only that block has turned; new ones may be there. -/
structure But (g : Nat) (w w' : World) : Prop where
  os : w'.os = w.os
  tape : w'.tape = w.tape
  output : w'.output = w.output
  size : w.heap.size ≤ w'.heap.size
  block : ∀ k, k ≠ g → k < w.heap.size → w'.heap[k]? = w.heap[k]?
theorem But.refl (g : Nat) (w : World) : But g w w := ⟨rfl, rfl, rfl, Nat.le_refl _, fun _ _ _ => rfl⟩
theorem But.trans {g : Nat} {a b c : World} (h : But g a b) (h' : But g b c) : But g a c :=
  ⟨h'.os.trans h.os, h'.tape.trans h.tape, h'.output.trans h.output, Nat.le_trans h.size h'.size, fun k hk hl => (h'.block k hk (Nat.lt_of_lt_of_le hl h.size)).trans (h.block k hk hl)⟩
theorem But.set {g : Nat} {a b : World} (h : But g a b) (i : Nat) (u : Value) : But g a (b.setCell ⟨g, i, none⟩ u) :=
  ⟨h.os, h.tape, h.output, by simpa [World.setCell] using h.size, fun k hk hl => (Below.heap_setCell b ⟨g, i, none⟩ u k hk).trans (h.block k hk hl)⟩
theorem But.drewN {g : Nat} {a b : World} (h : But g a b) (n : Nat) : But g a (b.drewN n) := ⟨h.os, h.tape, h.output, h.size, h.block⟩
theorem But.lat {g : Nat} {a b c : World} (h : But g a b) (h' : Below b.heap.size b c) : But g a c :=
  h.trans ⟨h'.os, h'.tape, h'.output, h'.size, fun k _ hl => h'.block k hl⟩
theorem But.below {g B : Nat} {w w' : World} (h : But g w w') (hB : B ≤ g) (hw : B ≤ w.heap.size) : Below B w w' := ⟨h.os, h.tape, h.output, h.size, fun k hk => h.block k (by omega) (by omega)⟩
/-- A row that turns: its block, and nothing else has. -/
structure Row (g : Nat) (sp : List Value) (w0 w : World) (d : Array Fl) : Prop where
  blk : Blk w g 26 (rwA d sp)
  but : But g w0 w
theorem Row.front {g : Nat} {sp : List Value} {w0 w : World} {d : Array Fl} (h : Row g sp w0 w d) {i : Nat} (hi : i < d.size) : ∀ j u, (fc (nt d i))[j]? = some u → w.cell? ⟨g, i * 6 + j, none⟩ = some u := fun j u hu => by
  rw [h.blk.cell, rwA_get hi j (by rw [← fc_len (nt d i)]; exact (List.getElem?_eq_some_iff.1 hu).1), hu]
theorem Row.frozen {g : Nat} {sp : List Value} {w0 w : World} {d : Array Fl} (h : Row g sp w0 w d) (i : Nat) : w.frozen? ⟨g, i, none⟩ = false := h.blk.frozen i
theorem Row.drew {g : Nat} {sp : List Value} {w0 w : World} {d : Array Fl} (h : Row g sp w0 w d) : Row g sp w0 w.drew d := ⟨h.blk.drew, h.but.drewN 1⟩
theorem Row.lat {g : Nat} {sp : List Value} {w0 w w1 : World} {d : Array Fl} (h : Row g sp w0 w d) (hB : Below w.heap.size w w1) : Row g sp w0 w1 d := ⟨h.blk.below hB h.blk.lt, h.but.lat hB⟩
theorem Row.self {g : Nat} {sp : List Value} {w0 w : World} {d : Array Fl} (h : Row g sp w0 w d) : Row g sp w w d := ⟨h.blk, But.refl g w⟩
theorem Row.trans {g : Nat} {sp : List Value} {w0 w1 w : World} {d e : Array Fl} (h : Row g sp w0 w1 d) (h' : Row g sp w1 w e) : Row g sp w0 w e := ⟨h'.blk, h.but.trans h'.but⟩
theorem Row.lt {g : Nat} {sp : List Value} {w0 w : World} {d : Array Fl} (h : Row g sp w0 w d) : g < w.heap.size := h.blk.lt
theorem Row.put {g : Nat} {sp : List Value} {w0 w : World} {d : Array Fl} (h : Row g sp w0 w d) {i : Nat} (hi : i < d.size) (x : Fl) :
    Row g sp w0 ((((((w.setCell ⟨g, i * 6, none⟩ (.string (bz x.nm))).setCell ⟨g, i * 6 + 1, none⟩ (.float .f64 x.rk)).setCell ⟨g, i * 6 + 2, none⟩ (.int .u32 x.sm)).setCell ⟨g, i * 6 + 3, none⟩ (.int .i64 x.bk)).setCell ⟨g, i * 6 + 4, none⟩ (.int .i64 x.fr)).setCell ⟨g, i * 6 + 5, none⟩ (.int .i64 x.ln)) (d.setIfInBounds i x) := by
  refine ⟨?_, (((((h.but.set _ _).set _ _).set _ _).set _ _).set _ _).set _ _⟩
  have := (((((h.blk.set (i * 6) (.string (bz x.nm))).set (i * 6 + 1) (.float .f64 x.rk)).set (i * 6 + 2) (.int .u32 x.sm)).set (i * 6 + 3) (.int .i64 x.bk)).set (i * 6 + 4) (.int .i64 x.fr)).set (i * 6 + 5) (.int .i64 x.ln)
  rwa [rwA_put hi] at this
/-- Two files exchanged. -/
theorem Row.swap {g : Nat} {sp : List Value} {w0 w : World} {d : Array Fl} (h : Row g sp w0 w d) {i j : Nat} (hi : i < d.size) (hj : j < d.size) {x y : Fl} (hx : nt d i = x) (hy : nt d j = y) :
    Row g sp w0 ((((((((((((w.setCell ⟨g, i * 6, none⟩ (.string (bz y.nm))).setCell ⟨g, i * 6 + 1, none⟩ (.float .f64 y.rk)).setCell ⟨g, i * 6 + 2, none⟩ (.int .u32 y.sm)).setCell ⟨g, i * 6 + 3, none⟩ (.int .i64 y.bk)).setCell ⟨g, i * 6 + 4, none⟩ (.int .i64 y.fr)).setCell ⟨g, i * 6 + 5, none⟩ (.int .i64 y.ln)).setCell ⟨g, j * 6, none⟩ (.string (bz x.nm))).setCell ⟨g, j * 6 + 1, none⟩ (.float .f64 x.rk)).setCell ⟨g, j * 6 + 2, none⟩ (.int .u32 x.sm)).setCell ⟨g, j * 6 + 3, none⟩ (.int .i64 x.bk)).setCell ⟨g, j * 6 + 4, none⟩ (.int .i64 x.fr)).setCell ⟨g, j * 6 + 5, none⟩ (.int .i64 x.ln)) (swp d i j) := by
  subst hx hy
  exact (h.put hi (nt d j)).put (by simpa using hj) (nt d i)
end Go.Proofs.Ytkgfmiicfegnlaa
