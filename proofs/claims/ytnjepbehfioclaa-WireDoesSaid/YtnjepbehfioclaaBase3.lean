import Derived.Test.YtnjepbehfioclaaX1
import Derived.Test.YtnjepbehfioclaaX6
import Derived.Test.YtnjepbehfioclaaA2
namespace Go.Proofs.Ytnjepbehfioclaa
open Go.RowKit

/-! ### files -/
/-- A file's cells. -/
def fc (f : Fl) : List Value := [.string (bz f.nm), .float .f64 f.rk, .int .u32 f.sm, .int .i64 f.bk, .int .i64 f.fr, .int .i64 f.ln]
theorem fc_len : ∀ f, (fc f).length = 6 := fun _ => rfl
theorem fc_one : ∀ f, ∀ u ∈ fc f, u.oneCell' = true := by intro f u h; simp [fc] at h; rcases h with h | h | h | h | h | h <;> subst h <;> rfl
theorem fc_size (f : Fl) : (fc f).toArray.size = 6 := rfl
theorem fc_arr (f : Fl) : (fc f).toArray = #[.string (bz f.nm), .float .f64 f.rk, .int .u32 f.sm, .int .i64 f.bk, .int .i64 f.fr, .int .i64 f.ln] := rfl
/-- The cells of a box that holds a file. -/
theorem bk6 {w : World} {g : Nat} {f : Fl} (h : Blk w g 26 #[.string (bz f.nm), .float .f64 f.rk, .int .u32 f.sm, .int .i64 f.bk, .int .i64 f.fr, .int .i64 f.ln]) : w.cell? ⟨g, 0, none⟩ = some (.string (bz f.nm)) ∧ w.cell? ⟨g, 1, none⟩ = some (.float .f64 f.rk) ∧ w.cell? ⟨g, 2, none⟩ = some (.int .u32 f.sm) ∧
    w.cell? ⟨g, 3, none⟩ = some (.int .i64 f.bk) ∧ w.cell? ⟨g, 4, none⟩ = some (.int .i64 f.fr) ∧ w.cell? ⟨g, 5, none⟩ = some (.int .i64 f.ln) := ⟨h.cell 0, h.cell 1, h.cell 2, h.cell 3, h.cell 4, h.cell 5⟩
theorem new6 {w w' : World} {f : Fl} (hb : Below (w.alloc (.cells #[.string (bz f.nm), .float .f64 f.rk, .int .u32 f.sm, .int .i64 f.bk, .int .i64 f.fr, .int .i64 f.ln] 26)).heap.size (w.alloc (.cells #[.string (bz f.nm), .float .f64 f.rk, .int .u32 f.sm, .int .i64 f.bk, .int .i64 f.fr, .int .i64 f.ln] 26)) w') : Blk w' w.heap.size 26 #[.string (bz f.nm), .float .f64 f.rk, .int .u32 f.sm, .int .i64 f.bk, .int .i64 f.fr, .int .i64 f.ln] :=
  Blk.below (Blk.new rfl) hb (by simp only [World.size_alloc]; omega)
/-- The six cells of a file in a row, and their fronts. -/
theorem six {w : World} {b o : Nat} {f : Fl} (h : ∀ j u, (fc f)[j]? = some u → w.cell? ⟨b, o + j, none⟩ = some u) : w.cell? ⟨b, o, none⟩ = some (.string (bz f.nm)) ∧ w.cell? ⟨b, o + 1, none⟩ = some (.float .f64 f.rk) ∧ w.cell? ⟨b, o + 2, none⟩ = some (.int .u32 f.sm) ∧
    w.cell? ⟨b, o + 3, none⟩ = some (.int .i64 f.bk) ∧ w.cell? ⟨b, o + 4, none⟩ = some (.int .i64 f.fr) ∧ w.cell? ⟨b, o + 5, none⟩ = some (.int .i64 f.ln) := ⟨h 0 _ rfl, h 1 _ rfl, h 2 _ rfl, h 3 _ rfl, h 4 _ rfl, h 5 _ rfl⟩
abbrev Fls (lo hi : Nat) (w : World) (v : Value) (l : List Fl) : Prop := Rd 6 fc lo hi w v l
def OwnF (w : World) (base : Nat) (v : Value) (l : List Fl) : Prop := w.ownsRow base 26 6 v l.length (l.flatMap fc)
theorem OwnF.fls {w : World} {base : Nat} {v : Value} {l : List Fl} (h : OwnF w base v l) : Fls base w.heap.size w v l := Rd.of_own fc_len (by decide) h

/-! ### regions that draw their order, and lay memory by calls alone -/
/-- A world that has grown. -/
structure Lat (w : World) where
  W : World
  h : Below w.heap.size w W
instance (w : World) : Nonempty (Lat w) := ⟨⟨w, Below.refl _ _⟩⟩
theorem wp_region_lat {P : Program} {id : Nat} {Q : Exit → Act → World → Prop} {a : Act} {w : World} {l : List Oper} (hm : P.follows .mixedOrders = true) (hB : Region.lexB .any l.toArray = true)
    (h : wpQuiet P l.toArray (fun w' => ∃ p : Lat w, w' = p.W) (fun a' => ∀ w', (∃ p : Lat w, w' = p.W) → Q .normal a' w') l a) : (Code.region id l.toArray true).wp P Q a w :=
  wp_region_quiet (C := fun w' => ∃ p : Lat w, w' = p.W) hm hB ⟨⟨w.drew, (Below.refl _ _).drew⟩, rfl⟩ (by simpa using h)
/-- A callee's contract, met in a world that has grown. -/
theorem Calls.lat_of {P : Program} {f : FuncId} {args : Array Value} {w : World} {p : Lat w} {v : Value}
    (h : Calls P f args p.W fun e w' => e = .returned v ∧ Below p.W.heap.size p.W w') : Calls P f args p.W fun e w'' => e = .returned v ∧ ∃ q : Lat w, w'' = q.W :=
  h.mono fun _ w' ⟨he, hb⟩ => ⟨he, ⟨w', p.h.trans (hb.mono p.h.size)⟩, rfl⟩
theorem Calls.lat_same {P : Program} {f : FuncId} {args : Array Value} {w : World} {p : Lat w} {v : Value}
    (h : Calls P f args p.W fun e w' => e = .returned v ∧ p.W = w') : Calls P f args p.W fun e w'' => e = .returned v ∧ ∃ q : Lat w, w'' = q.W :=
  h.mono fun _ _ ⟨he, hb⟩ => ⟨he, p, hb.symm⟩
theorem lat_cell {w : World} (p : Lat w) {a : Addr} {v : Value} (hb : a.block < w.heap.size) (h : w.cell? a = some v) : p.W.cell? a = some v := (p.h.cell hb).trans h
end Go.Proofs.Ytnjepbehfioclaa
