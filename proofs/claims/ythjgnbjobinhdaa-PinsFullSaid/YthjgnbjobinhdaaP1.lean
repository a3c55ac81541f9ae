import Derived.Test.YthjgnbjobinhdaaBase
namespace Go.Proofs.Ythjgnbjobinhdaa
open Go.RowKit

/-! ### pins -/
/-- A pin's cells. -/
def pc (f : Pn) : List Value := [.int .u64 f.g, .int .i64 f.n]
theorem pc_len : ∀ f, (pc f).length = 2 := fun _ => rfl
theorem pc_one : ∀ f, ∀ u ∈ pc f, u.oneCell' = true := by intro f u h; simp [pc] at h; rcases h with h | h <;> subst h <;> rfl
theorem pc_arr (f : Pn) : (pc f).toArray = #[.int .u64 f.g, .int .i64 f.n] := rfl
abbrev Pns (lo hi : Nat) (w : World) (v : Value) (l : List Pn) : Prop := Rd 2 pc lo hi w v l
def OwnP (w : World) (base : Nat) (v : Value) (l : List Pn) : Prop := w.ownsRow base 35 2 v l.length (l.flatMap pc)
theorem OwnP.pns {w : World} {base : Nat} {v : Value} {l : List Pn} (h : OwnP w base v l) : Pns base w.heap.size w v l := Rd.of_own pc_len (by decide) h
/-- The cells of a box that holds a pin. -/
theorem bk2 {w : World} {g : Nat} {t : TypeId} {f : Pn} (h : Blk w g t #[.int .u64 f.g, .int .i64 f.n]) : w.cell? ⟨g, 0, none⟩ = some (.int .u64 f.g) ∧ w.cell? ⟨g, 1, none⟩ = some (.int .i64 f.n) := ⟨h.cell 0, h.cell 1⟩
theorem new2 {w w' : World} {f : Pn} (hb : Below (w.alloc (.cells #[.int .u64 f.g, .int .i64 f.n] 35)).heap.size (w.alloc (.cells #[.int .u64 f.g, .int .i64 f.n] 35)) w') : Blk w' w.heap.size 35 #[.int .u64 f.g, .int .i64 f.n] :=
  Blk.below (Blk.new rfl) hb (by simp only [World.size_alloc]; omega)
theorem new2' {w : World} (f : Pn) : Blk (w.alloc (.cells #[.int .u64 f.g, .int .i64 f.n] 35)) w.heap.size 35 #[.int .u64 f.g, .int .i64 f.n] := Blk.new rfl
/-- A slice of pins that is not empty: where it lies, each pin's load. -/
theorem Rd.open2 {lo hi : Nat} {w : World} {v : Value} {l : List Pn} (h : Pns lo hi w v l) : ∃ A c, v = .slice A l.length c ∧ l.length ≤ c ∧ c ≤ 9223372036854775807 ∧
    ∀ i, i < l.length → ∃ b off, A = some ⟨b, off, none⟩ ∧ lo ≤ b ∧ b < hi ∧ w.cell? ⟨b, off + i * 2, none⟩ = some (.int .u64 (nth l i).g) ∧ w.cell? ⟨b, off + i * 2 + 1, none⟩ = some (.int .i64 (nth l i).n) := by
  obtain ⟨A, c, rfl, h1, h2, h3⟩ := h
  refine ⟨A, c, rfl, h1, h2, fun i hi => ?_⟩
  obtain ⟨b, off, rfl, g1, g2, g3⟩ := h3 (by omega)
  rw [nth_get hi]
  exact ⟨b, off, rfl, g1, g2, g3 i hi 0 _ rfl, g3 i hi 1 _ rfl⟩

/-! ### regions that draw their order, and lay memory by calls alone -/
/-- A world that has grown. -/
structure Lat (w : World) where
  W : World
  h : Below w.heap.size w W
instance (w : World) : Nonempty (Lat w) := ⟨⟨w, Below.refl _ _⟩⟩
theorem wp_region_lat {P : Program} {id : Nat} {Q : Exit → Act → World → Prop} {a : Act} {w : World} {l : List Oper} (hm : P.follows .mixedOrders = true) (hB : Region.lexB .any l.toArray = true)
    (h : wpQuiet P l.toArray (fun w' => ∃ p : Lat w, w' = p.W) (fun a' => ∀ w', (∃ p : Lat w, w' = p.W) → Q .normal a' w') l a) : (Code.region id l.toArray true).wp P Q a w :=
  wp_region_quiet (C := fun w' => ∃ p : Lat w, w' = p.W) hm hB ⟨⟨w.drew, (Below.refl _ _).drew⟩, rfl⟩ (by simpa using h)
/-- A callee's contract, met in a world that has grown. -/
theorem Calls.lat_of {P : Program} {f : FuncId} {args : Array Value} {w : World} {p : Lat w} {v : Value}
    (h : Calls P f args p.W fun e w' => e = .returned v ∧ Below p.W.heap.size p.W w') : Calls P f args p.W fun e w'' => e = .returned v ∧ ∃ q : Lat w, w'' = q.W :=
  h.mono fun _ w' ⟨he, hb⟩ => ⟨he, ⟨w', p.h.trans (hb.mono p.h.size)⟩, rfl⟩
theorem Calls.lat_same {P : Program} {f : FuncId} {args : Array Value} {w : World} {p : Lat w} {v : Value}
    (h : Calls P f args p.W fun e w' => e = .returned v ∧ p.W = w') : Calls P f args p.W fun e w'' => e = .returned v ∧ ∃ q : Lat w, w'' = q.W :=
  h.mono fun _ _ ⟨he, hb⟩ => ⟨he, p, hb.symm⟩
theorem lat_cell {w : World} (p : Lat w) {a : Addr} {v : Value} (hb : a.block < w.heap.size) (h : w.cell? a = some v) : p.W.cell? a = some v := (p.h.cell hb).trans h

/-! ### places -/
/-- The place of the first one that is such, from 'k' on; -1, if none is. -/
def firstI (p : Pn → Bool) : Nat → List Pn → Int
  | _, [] => -1
  | k, f :: r => if p f then (k : Int) else firstI p (k + 1) r
/-- How many ahead of the first one that is such. -/
def ahead (p : Pn → Bool) : List Pn → Nat
  | [] => 0
  | f :: r => if p f then 0 else ahead p r + 1
theorem ahead_le (p : Pn → Bool) (l : List Pn) : ahead p l ≤ l.length := by
  induction l with
  | nil => exact Nat.le_refl _
  | cons f r ih => rw [ahead]; split <;> simp <;> omega
theorem ahead_first (p : Pn → Bool) (l : List Pn) (k : Nat) : (firstI p k l = -1 ∧ ahead p l = l.length) ∨ (firstI p k l = ((k + ahead p l : Nat) : Int) ∧ ahead p l < l.length) := by
  induction l generalizing k with
  | nil => exact .inl ⟨rfl, rfl⟩
  | cons f r ih =>
    rw [firstI, ahead]
    cases p f with
    | true => exact .inr ⟨rfl, by simp⟩
    | false =>
      simp only [Bool.false_eq_true, if_false, List.length_cons]
      rcases ih (k + 1) with ⟨h1, h2⟩ | ⟨h1, h2⟩
      · exact .inl ⟨h1, by omega⟩
      · exact .inr ⟨by rw [h1]; omega, by omega⟩
theorem ahead_many (l : List Pn) (g : Int) : manyP l g = if ahead (fun p => p.g == g) l = l.length then 0 else (nth l (ahead (fun p => p.g == g) l)).n := by
  induction l with
  | nil => rfl
  | cons f r ih =>
    by_cases e : f.g = g
    · have ha : ahead (fun p => p.g == g) (f :: r) = 0 := by
        rw [ahead, if_pos (show (f.g == g) = true by rw [beq_iff_eq]; exact e)]
      rw [ha, manyP, if_pos e, if_neg (show ¬ 0 = (f :: r).length by simp)]
      rfl
    · have ha : ahead (fun p => p.g == g) (f :: r) = ahead (fun p => p.g == g) r + 1 := by
        rw [ahead, if_neg (show ¬ (f.g == g) = true by rw [beq_iff_eq]; exact e)]
      rw [ha, manyP, if_neg e, ih, List.length_cons]
      by_cases h : ahead (fun p => p.g == g) r = r.length
      · rw [if_pos h, if_pos (show _ + 1 = _ + 1 by rw [h])]
      · rw [if_neg h, if_neg (show ¬ _ + 1 = _ + 1 by omega)]; rfl
theorem ahead_low {l : List Pn} (h : Up l) (g : Int) : l.take (ahead (fun p => decide (p.g ≥ g)) l) = lowP l g := by
  induction l with
  | nil => rfl
  | cons f r ih =>
    obtain ⟨h1, h2⟩ := up_cons.1 h
    rw [ahead]
    by_cases e : f.g ≥ g
    · rw [decide_eq_true e, if_pos rfl, List.take_zero]
      symm
      unfold lowP; rw [List.filter_eq_nil_iff]; intro q hq
      rcases List.mem_cons.1 hq with rfl | hq
      · simp; omega
      · have := h1 q hq; simp; omega
    · rw [decide_eq_false e, if_neg (by simp), List.take_succ_cons, ih h2]
      unfold lowP; rw [List.filter_cons_of_pos (by simp; omega)]
theorem ahead_high {l : List Pn} (h : Up l) (g : Int) : l.drop (ahead (fun p => decide (p.g > g)) l) = highP l g := by
  induction l with
  | nil => rfl
  | cons f r ih =>
    obtain ⟨h1, h2⟩ := up_cons.1 h
    rw [ahead]
    by_cases e : f.g > g
    · rw [decide_eq_true e, if_pos rfl, List.drop_zero]
      symm
      unfold highP; rw [List.filter_eq_self]; intro q hq
      rcases List.mem_cons.1 hq with rfl | hq
      · simp; omega
      · have := h1 q hq; simp; omega
    · rw [decide_eq_false e, if_neg (by simp), List.drop_succ_cons, ih h2]
      unfold highP; rw [List.filter_cons_of_neg (by simp; omega)]
end Go.Proofs.Ythjgnbjobinhdaa
