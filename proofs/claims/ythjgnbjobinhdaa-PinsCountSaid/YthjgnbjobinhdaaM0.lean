import Derived.Test.YthjgnbjobinhdaaL4
import Derived.Maps.OwnOps
import Derived.Maps.OwnSet
import Derived.Maps.Views
import Derived.Carry
namespace Go.Proofs.Ythjgnbjobinhdaa
open Go.RowKit Go.Maps Go.ChangeMaps Go.MapKept

/-! ### a map of generations, and pins -/
abbrev DW := DataW Unit
def kl (g : Int) : Lit := .int .u64 g
def dz (z : Int) : DW := .lit (.int .i64 z)
def MapT (D : DW) (f : Int → Int) : Prop := ∀ g, D.atKey (kl g) (dz 0) = dz (f g)
theorem kl_ne {p q : Int} (h : p ≠ q) : kl p ≠ kl q := fun e => h (by injection e)
theorem kl_key (p : Int) : WideAt.IsKeyLit (kl p) := trivial
theorem MapT.put {D : DW} {f f' : Int → Int} (h : MapT D f) (hD : Maps.Tidy D) (g : Int) (hf : ∀ x, x ≠ g → f' x = f x) : MapT (D.put (kl g) (dz (f' g))) f' := by
  intro p
  by_cases e : p = g
  · subst e
    exact Maps.atKey_put_same hD.isMap (kl_key _) _ _
  · rw [Maps.atKey_put_other (kl_ne e), h, hf p e]

/-! ### in a world -/
theorem law23 : Keyed Try.prog 23 := int_keyed Try.underlying23
theorem zero3 (w : World) : (zeroValue 3).run Try.prog w = .ok (.int .i64 0) w := by kernel_rfl
theorem key23 (g : Int) (h : 0 ≤ g) (h' : g < 8) : keyOf Try.prog 23 (.int .u64 g) = some (kl g) :=
  keyOf_int_mk (P := Try.prog) Try.underlying23 (by
    have e1 : IntKind.u64.min = 0 := by decide
    have e2 : IntKind.u64.max = 18446744073709551615 := by decide
    simp [Lit.wf]; omega)
def MapAt (w : World) (b n : Nat) (f : Int → Int) : Prop := ∃ D : DW, w.ownsMap Try.prog 23 (plainElem Try.prog 3) b n D ∧ MapT D f
theorem MapAt.look {w : World} {b n : Nat} {f : Int → Int} (h : MapAt w b n f) (g : Int) (h0 : 0 ≤ g) (h8 : g < 8) : (Instr.lookup 39 (.map (some b)) (.int .u64 g) false).run Try.prog w = .ok (.int .i64 (f g)) w := by
  obtain ⟨D, h1, h2⟩ := h
  obtain ⟨c, hr, ha, _⟩ := h1.lookup_int law23 Try.underlying39 Try.underlying3 (zero3 w) (key23 g h0 h8)
  have h3 : D.atKey (kl g) (.lit (.int .i64 0)) = dz (f g) := h2 g
  rw [h3] at ha
  have : f g = c := by unfold dz at ha; injection ha with e; injection e
  rw [this]; exact hr
theorem MapAt.lt {w : World} {b n : Nat} {f : Int → Int} (h : MapAt w b n f) : b < w.heap.size := by obtain ⟨D, h1, _⟩ := h; exact h1.lt
theorem MapAt.mono {w : World} {b n n' : Nat} {f : Int → Int} (h : MapAt w b n f) (hn : n ≤ n') : MapAt w b n' f := by obtain ⟨D, h1, h2⟩ := h; exact ⟨D, h1.mono hn, h2⟩
theorem MapAt.below {w w' : World} {b n : Nat} {f : Int → Int} (h : MapAt w b n f) (hb : Below w.heap.size w w') : MapAt w' b n f := by
  have hlt := h.lt
  obtain ⟨D, ⟨es, clock, h1, h2⟩, h3⟩ := h
  exact ⟨D, ⟨es, clock, (hb.block b hlt).trans h1, h2⟩, h3⟩
theorem turn_block {w w' : World} {b : Nat} (h : w.mapTurned w' b) {k : Nat} (hk : k ≠ b) : w'.heap[k]? = w.heap[k]? := by
  obtain ⟨es, clock, es', clock', hb, rfl⟩ := h
  exact heap_setBlock_other hb _ hk
theorem turn_below {B : Nat} {w w' : World} {b : Nat} (h : w.mapTurned w' b) (hB : B ≤ b) : Below B w w' := by
  have hh := h
  obtain ⟨es, clock, es', clock', hb, rfl⟩ := h
  exact ⟨rfl, rfl, rfl, by simp [setBlock], fun k hk => turn_block hh (by omega)⟩
theorem turn_size {w w' : World} {b : Nat} (h : w.mapTurned w' b) : w'.heap.size = w.heap.size := by
  obtain ⟨es, clock, es', clock', hb, rfl⟩ := h
  simp [setBlock]
theorem turn_cell {w w' : World} {b : Nat} (h : w.mapTurned w' b) {a : Addr} {u : Value} (hc : w.cell? a = some u) : w'.cell? a = some u := by
  by_cases e : a.block = b
  · obtain ⟨es, clock, es', clock', hb, rfl⟩ := h
    unfold World.cell? at hc
    rw [e, hb] at hc
    simp at hc
  · exact (World.cell?_of_block (turn_block h e)).trans hc
theorem Rd.turn {α : Type} {k : Nat} {f : α → List Value} {w w' : World} {v : Value} {l : List α} {b : Nat} (h : Rd k f 0 w.heap.size w v l) (ht : w.mapTurned w' b) : Rd k f 0 w'.heap.size w' v l := by
  obtain ⟨A, c, rfl, h1, h2, h3⟩ := h
  refine ⟨A, c, rfl, h1, h2, fun h0 => ?_⟩
  obtain ⟨b0, off, rfl, hb, hb', hc⟩ := h3 h0
  exact ⟨b0, off, rfl, hb, by rw [turn_size ht]; exact hb', fun i hi j u hu => turn_cell ht (hc i hi j u hu)⟩
section
variable (w : World) {ops : Array Oper} {rest : List Oper} {o : Oper} {a : Act} {Q : Exit → Act → World → Prop}
theorem wpList_mput (hg : o.guard = none) (m x v : Operand) (hop : o.op = Op.mapUpdate 39 m x v) (b n : Nat) (f f' : Int → Int) (hm : a.eval m = .map (some b)) (h : MapAt w b n f) (hn : n < 1000) (g : Int) (h0 : 0 ≤ g) (h8 : g < 8)
    (hx : a.eval x = .int .u64 g) (hv : a.eval v = .int .i64 (f' g)) (hw : (Lit.int .i64 (f' g)).wf = true) (hf : ∀ x, x ≠ g → f' x = f x)
    (hK : ∀ w', MapAt w' b (n + 1) f' → w.mapTurned w' b → wpList Try.prog ops Q rest (a.put o.dst undef) w') : wpList Try.prog ops Q (o :: rest) a w := by
  obtain ⟨D, h1, h2⟩ := h
  exact wpList_mapUpdate_in w hg m x v 39 hop 23 3 law23 Try.underlying39 _ b n D hm h1 (by unfold maxLen; omega) _ _ _ hx hv (key23 _ h0 h8) (dz (f' g)) [] (plainElem_int Try.underlying3 hw) (fun w' h3 h4 => hK w' ⟨_, h3, h2.put (h1.tidy law23) g hf⟩ h4)
end
theorem map_made (w : World) : MapAt (w.alloc (.map #[] 0)) w.heap.size 0 (fun _ => 0) := ⟨.map [], World.ownsMap_made _ _ _ _, fun _ => rfl⟩
end Go.Proofs.Ythjgnbjobinhdaa
