import Derived.Test.YtkgfmiicfegnlaaO1
import Derived.Test.YtkgfmiicfegnlaaM0
namespace Go.Proofs.Ytkgfmiicfegnlaa
open Go.RowKit Go.ChangeShapes Go.WideShapes Go.ChangeAt Go.Deep Go.Joins

def stc (p : List UInt8) : List Value := [.string (bz p)]
def ivc (z : Int) : List Value := [.int .i64 z]
theorem stc_len : ∀ p, (stc p).length = 1 := fun _ => rfl
theorem ivc_len : ∀ p, (ivc p).length = 1 := fun _ => rfl
section
variable {H : Type} {enc : TypeId × Value → H} {w : World} {base : Nat} {spare : Nat → Bool} {held : Bool}
theorem elem_name (n : Nat) (cs : List Value) (y : DataW H × List MemPlace) (_ : cs.length = 1) (h : DataW.trod enc Try.prog w base spare held n 9 cs = some y) : ∃ x, cs = stc x ∧ True := by
  obtain ⟨s, rfl, _⟩ := DataW.trod_string Try.underlying9 h
  exact ⟨s.data.toList, by unfold stc; rw [bz_data], trivial⟩
theorem elem_num (n : Nat) (cs : List Value) (y : DataW H × List MemPlace) (_ : cs.length = 1) (h : DataW.trod enc Try.prog w base spare held n 3 cs = some y) : ∃ x, cs = ivc x ∧ x ≤ 9223372036854775807 := by
  obtain ⟨z, rfl, _, hz⟩ := DataW.trod_int Try.underlying3 h
  have h1 : IntKind.i64.min ≤ z ∧ z ≤ IntKind.i64.max := by simpa [Lit.wf] using hz
  have e2 : IntKind.i64.max = 9223372036854775807 := by decide
  exact ⟨z, rfl, by omega⟩
theorem open_names {r : Reach} {b0 : Nat} {v : Value} {d : DataW H} {p : List MemPlace} (hv : Value.okWide Try.prog w r b0 42 v) (h : DataW.Trod enc Try.prog w base spare held 42 v d p) : ∃ l, Rd 1 stc 0 w.heap.size w v l := by
  obtain ⟨l, hl, _⟩ := open_rd (fun _ => True) Try.underlying42 cells9 (Nat.succ_pos _) stc_len (hE := elem_name) hv h
  exact ⟨l, hl⟩
theorem open_ints {r : Reach} {b0 : Nat} {v : Value} {d : DataW H} {p : List MemPlace} (hv : Value.okWide Try.prog w r b0 43 v) (h : DataW.Trod enc Try.prog w base spare held 43 v d p) : ∃ l, Rd 1 ivc 0 w.heap.size w v l ∧ ∀ x ∈ l, x ≤ 9223372036854775807 :=
  open_rd (fun x : Int => x ≤ 9223372036854775807) Try.underlying43 cells3 (Nat.succ_pos _) ivc_len (hE := elem_num) hv h
end
/-- The cells of a list of one cell each. -/
theorem Rd.one {α : Type} [Inhabited α] {f : α → List Value} {hi : Nat} {w : World} {A : Option Addr} {n c : Nat} {l : List α} (h : Rd 1 f 0 hi w (.slice A n c) l) {i : Nat} (hi' : i < l.length) {u : Value} (hu : (f (l[i]))[0]? = some u) :
    ∃ b off, A = some ⟨b, off, none⟩ ∧ b < hi ∧ w.cell? ⟨b, off + i, none⟩ = some u := by
  obtain ⟨A', c', e, h1, h2, h3⟩ := h
  injection e with e1 e2 e3
  obtain ⟨b, off, e4, _, hb, hc⟩ := h3 (by omega)
  refine ⟨b, off, e1.trans e4, hb, ?_⟩
  have := hc i hi' 0 u hu
  rwa [Nat.mul_one, Nat.add_zero] at this
end Go.Proofs.Ytkgfmiicfegnlaa
