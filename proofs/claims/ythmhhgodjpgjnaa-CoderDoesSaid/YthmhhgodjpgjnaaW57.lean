import Derived.Test.YthmhhgodjpgjnaaW55
import Derived.Test.YthmhhgodjpgjnaaW56
namespace Go.Proofs.Ythmhhgodjpgjnaa
open Go.RowKit

theorem refNext_any (lo lo' : Nat) (i : Int) (v v' : Value) (r : Rdr) (t : List Int) (w : World) (hlo : lo ≤ w.heap.size) (hv : RgO lo w v r) (hv' : Os lo' w.heap.size w v' t) (h : OkR r) (ht : okB t) (hl : t.length ≤ 1000000) (hu : r.used ≤ t.length) :
    Calls Try.prog 20 #[v, v', .int .i64 i] w fun e w' => ∃ v', e = .returned (.tuple #[.bool (nextR t r i).1, v', .int .i64 (nextR t r i).2.2]) ∧ RgO lo w' v' (nextR t r i).2.1 ∧ Below w.heap.size w w' := by
  by_cases hi : 0 ≤ i ∧ i < r.c.length
  · obtain ⟨k, rfl⟩ : ∃ k : Nat, i = (k : Int) := ⟨i.toNat, by omega⟩
    have hcl := (okC_iff.1 h.c).1
    cases hb : bitR r k
    · exact refNext_false lo lo' k v v' r t w hlo hv hv' (by omega) h ht hl hu hcl hb
    · exact refNext_true lo lo' k v v' r t w hlo hv hv' (by omega) h ht hl hu hcl hb
  · have e : nextR t r i = (false, r, 4) := by unfold nextR; rw [if_pos hi]
    rw [e]
    exact (refNext_none lo v v' i r w hv hi)
end Go.Proofs.Ythmhhgodjpgjnaa
