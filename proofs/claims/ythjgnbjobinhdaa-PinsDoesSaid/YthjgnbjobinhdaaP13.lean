import Derived.Test.YthjgnbjobinhdaaP12
namespace Go.Proofs.Ythjgnbjobinhdaa
open Go.RowKit
set_option maxRecDepth 100000

/-- A list of int8: its cells. -/
def i8c (z : Int) : List Value := [.int .i8 z]
theorem i8c_len : ∀ p, (i8c p).length = 1 := fun _ => rfl
theorem own_form {w : World} {base : Nat} {v : Value} {l : List Pn} (h : OwnP w base v l) : ∃ A c, v = .slice A l.length c := ownsRow_form h
theorem own_keep {w w' : World} {base : Nat} {v : Value} {l : List Pn} (h : OwnP w base v l) (hb : Below w.heap.size w w') : OwnP w' base v l := own_below h hb (Nat.le_refl _)
theorem OwnP.all {w : World} {base : Nat} {v : Value} {l : List Pn} (h : OwnP w base v l) : Pns 0 w.heap.size w v l := h.pns.mono (Nat.zero_le _) (Nat.le_refl _)
set_option maxHeartbeats 1000000 in
theorem live_any (w : World) : Calls Try.prog 8 #[] w fun e w' => e = .returned (.bool true) ∧ Below w.heap.size w w' := by
  have s0 : SmL [] := pins_nil.sm
  have p1 : Pins [⟨5, 1⟩] := pins_iff.1 (by decide)
  have p2 : Pins [⟨5, 2⟩] := pins_iff.1 (by decide)
  have h1 := Open_any 0 0 (.slice none 0 0) [] 5 w (Rd.nil _ _ _ _ _) (Nat.zero_le _) s0
  have h2 := fun (W : World) v (h : Pns 0 W.heap.size W v [⟨5, 1⟩]) => Open_any 0 W.heap.size v [⟨5, 1⟩] 5 W h (Nat.le_refl _) p1.sm
  have h3 := fun (W : World) v (h : Pns 0 W.heap.size W v [⟨5, 2⟩]) => Close_any 0 W.heap.size v [⟨5, 2⟩] 5 W h (Nat.le_refl _) p2.sm
  have h4 := fun (W : World) v (h : Pns 0 W.heap.size W v [⟨5, 1⟩]) => Many_any 0 W.heap.size v [⟨5, 1⟩] 5 W h (Nat.le_refl _) p1.sm
  rw [show openE [] 5 = 0 from rfl, show openL [] 5 = [⟨5, 1⟩] from rfl] at h1
  rw [show openE [⟨5, 1⟩] 5 = 0 from rfl, show openL [⟨5, 1⟩] 5 = [⟨5, 2⟩] from rfl] at h2
  rw [show closeE [⟨5, 2⟩] 5 = 0 from rfl, show closeL [⟨5, 2⟩] 5 = [⟨5, 1⟩] from rfl] at h3
  rw [show manyN [⟨5, 1⟩] 5 = 1 from rfl, show manyE [⟨5, 1⟩] 5 = 0 from rfl] at h4
  clear s0 p1 p2
  replace h1 := hide h1; replace h2 := hide h2; replace h3 := hide h3; replace h4 := hide h4
  have t1 : True := trivial
  go_enter Try.func8, Try.ntmps8
  go_wp2_with (first
    | (have _t := t1; clear t1 _t; go_at_call 9; refine (unhide h1).mono ?_; rintro e w1 ⟨v1, rfl, O1, B1⟩; replace O1 := hide O1.all; replace B1 := hide B1)
    | (go_at_call 9; refine (unhide h2 _ _ (unhide O1)).mono ?_; rintro e w2 ⟨v2, rfl, O2, B2⟩; replace B1 := hide ((unhide B1).trans (B2.mono (unhide B1).size)); replace O2 := hide O2.all; clear B2)
    | (go_at_call 11; refine (unhide h3 _ _ (unhide O2)).mono ?_; rintro e w3 ⟨v3, rfl, O3, B2⟩; replace B1 := hide ((unhide B1).trans (B2.mono (unhide B1).size)); replace O3 := hide O3.all; clear B2)
    | (go_at_call 13; refine (unhide h4 _ _ (unhide O3)).mono ?_; rintro e w4 ⟨rfl, B2⟩; replace B1 := hide ((unhide B1).trans (B2.mono (unhide B1).size)); clear B2))
  go_ret
  exact ⟨rfl, unhide B1⟩
end Go.Proofs.Ythjgnbjobinhdaa
