import Derived.Test.YteokimebfbnlkaaW31
namespace Go.Proofs.Yteokimebfbnlkaa
open Go.RowKit

theorem cutA {wr w3 : World} {A3 : Option Addr} {n c3 : Nat} {l : List Ex} {a : Value} (hx : Exs wr.heap.size w3.heap.size w3 (.slice A3 n c3) l) (hb : Below wr.drew.heap.size wr.drew w3) :
    Exs wr.heap.size (w3.alloc (.cells #[a, .slice A3 n c3] 24)).heap.size (w3.alloc (.cells #[a, .slice A3 n c3] 24)) (.slice A3 n c3) l ∧ Blk (w3.alloc (.cells #[a, .slice A3 n c3] 24)) w3.heap.size 24 #[a, .slice A3 n c3] ∧ Below wr.heap.size wr (w3.alloc (.cells #[a, .slice A3 n c3] 24)) :=
  ⟨hx.grow (bl_alloc (Below.refl _ _) _), Blk.new rfl, bl_alloc (bl_call (Below.drew (Below.refl _ _)) hb) _⟩

theorem cutB {wr w3 : World} {A3 : Option Addr} {n c3 : Nat} {l : List Ex} {a u v : Value} (hx : Exs (wr.alloc (.cells #[u, v] 24)).heap.size w3.heap.size w3 (.slice A3 n c3) l) (hb : Below (wr.alloc (.cells #[u, v] 24)).drew.heap.size (wr.alloc (.cells #[u, v] 24)).drew w3) :
    Exs wr.heap.size ((w3.setCell ⟨wr.heap.size, 0, none⟩ a).setCell ⟨wr.heap.size, 1, none⟩ (.slice A3 n c3)).heap.size ((w3.setCell ⟨wr.heap.size, 0, none⟩ a).setCell ⟨wr.heap.size, 1, none⟩ (.slice A3 n c3)) (.slice A3 n c3) l ∧ Blk ((w3.setCell ⟨wr.heap.size, 0, none⟩ a).setCell ⟨wr.heap.size, 1, none⟩ (.slice A3 n c3)) wr.heap.size 24 #[a, .slice A3 n c3] ∧ Below wr.heap.size wr ((w3.setCell ⟨wr.heap.size, 0, none⟩ a).setCell ⟨wr.heap.size, 1, none⟩ (.slice A3 n c3)) := by
  have h0 : Blk (wr.alloc (.cells #[u, v] 24)) wr.heap.size 24 #[u, v] := Blk.new rfl
  have h1 : Blk w3 wr.heap.size 24 #[u, v] := h0.drew.below hb (by simp)
  have hz : (wr.alloc (.cells #[u, v] 24)).heap.size = wr.heap.size + 1 := by simp
  have hb' : Below wr.heap.size wr w3 := bl_call (Below.drew (bl_alloc (Below.refl _ _) _)) hb
  refine ⟨?_, Blk.set2 h1, (hb'.setCell (Nat.le_refl _) _).setCell (Nat.le_refl _) _⟩
  have hk : Agree (wr.alloc (.cells #[u, v] 24)).heap.size w3.heap.size w3 ((w3.setCell ⟨wr.heap.size, 0, none⟩ a).setCell ⟨wr.heap.size, 1, none⟩ (.slice A3 n c3)) := by
    intro k hk1 hk2
    rw [hz] at hk1
    exact (Below.heap_setCell _ _ _ _ (by simp; omega)).trans (Below.heap_setCell _ _ _ _ (by simp; omega))
  exact (hx.keep hk).mono (by omega) (by simp)

theorem giveV {w wr wc : World} {g9 : Nat} {v x y p q : Value} {os : List Ex} {A3 : Option Addr} {n c3 : Nat} {l : List Ex} {cs : Array Value}
    (ho : wr.ownsRow w.heap.size 26 2 v os.length (os.flatMap exv)) (hb : Below wr.heap.size wr wc) (M9 : Blk wc g9 24 #[p, q]) (MP : Blk wc w.heap.size 24 cs)
    (hE : Exs wr.heap.size wc.heap.size wc (.slice A3 n c3) l) (bw : Below w.heap.size w wr) (y9 : g9 < wr.heap.size) (hwg : w.heap.size < g9) :
    ∀ V, V = (wc.setCell ⟨g9, 0, none⟩ x).setCell ⟨g9, 1, none⟩ y →
    V.ownsRow w.heap.size 26 2 v os.length (os.flatMap exv) ∧ Blk V g9 24 #[x, y] ∧ Blk V w.heap.size 24 cs ∧ Exs wr.heap.size V.heap.size V (.slice A3 n c3) l ∧ Below w.heap.size w V ∧ (∀ k, v.ownBlock = some k → k < wr.heap.size) ∧ wr.heap.size ≤ V.heap.size := by
  intro V hV
  subst hV
  refine ⟨own_set2 (own_below ho hb (Nat.le_refl _)) M9 (by decide), M9.set2, (MP.far (by simp; omega) _).far (by simp; omega) _, ?_, ?_, own_lt ho, by simpa using hb.size⟩
  · have hk : Agree wr.heap.size wc.heap.size wc ((wc.setCell ⟨g9, 0, none⟩ x).setCell ⟨g9, 1, none⟩ y) := by
      intro k hk1 hk2
      exact (Below.heap_setCell _ _ _ _ (by simp; omega)).trans (Below.heap_setCell _ _ _ _ (by simp; omega))
    exact (hE.keep hk).mono (Nat.le_refl _) (by simp)
  · exact ((bl_call bw hb).setCell (by simp; omega) _).setCell (by simp; omega) _
theorem own_nil {w : World} {base : Nat} {e : TypeId} {size : Nat} : w.ownsRow base e size (.slice none 0 0) 0 [] := ⟨by simp, .inl ⟨rfl, rfl⟩⟩
theorem giveEnd {w V0 w5 w6 : World} {lo g9 n c3 : Nat} {A3 : Option Addr} {l : List Ex} {v5 v6 : Value} {cs ds : Array Value} (NE : Exs lo V0.heap.size V0 (.slice A3 n c3) l) (N9 : Blk V0 g9 24 cs) (NP : Blk V0 w.heap.size 24 ds) (NB : Below w.heap.size w V0)
    (hg5 : V0.drew.grownBy w5 none) (hl5 : v5.ownBlock = (Value.slice none 0 0).ownBlock ∨ v5.ownBlock = some V0.drew.heap.size) (hg6 : w5.grownBy w6 v5.ownBlock) (hl6 : v6.ownBlock = v5.ownBlock ∨ v6.ownBlock = some w5.heap.size) :
    Exs 0 w6.heap.size w6 (.slice A3 n c3) l ∧ Apart A3 n v6 ∧ Blk w6 g9 24 cs ∧ Blk w6 w.heap.size 24 ds ∧ Below w.heap.size w w6 := by
  have h5 : ∀ k, v5.ownBlock = some k → V0.heap.size ≤ k := by
    intro k hk
    rcases hl5 with h | h
    · rw [h] at hk; cases hk
    · rw [h] at hk; injection hk with hk; exact Nat.le_of_eq hk
  have z5 : V0.heap.size ≤ w5.heap.size := hg5.size
  have h6 : ∀ k, v6.ownBlock = some k → V0.heap.size ≤ k := by
    intro k hk
    rcases hl6 with h | h
    · rw [h] at hk; exact h5 k hk
    · rw [h] at hk; injection hk with hk; omega
  have AG : Agree lo V0.heap.size V0.drew w6 := Agree.grown (Agree.grown (Agree.refl _ _ _) hg5 (Nat.le_refl _) (fun k hk => by cases hk)) hg6 z5 (fun k hk => .inr (h5 k hk))
  have NE' : Exs lo V0.heap.size V0.drew (.slice A3 n c3) l := NE
  refine ⟨(NE'.keep AG).mono (Nat.zero_le _) (Nat.le_trans z5 hg6.size), Apart.fresh NE (fun k hk => .inr (h6 k hk)), ?_, ?_, ?_⟩
  · exact Blk.grown (Blk.grown N9.drew hg5 (fun e => by cases e)) hg6 (fun e => by have := h5 _ e.symm; have := N9.lt; omega)
  · exact Blk.grown (Blk.grown NP.drew hg5 (fun e => by cases e)) hg6 (fun e => by have := h5 _ e.symm; have := NP.lt; omega)
  · exact bl_grown (bl_grown (Below.drew NB) hg5 (fun k hk => by cases hk)) hg6 (fun k hk => Nat.le_trans NB.size (h5 k hk))
end Go.Proofs.Yteokimebfbnlkaa
