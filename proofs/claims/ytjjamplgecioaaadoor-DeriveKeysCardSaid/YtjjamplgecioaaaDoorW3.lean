import Derived.Test.YtjjamplgecioaaaDoorW2
namespace Go.Proofs.YtjjamplgecioaaaDoor
open Go.RowKit

theorem info5 : (Tryd.prog.info? 5).map (fun i => (i.zero, i.size, i.bytes)) = some (some (.int .u8 0), 1, 1) := by kernel_rfl
theorem info_parts {o : Option TypeInfo} {z : Value} {a b : Nat} (h : o.map (fun i => (i.zero, i.size, i.bytes)) = some (some z, a, b)) : ∃ i, o = some i ∧ i.zero = some z ∧ i.size = a ∧ i.bytes = b := by
  cases o with
  | none => cases h
  | some i => simp at h; exact ⟨i, rfl, h⟩

/-- A row of bytes of the call's own. -/
abbrev OwnB (w : World) (base : Nat) (v : Value) (l : List UInt8) : Prop := w.ownsRow base 5 1 v l.length (l.map u8v)
theorem OwnB.form {w : World} {base : Nat} {v : Value} {l : List UInt8} (h : OwnB w base v l) : ∃ A c, v = .slice A l.length c := ownsRow_form h

theorem add_none (b off i : Nat) : (⟨b, off, none⟩ : Addr).add i = ⟨b, off + i, none⟩ := by
  unfold Addr.add
  split
  · rename_i h; subst h; rfl
  · rfl
theorem oct_src {w : World} {g : Nat} {t : TypeId} {a b c d : UInt8} (h : Blk w g t #[u8v a, u8v b, u8v c, u8v d]) : SrcOk w (some ⟨g, 0, none⟩) 4 ([a, b, c, d].map u8v) := fun _ => by
  refine ⟨_, rfl, fun j u hu => ?_⟩
  rw [add_none, h.cell, Nat.zero_add]
  simpa using hu
theorem oct_bs {w : World} {g : Nat} {t : TypeId} {a b c d : UInt8} (h : Blk w g t #[u8v a, u8v b, u8v c, u8v d]) (lo : Nat) (hlo : lo ≤ g) : Bs lo w.heap.size w (.slice (some ⟨g, 0, none⟩) 4 4) [a, b, c, d] := by
  refine ⟨_, 4, rfl, by simp, by omega, fun _ => ⟨g, 0, rfl, hlo, h.lt, fun i hi => ?_⟩⟩
  rw [h.cell]
  match i, hi with
  | 0, _ => rfl
  | 1, _ => rfl
  | 2, _ => rfl
  | 3, _ => rfl

theorem bl_app {base : Nat} {w w' : World} {o : Obj} {e : TypeId} {k : Nat} {v : Value} {n : Nat} {xs : List Value} (hb : base ≤ w.heap.size) (hown : w.ownsRow base e k v n xs) (hg : (w.alloc o).grownBy w' v.ownBlock) : Below base w w' :=
  ((Below.refl _ _).alloc hb _).grown hg (by simp; omega) (own_base hown)
theorem le_alloc {base : Nat} {w : World} {o : Obj} (hb : base ≤ w.heap.size) : base ≤ (w.alloc o).heap.size := by simp; omega
end Go.Proofs.YtjjamplgecioaaaDoor
