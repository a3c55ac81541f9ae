import Derived.Test.YtlgahaidnpgnaaaDoorW2
namespace Go.Proofs.YtlgahaidnpgnaaaDoor
open Go.RowKit

theorem info5 : (Tryd.prog.info? 5).map (fun i => (i.zero, i.size, i.bytes)) = some (some (.int .u8 0), 1, 1) := by kernel_rfl
theorem info_parts {o : Option TypeInfo} {z : Value} {a b : Nat} (h : o.map (fun i => (i.zero, i.size, i.bytes)) = some (some z, a, b)) : ∃ i, o = some i ∧ i.zero = some z ∧ i.size = a ∧ i.bytes = b := by
  cases o with
  | none => cases h
  | some i => simp at h; exact ⟨i, rfl, h⟩

/-- A row of bytes of the call's own. -/
abbrev OwnB (w : World) (base : Nat) (v : Value) (l : List UInt8) : Prop := w.ownsRow base 5 1 v l.length (l.map u8v)
theorem OwnB.form {w : World} {base : Nat} {v : Value} {l : List UInt8} (h : OwnB w base v l) : ∃ A c, v = .slice A l.length c := ownsRow_form h

theorem add_none (b off i : Nat) : (⟨b, off, none⟩ : Addr).add i = ⟨b, off + i, none⟩ := by
  unfold Addr.add
  split
  · rename_i h; subst h; rfl
  · rfl
theorem oct_src {w : World} {g : Nat} {t : TypeId} {a b c d : UInt8} (h : Blk w g t #[u8v a, u8v b, u8v c, u8v d]) : SrcOk w (some ⟨g, 0, none⟩) 4 ([a, b, c, d].map u8v) := fun _ => by
  refine ⟨_, rfl, fun j u hu => ?_⟩
  rw [add_none, h.cell, Nat.zero_add]
  simpa using hu
theorem oct_bs {w : World} {g : Nat} {t : TypeId} {a b c d : UInt8} (h : Blk w g t #[u8v a, u8v b, u8v c, u8v d]) (lo : Nat) (hlo : lo ≤ g) : Bs lo w.heap.size w (.slice (some ⟨g, 0, none⟩) 4 4) [a, b, c, d] := by
  refine ⟨_, 4, rfl, by simp, by omega, fun _ => ⟨g, 0, rfl, hlo, h.lt, fun i hi => ?_⟩⟩
  rw [h.cell]
  match i, hi with
  | 0, _ => rfl
  | 1, _ => rfl
  | 2, _ => rfl
  | 3, _ => rfl

theorem bl_app {base : Nat} {w w' : World} {o : Obj} {e : TypeId} {k : Nat} {v : Value} {n : Nat} {xs : List Value} (hb : base ≤ w.heap.size) (hown : w.ownsRow base e k v n xs) (hg : (w.alloc o).grownBy w' v.ownBlock) : Below base w w' :=
  ((Below.refl _ _).alloc hb _).grown hg (by simp; omega) (own_base hown)
theorem le_alloc {base : Nat} {w : World} {o : Obj} (hb : base ≤ w.heap.size) : base ≤ (w.alloc o).heap.size := by simp; omega
section
attribute [local go_sem] r_shr8 r_shr16 r_shr24 r_low
set_option maxHeartbeats 1000000 in
theorem tell_any (base : Nat) (v : Value) (l : List UInt8) (x : Reg) (w : World) (hown : OwnB w base v l) (hb : base ≤ w.heap.size) (hL : l.length ≤ 1000000) :
    Calls Tryd.prog 42 #[v, u32v x] w fun e w' => ∃ v', e = .returned v' ∧ OwnB w' base v' (l ++ oct x) ∧ Below base w w' := by
  obtain ⟨i0, hi0, hz0, hz1, hz2⟩ := info_parts info5
  have hl2 : ((oct x).map u8v).length = 4 * 1 := rfl
  have ho2 := u8s_one (oct x)
  have b3 : l.length + 4 ≤ maxLen := by simp only [maxLen]; omega
  have b4 : (l.length + 4) * 1 ≤ 140737488355328 := by omega
  have hs : (l ++ oct x).length = l.length + 4 := by simp [oct]
  have hf : oct x = [⟨x.setWidth 8⟩, ⟨(x >>> 8).setWidth 8⟩, ⟨(x >>> 16).setWidth 8⟩, ⟨(x >>> 24).setWidth 8⟩] := rfl
  have hq := hown.form
  replace hl2 := hide hl2; replace ho2 := hide ho2; replace b3 := hide b3; replace b4 := hide b4; replace hs := hide hs; replace hf := hide hf; replace hown := hide hown; replace hb := hide hb
  obtain ⟨A, c, rfl⟩ := hq
  clear hL
  go_enter Tryd.func42, Tryd.ntmps42
  go_wp2_with (first
    | (at_builtin
       simp only [r_low]
       refine wpList_app _ rfl (.tmp 5) (.tmp 17) 28 rfl base 5 i0 _ 1 1 Tryd.underlying28 hi0 hz0 hz1 hz2 rfl (Nat.succ_pos _) _ l.length (l.map u8v) rfl ((unhide hown).alloc _) (some ⟨w.heap.size, 0, none⟩) 4 4 _ rfl (unhide hl2) (oct_src (Blk.new rfl)) (unhide ho2) (unhide b3) (unhide b4) (le_alloc (unhide hb)) ?_
       intro v4 w4 hown4 hg4
       have hb4 : Below base w w4 := bl_app (unhide hb) (unhide hown) hg4
       replace hown4 := hide hown4)
    | fail)
  go_ret
  refine ⟨v4, rfl, ?_, hb4⟩
  have := unhide hown4
  rw [← List.map_append] at this
  unfold OwnB
  rw [unhide hs]
  exact this
end
end Go.Proofs.YtlgahaidnpgnaaaDoor
