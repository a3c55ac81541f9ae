import Derived.Test.YtdencbdbagikbaaBase2
namespace Go.Proofs.Ytdencbdbagikbaa
open Go.RowKit


theorem four_lit (a b c d : UInt8) (r : List UInt8) : four (a :: b :: c :: d :: r) = oc a ||| oc b <<< 8 ||| oc c <<< 16 ||| oc d <<< 24 := rfl
/-- The first four octets of a slice that reads so. -/
theorem Bs.four {lo hi : Nat} {w : World} {v : Value} {l : List UInt8} (h : Bs lo hi w v l) (h4 : 4 ≤ l.length) : ∃ b off c a0 a1 a2 a3 r, l = a0 :: a1 :: a2 :: a3 :: r ∧ v = .slice (some ⟨b, off, none⟩) l.length c ∧
    w.cell? ⟨b, off, none⟩ = some (u8v a0) ∧ w.cell? ⟨b, off + 1, none⟩ = some (u8v a1) ∧ w.cell? ⟨b, off + 2, none⟩ = some (u8v a2) ∧ w.cell? ⟨b, off + 3, none⟩ = some (u8v a3) := by
  obtain ⟨A, c, rfl, h1, h2, h3⟩ := h
  obtain ⟨b, off, rfl, _, _, hc⟩ := h3 (by omega)
  match l, h4 with
  | a0 :: a1 :: a2 :: a3 :: r, _ =>
    exact ⟨b, off, c, a0, a1, a2, a3, r, rfl, rfl, hc 0 (by simp), hc 1 (by simp), hc 2 (by simp), hc 3 (by simp)⟩

section
attribute [local go_sem] r_or r_shl8 r_shl16 r_shl24 r_conv
set_option maxHeartbeats 400000 in
theorem number_any (lo hi : Nat) (v : Value) (l : List UInt8) (w : World) (h : Bs lo hi w v l) (h4 : 4 ≤ l.length) : Calls Try.prog 8 #[v] w fun e w' => e = .returned (u32v (four l)) ∧ ∃ m, w' = w.drewN m := by
  obtain ⟨b, off, c, a0, a1, a2, a3, r, e, rfl, c0, c1, c2, c3⟩ := h.four h4
  have hf : four l = oc a0 ||| oc a1 <<< 8 ||| oc a2 <<< 16 ||| oc a3 <<< 24 := by rw [e]; rfl
  have hn : (4 : Int) ≤ (l.length : Int) := by omega
  rw [hf]
  generalize l.length = n at *
  clear e hf h h4
  have n0 : (0 : Int) < (n : Int) := by omega
  have n1 : (1 : Int) < (n : Int) := by omega
  have n2 : (2 : Int) < (n : Int) := by omega
  have n3 : (3 : Int) < (n : Int) := by omega
  have d0 : 0 < n := by omega
  have d1 : 1 < n := by omega
  have d2 : 2 < n := by omega
  have d3 : 3 < n := by omega
  go_enter Try.func8, Try.ntmps8
  go_wp2_with (fail)
  go_quiet (fail)
  go_wp2
  go_ret
  exact ⟨rfl, _, rfl⟩
end


theorem info5 : (Try.prog.info? 5).map (fun i => (i.zero, i.size, i.bytes)) = some (some (.int .u8 0), 1, 1) := by kernel_rfl
theorem info_parts {o : Option TypeInfo} {z : Value} {a b : Nat} (h : o.map (fun i => (i.zero, i.size, i.bytes)) = some (some z, a, b)) : ∃ i, o = some i ∧ i.zero = some z ∧ i.size = a ∧ i.bytes = b := by
  cases o with
  | none => cases h
  | some i => simp at h; exact ⟨i, rfl, h⟩

/-- A row of bytes of the call's own. -/
abbrev OwnB (w : World) (base : Nat) (v : Value) (l : List UInt8) : Prop := w.ownsRow base 5 1 v l.length (l.map u8v)
theorem OwnB.form {w : World} {base : Nat} {v : Value} {l : List UInt8} (h : OwnB w base v l) : ∃ A c, v = .slice A l.length c := ownsRow_form h

theorem add_none (b off i : Nat) : (⟨b, off, none⟩ : Addr).add i = ⟨b, off + i, none⟩ := by
  unfold Addr.add
  split
  · rename_i h; subst h; rfl
  · rfl
theorem oct_src {w : World} {g : Nat} {t : TypeId} {a b c d : UInt8} (h : Blk w g t #[u8v a, u8v b, u8v c, u8v d]) : SrcOk w (some ⟨g, 0, none⟩) 4 ([a, b, c, d].map u8v) := fun _ => by
  refine ⟨_, rfl, fun j u hu => ?_⟩
  rw [add_none, h.cell, Nat.zero_add]
  simpa using hu
theorem oct_bs {w : World} {g : Nat} {t : TypeId} {a b c d : UInt8} (h : Blk w g t #[u8v a, u8v b, u8v c, u8v d]) (lo : Nat) (hlo : lo ≤ g) : Bs lo w.heap.size w (.slice (some ⟨g, 0, none⟩) 4 4) [a, b, c, d] := by
  refine ⟨_, 4, rfl, by simp, by omega, fun _ => ⟨g, 0, rfl, hlo, h.lt, fun i hi => ?_⟩⟩
  rw [h.cell]
  match i, hi with
  | 0, _ => rfl
  | 1, _ => rfl
  | 2, _ => rfl
  | 3, _ => rfl

theorem bl_app {base : Nat} {w w' : World} {o : Obj} {e : TypeId} {k : Nat} {v : Value} {n : Nat} {xs : List Value} (hb : base ≤ w.heap.size) (hown : w.ownsRow base e k v n xs) (hg : (w.alloc o).grownBy w' v.ownBlock) : Below base w w' :=
  ((Below.refl _ _).alloc hb _).grown hg (by simp; omega) (own_base hown)
theorem le_alloc {base : Nat} {w : World} {o : Obj} (hb : base ≤ w.heap.size) : base ≤ (w.alloc o).heap.size := by simp; omega
section
attribute [local go_sem] r_shr8 r_shr16 r_shr24 r_low
set_option maxHeartbeats 1000000 in
theorem tell_any (base : Nat) (v : Value) (l : List UInt8) (x : Reg) (w : World) (hown : OwnB w base v l) (hb : base ≤ w.heap.size) (hL : l.length ≤ 1000000) :
    Calls Try.prog 9 #[v, u32v x] w fun e w' => ∃ v', e = .returned v' ∧ OwnB w' base v' (l ++ oct x) ∧ Below base w w' := by
  obtain ⟨i0, hi0, hz0, hz1, hz2⟩ := info_parts info5
  have hl2 : ((oct x).map u8v).length = 4 * 1 := rfl
  have ho2 := u8s_one (oct x)
  have b3 : l.length + 4 ≤ maxLen := by simp only [maxLen]; omega
  have b4 : (l.length + 4) * 1 ≤ 140737488355328 := by omega
  have hs : (l ++ oct x).length = l.length + 4 := by simp [oct]
  have hf : oct x = [⟨x.setWidth 8⟩, ⟨(x >>> 8).setWidth 8⟩, ⟨(x >>> 16).setWidth 8⟩, ⟨(x >>> 24).setWidth 8⟩] := rfl
  have hq := hown.form
  replace hl2 := hide hl2; replace ho2 := hide ho2; replace b3 := hide b3; replace b4 := hide b4; replace hs := hide hs; replace hf := hide hf; replace hown := hide hown; replace hb := hide hb
  obtain ⟨A, c, rfl⟩ := hq
  clear hL
  go_enter Try.func9, Try.ntmps9
  go_wp2_with (first
    | (at_builtin
       simp only [r_low]
       refine wpList_app _ rfl (.tmp 5) (.tmp 17) 25 rfl base 5 i0 _ 1 1 Try.underlying25 hi0 hz0 hz1 hz2 rfl (Nat.succ_pos _) _ l.length (l.map u8v) rfl ((unhide hown).alloc _) (some ⟨w.heap.size, 0, none⟩) 4 4 _ rfl (unhide hl2) (oct_src (Blk.new rfl)) (unhide ho2) (unhide b3) (unhide b4) (le_alloc (unhide hb)) ?_
       intro v4 w4 hown4 hg4
       have hb4 : Below base w w4 := bl_app (unhide hb) (unhide hown) hg4
       replace hown4 := hide hown4)
    | fail)
  go_ret
  refine ⟨v4, rfl, ?_, hb4⟩
  have := unhide hown4
  rw [← List.map_append] at this
  unfold OwnB
  rw [unhide hs]
  exact this
end
theorem below_drewN {B : Nat} {a w : World} (h : Below B a w) (n : Nat) : Below B a (w.drewN n) := ⟨h.os, h.tape, h.output, h.size, h.block⟩
theorem Blk.row {w : World} {g : Nat} {t : TypeId} {cs : Array Value} (h : Blk w g t cs) (C : Array Value) : Blk (w.setRow g C) g t C := setRow_heap w g _ C t _ h
theorem Blk.row_other {w : World} {g g' : Nat} {t : TypeId} {cs : Array Value} (h : Blk w g t cs) (C : Array Value) (hne : g ≠ g') : Blk (w.setRow g' C) g t cs := (setRow_other w g' g C hne).trans h
theorem bl_row {B g : Nat} {a w : World} (h : Below B a w) (C : Array Value) (hg : B ≤ g) : Below B a (w.setRow g C) :=
  h.trans ⟨rfl, rfl, rfl, by simp [World.setRow], fun k hk => setRow_other w g k C (by omega)⟩
theorem size24 : (Try.prog.info? 24).map (·.size) = some 4 := by kernel_rfl
/-- A state, by value, and as cells. -/
abbrev stC (s : St) : Array Value := #[u32v s.a, u32v s.b, u32v s.c, u32v s.d]
abbrev stV (s : St) : Value := .agg (stC s)
abbrev zC : Array Value := #[.int .u32 0, .int .u32 0, .int .u32 0, .int .u32 0]
theorem stC_one (s : St) : (stC s).all (·.oneCell') = true := by simp [Value.oneCell']


end Go.Proofs.Ytdencbdbagikbaa
