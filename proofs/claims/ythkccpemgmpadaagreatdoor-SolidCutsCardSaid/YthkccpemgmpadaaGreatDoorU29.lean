import Derived.Test.YthkccpemgmpadaaGreatDoorU28
namespace Go.Proofs.YthkccpemgmpadaaGreatDoor
set_option maxRecDepth 100000
open Go.RowKit
theorem step_app {P : Program} {ops : Array Oper} {o : Oper} {a : Act} {w : World} {K : Act → World → Prop} {Q : Exit → Act → World → Prop} {E : Prop} (hgd : o.guard = none) (s x : Operand) (t : TypeId)
    (ho : o.op = .call { callee := .builtin .append, args := #[s, x], argTypes := #[t, t] })
    (base : Nat) (e : TypeId) (i : TypeInfo) (z : Value) (size bytes : Nat) (ht : P.underlying t = some (.slice e)) (hi : P.info? e = some i) (hz : i.zero = some z)
    (hsize : i.size = size) (hby : i.bytes = bytes) (hzs : z.cells.size = size) (hsz : 0 < size)
    (v : Value) (n : Nat) (xs : List Value) (hs : a.eval s = v) (hown : w.ownsRow base e size v n xs)
    (A : Option Addr) (m c : Nat) (news : List Value) (hx : a.eval x = .slice A m c) (hl : news.length = m * size) (hr : SrcOk w A m news) (h1 : ∀ u ∈ news, u.oneCell' = true)
    (h63 : n + m ≤ maxLen) (hbytes : (n + m) * bytes ≤ 140737488355328) (hbase : base ≤ w.heap.size)
    (h : ∀ v' w', w'.ownsRow base e size v' (n + m) (xs ++ news) → w.grownBy w' v.ownBlock → K (a.put o.dst v') w') :
    if Region.wanted o (yielded ops a.tmps) = true then Oper.wp P o a w K Q else E := by
  have hw : Region.wanted o (yielded ops a.tmps) = true := by simp [Region.wanted, hgd]
  rw [if_pos hw]
  exact wp_app w s x t ho base e i z size bytes ht hi hz hsize hby hzs hsz v n xs hs hown A m c news hx hl hr h1 h63 hbytes hbase h
theorem Blk.call {V w' : World} {g : Nat} {t : TypeId} {cs : Array Value} (h : Blk V g t cs) (hb : Below V.heap.size V w') : Blk w' g t cs := h.below hb h.lt
theorem one_row {w : World} {g : Nat} {x : UInt8} (h : Blk w g 5 #[u8v x]) : SrcOk w (some ⟨g, 0, none⟩) 1 ([x].map u8v) := fun _ => by
  refine ⟨_, rfl, fun j u hu => ?_⟩
  rw [add_none, h.cell, Nat.zero_add]
  simpa using hu
theorem sz_alloc {w : World} {b : Nat} (h : b ≤ w.heap.size) (o : Obj) : b ≤ (w.alloc o).heap.size := by simp; omega
theorem Bs.nil0 (w : World) : Bs 0 w.heap.size w (.slice none 0 0) [] := ⟨_, 0, rfl, Nat.le_refl _, by omega, fun h => absurd h (by simp)⟩
structure Fx (w0 W : World) (L : List (Nat × TypeId × Array Value)) (R : List (Nat × Value × List UInt8)) (Z : List (Value × List UInt8)) : Prop where
  bl : Below w0.heap.size w0 W
  blk : ∀ p ∈ L, Blk W p.1 p.2.1 p.2.2
  row : ∀ p ∈ R, OwnB W p.1 p.2.1 p.2.2 ∧ p.1 ≤ W.heap.size
  bs : ∀ p ∈ Z, Bs 0 W.heap.size W p.1 p.2
section
variable {w0 W w' : World} {L : List (Nat × TypeId × Array Value)} {R : List (Nat × Value × List UInt8)} {Z : List (Value × List UInt8)}
theorem Fx.nil (w : World) : Fx w w [] [] [] := ⟨Below.refl _ _, fun _ hp => (nomatch hp), fun _ hp => (nomatch hp), fun _ hp => (nomatch hp)⟩
theorem Fx.call (h : Fx w0 W L R Z) (hb : Below W.heap.size W w') : Fx w0 w' L R Z :=
  ⟨bl_call h.bl hb, fun p hp => (h.blk p hp).call hb, fun p hp => ⟨own_below (h.row p hp).1 hb (Nat.le_refl _), Nat.le_trans (h.row p hp).2 hb.size⟩, fun p hp => (h.bs p hp).to hb⟩
theorem Fx.alloc (h : Fx w0 W L R Z) (o : Obj) : Fx w0 (W.alloc o) L R Z := h.call ((Below.refl _ _).alloc (Nat.le_refl _) o)
theorem Fx.drew (h : Fx w0 W L R Z) : Fx w0 W.drew L R Z := h.call (Below.drew (Below.refl _ _))
theorem Fx.drewN (h : Fx w0 W L R Z) (n : Nat) : Fx w0 (W.drewN n) L R Z := h.call (below_drewN (Below.refl _ _) n)
theorem Fx.addB (h : Fx w0 W L R Z) {g : Nat} {t : TypeId} {cs : Array Value} (hk : Blk W g t cs) : Fx w0 W (L ++ [(g, t, cs)]) R Z :=
  ⟨h.bl, fun p hp => (List.mem_append.1 hp).elim (fun hp => h.blk p hp) (fun hp => by rw [List.mem_singleton.1 hp]; exact hk), h.row, h.bs⟩
theorem Fx.newB (h : Fx w0 W L R Z) (g : Nat) (hg : g = W.heap.size) (cs : Array Value) (t : TypeId) : Fx w0 (W.alloc (.cells cs t)) (L ++ [(g, t, cs)]) R Z := (h.alloc _).addB (Blk.new hg)
theorem Fx.addR (h : Fx w0 W L R Z) {b : Nat} {v : Value} {l : List UInt8} (hk : OwnB W b v l) (hb : b ≤ W.heap.size) : Fx w0 W L (R ++ [(b, v, l)]) Z :=
  ⟨h.bl, h.blk, fun p hp => (List.mem_append.1 hp).elim (fun hp => h.row p hp) (fun hp => by rw [List.mem_singleton.1 hp]; exact ⟨hk, hb⟩), h.bs⟩
theorem Fx.addZ (h : Fx w0 W L R Z) {v : Value} {l : List UInt8} (hk : Bs 0 W.heap.size W v l) : Fx w0 W L R (Z ++ [(v, l)]) :=
  ⟨h.bl, h.blk, h.row, fun p hp => (List.mem_append.1 hp).elim (fun hp => h.bs p hp) (fun hp => by rw [List.mem_singleton.1 hp]; exact hk)⟩
theorem Fx.get (h : Fx w0 W L R Z) (i : Nat) {g : Nat} {t : TypeId} {cs : Array Value} (e : L[i]? = some (g, t, cs)) : Blk W g t cs := h.blk _ (List.mem_of_getElem? e)
theorem Fx.own (h : Fx w0 W L R Z) (i : Nat) {b : Nat} {v : Value} {l : List UInt8} (e : R[i]? = some (b, v, l)) : OwnB W b v l := (h.row _ (List.mem_of_getElem? e)).1
theorem Fx.rd (h : Fx w0 W L R Z) (i : Nat) {v : Value} {l : List UInt8} (e : Z[i]? = some (v, l)) : Bs 0 W.heap.size W v l := h.bs _ (List.mem_of_getElem? e)
theorem Fx.sub (h : Fx w0 W L R Z) {L' : List (Nat × TypeId × Array Value)} {R' : List (Nat × Value × List UInt8)} {Z' : List (Value × List UInt8)} (h1 : ∀ p ∈ L', p ∈ L) (h2 : ∀ p ∈ R', p ∈ R) (h3 : ∀ p ∈ Z', p ∈ Z) : Fx w0 W L' R' Z' :=
  ⟨h.bl, fun p hp => h.blk p (h1 p hp), fun p hp => h.row p (h2 p hp), fun p hp => h.bs p (h3 p hp)⟩
theorem Fx.upon (h : Fx w0 W L [] []) {B : Nat} (hb : Below B W w') (hB : w0.heap.size ≤ B) (hL : ∀ p ∈ L, p.1 < B) : Fx w0 w' L [] [] :=
  ⟨h.bl.trans (hb.mono hB), fun p hp => (h.blk p hp).below hb (hL p hp), fun _ hp => (nomatch hp), fun _ hp => (nomatch hp)⟩
end
set_option maxHeartbeats 1000000 in
theorem Tag_good (s : St) (n : Nx) (v : Value) (t : List UInt8) (w : World) (ht : Tab w) (h : Bs 0 w.heap.size w v t) (hk : t.length ≤ 65536) :
    Calls Tryz.prog 59 #[stV s, u64v n, v] w fun e w' => e = .returned (.tuple #[stV (tagF s n t), .int .i64 0]) ∧ Below w.heap.size w w' := by
  obtain ⟨i0, hi0, hz0, hz1, hz2⟩ := info_parts info5
  have X0 : Fx w ((w.alloc (.cells (stC s) 24)).alloc (.cells zC 24)) [(w.heap.size, 24, stC s), (w.heap.size + 1, 24, zC)] [] [] := ((Fx.nil w).newB w.heap.size rfl (stC s) 24).newB (w.heap.size + 1) (by simp) zC 24
  have hk1 : ¬ (65536 : Int) < (t.length : Int) := by omega
  have hl8 := eight_len n
  have hq := fun va W (hb : Below w.heap.size w W) (h' : Bs 0 W.heap.size W va (eight n ++ [2])) => behind_any s v va t (eight n ++ [2]) W (ht.below hb (Nat.le_refl _)) h' (h.to hb) (by simp) (by simp [hl8]; omega)
  have hF : tagF s n t = absorbF s (eight n ++ [2] ++ t) := by rw [List.append_assoc]; rfl
  rw [← hF] at hq
  have hl9 : (eight n ++ [2]).length = 8 + 1 := by rw [List.length_append, hl8]; rfl
  have ho2 := u8s_one [2]
  have b3 : 8 + 1 ≤ maxLen := by simp only [maxLen]; omega
  have b4 : (8 + 1) * 1 ≤ 140737488355328 := by omega
  generalize tagF s n t = S' at *
  obtain ⟨A, c, rfl⟩ := h.form
  generalize t.length = m at *
  replace X0 := hide X0; replace hq := hide hq; replace hl9 := hide hl9; replace hl8 := hide hl8; replace ho2 := hide ho2; replace b3 := hide b3; replace b4 := hide b4
  clear h hF
  go_enter Tryz.func59, Tryz.ntmps59
  go_upto_region 3 with (fail)
  generalize hW : World.alloc (World.alloc w _) _ = W at *
  clear hW
  have l0 := ((unhide X0).get 0 rfl).lt
  have l1 := ((unhide X0).get 1 rfl).lt
  have c00 : W.cell? ⟨w.heap.size, 0, none⟩ = some (u32v s.a) := ((unhide X0).get 0 rfl).cell 0
  have c01 : W.cell? ⟨w.heap.size, 1, none⟩ = some (u32v s.b) := ((unhide X0).get 0 rfl).cell 1
  have c02 : W.cell? ⟨w.heap.size, 2, none⟩ = some (u32v s.c) := ((unhide X0).get 0 rfl).cell 2
  have c03 : W.cell? ⟨w.heap.size, 3, none⟩ = some (u32v s.d) := ((unhide X0).get 0 rfl).cell 3
  go_region_law (first
    | (go_simp; go_at_call 60; refine (octets_any n _).mono ?_; rintro e w5 ⟨v5, rfl, o5, hb5⟩
       obtain ⟨A5, c5, rfl⟩ : ∃ A c, v5 = .slice A 8 c := by obtain ⟨A, c, e⟩ := o5.form; exact ⟨A, c, by rw [e, unhide hl8]⟩
       have o5' : w5.ownsRow (w.heap.size + 2) 5 1 (.slice A5 8 c5) 8 ((eight n).map u8v) := by
         have := ownsRow_mono (base' := w.heap.size + 2) o5 (by first | exact Nat.succ_le_of_lt l1 | exact sz_alloc (Nat.succ_le_of_lt l1) _)
         unfold OwnB at this
         rw [unhide hl8] at this
         exact this
       (first | (have R5 : Blk w5 W.heap.size 5 #[u8v 2] := Blk.call (show Blk (World.alloc W.drew (.cells #[u8v 2] 5)) W.heap.size 5 _ from Blk.new rfl) hb5; replace R5 := hide R5) | skip)
       have X5 : Fx w w5 [(w.heap.size, 24, stC s), (w.heap.size + 1, 24, zC)] [] [] := Fx.call (by repeat (first | with_reducible exact unhide X0 | with_reducible refine Fx.drew ?_ | with_reducible refine Fx.alloc ?_ _)) hb5
       have l50 := (X5.get 0 rfl).lt
       have l51 := (X5.get 1 rfl).lt
       have c50 : w5.cell? ⟨w.heap.size, 0, none⟩ = some (u32v s.a) := (X5.get 0 rfl).cell 0
       have c51 : w5.cell? ⟨w.heap.size, 1, none⟩ = some (u32v s.b) := (X5.get 0 rfl).cell 1
       have c52 : w5.cell? ⟨w.heap.size, 2, none⟩ = some (u32v s.c) := (X5.get 0 rfl).cell 2
       have c53 : w5.cell? ⟨w.heap.size, 3, none⟩ = some (u32v s.d) := (X5.get 0 rfl).cell 3
       replace X5 := hide X5; replace o5' := hide o5'
       clear o5 hb5)
    | (refine step_app rfl (.tmp 15) (.tmp 16) 29 rfl (w.heap.size + 2) 5 i0 _ 1 1 Tryz.underlying29 hi0 hz0 hz1 hz2 rfl (Nat.succ_pos _) _ 8 ((eight n).map u8v) rfl (by first | exact unhide o5' | exact World.ownsRow.alloc (unhide o5') _) _ 1 1 (([2] : List UInt8).map u8v) rfl rfl (by first | exact one_src w5 2 | exact one_row (unhide R5)) (unhide ho2) (unhide b3) (unhide b4) (by first | exact Nat.succ_le_of_lt l51 | exact sz_alloc (Nat.succ_le_of_lt l51) _) ?_
       intro v6 w6 o6 hg6
       have X6 : Fx w w6 [(w.heap.size, 24, stC s), (w.heap.size + 1, 24, zC)] [] [] := Fx.upon (by repeat (first | with_reducible exact unhide X5 | with_reducible refine Fx.drew ?_ | with_reducible refine Fx.alloc ?_ _)) ((Below.refl (w.heap.size + 2) _).grown hg6 (by first | exact Nat.succ_le_of_lt l51 | exact sz_alloc (Nat.succ_le_of_lt l51) _) (own_base (unhide o5'))) (by omega) (by simp)
       have y6 : Bs 0 w6.heap.size w6 v6 (eight n ++ [2]) := Bs.of_own0 (own_app o6 (by rw [unhide hl9]))
       obtain ⟨A6, c6, rfl⟩ : ∃ A c, v6 = .slice A (8 + 1) c := by obtain ⟨A, c, e⟩ := y6.form; exact ⟨A, c, by rw [e, unhide hl9]⟩
       have c60 : w6.cell? ⟨w.heap.size, 0, none⟩ = some (u32v s.a) := (X6.get 0 rfl).cell 0
       have c61 : w6.cell? ⟨w.heap.size, 1, none⟩ = some (u32v s.b) := (X6.get 0 rfl).cell 1
       have c62 : w6.cell? ⟨w.heap.size, 2, none⟩ = some (u32v s.c) := (X6.get 0 rfl).cell 2
       have c63 : w6.cell? ⟨w.heap.size, 3, none⟩ = some (u32v s.d) := (X6.get 0 rfl).cell 3
       replace X6 := hide X6; replace y6 := hide y6
       clear o6 hg6)
    | (go_simp; go_at_call 95; refine (unhide hq _ _ (Fx.bl (by repeat (first | with_reducible exact unhide X6 | with_reducible refine Fx.drew ?_ | with_reducible refine Fx.alloc ?_ _))) (unhide y6)).mono ?_; rintro e w7 ⟨rfl, hb7⟩
       have X7 : Fx w w7 [(w.heap.size, 24, stC s), (w.heap.size + 1, 24, zC)] [] [] := Fx.call (by repeat (first | with_reducible exact unhide X6 | with_reducible refine Fx.drew ?_ | with_reducible refine Fx.alloc ?_ _)) hb7
       have d0 : w7.cell? ⟨w.heap.size + 1, 0, none⟩ = some (.int .u32 0) := (X7.get 1 rfl).cell 0
       have d1 : w7.cell? ⟨w.heap.size + 1, 1, none⟩ = some (.int .u32 0) := (X7.get 1 rfl).cell 1
       have d2 : w7.cell? ⟨w.heap.size + 1, 2, none⟩ = some (.int .u32 0) := (X7.get 1 rfl).cell 2
       have d3 : w7.cell? ⟨w.heap.size + 1, 3, none⟩ = some (.int .u32 0) := (X7.get 1 rfl).cell 3
       have f0 : w7.frozen? ⟨w.heap.size + 1, 0, none⟩ = false := (X7.get 1 rfl).frozen 0
       have f1 : w7.frozen? ⟨w.heap.size + 1, 1, none⟩ = false := (X7.get 1 rfl).frozen 1
       have f2 : w7.frozen? ⟨w.heap.size + 1, 2, none⟩ = false := (X7.get 1 rfl).frozen 2
       have f3 : w7.frozen? ⟨w.heap.size + 1, 3, none⟩ = false := (X7.get 1 rfl).frozen 3
       have Z7 := X7.get 1 rfl
       have bb := X7.bl
       replace Z7 := hide Z7; replace bb := hide bb
       clear X7))
  all_goals
    have Z8 : Blk _ (w.heap.size + 1) 24 (stC S') := Blk.set4 (x := u32v S'.a) (y := u32v S'.b) (z := u32v S'.c) (u := u32v S'.d) (unhide Z7)
    have bb8 : Below w.heap.size w _ := below_set4 (g := w.heap.size + 1) (x := u32v S'.a) (y := u32v S'.b) (z := u32v S'.c) (u := u32v S'.d) (unhide bb) (by omega)
    replace Z8 := hide Z8; replace bb8 := hide bb8
    go_wp2_with (fail)
    exact ret_st2 rfl (w.heap.size + 1) S' (.int .i64 0) rfl rfl (unhide Z8) rfl ⟨rfl, unhide bb8⟩
end Go.Proofs.YthkccpemgmpadaaGreatDoor

namespace Go.Proofs.YthkccpemgmpadaaGreatDoor
set_option maxRecDepth 100000
open Go.RowKit
theorem Blk.grown {V w' : World} {g : Nat} {t : TypeId} {cs : Array Value} (h : Blk V g t cs) {base : Nat} {v : Value} {n : Nat} {xs : List Value} (ho : V.ownsRow base 5 1 v n xs) (hg : V.grownBy w' v.ownBlock) (ht : t ≠ 5) : Blk w' g t cs := by
  refine (hg.block g h.lt ?_).trans h
  rcases ho.2 with ⟨rfl, _⟩ | ⟨g', cap, cur, rfl, _, hh, _⟩
  · simp [Value.ownBlock]
  · intro e
    simp [Value.ownBlock] at e
    subst e
    exact Blk.ne_ h (t' := 5) (cs' := cur) hh ht rfl
theorem Fx.grown {w0 V w' : World} {L : List (Nat × TypeId × Array Value)} (h : Fx w0 V L [] []) {base : Nat} {v : Value} {n : Nat} {xs : List Value} (ho : V.ownsRow base 5 1 v n xs) (hg : V.grownBy w' v.ownBlock) (hb : w0.heap.size ≤ base) (hL : ∀ p ∈ L, p.2.1 ≠ 5) : Fx w0 w' L [] [] :=
  ⟨h.bl.grown hg h.bl.size (fun k hk => Nat.le_trans hb (own_base ho k hk)), fun p hp => (h.blk p hp).grown ho hg (hL p hp), fun _ hp => (nomatch hp), fun _ hp => (nomatch hp)⟩
theorem own_n {w : World} {base : Nat} {v : Value} {l : List UInt8} {m : Nat} (h : OwnB w base v l) (hl : l.length = m) : w.ownsRow base 5 1 v m (l.map u8v) := by subst hl; exact h
theorem Fx.put4 {w0 V : World} {b : Nat} {t : TypeId} {cs : Array Value} {g : Nat} {a e c d x y z u : Value} (h : Fx w0 V [(b, t, cs)] [] []) (hg : Blk V g 24 #[a, e, c, d]) (hl : w0.heap.size < g) :
    Fx w0 ((((V.setCell ⟨g, 0, none⟩ x).setCell ⟨g, 1, none⟩ y).setCell ⟨g, 2, none⟩ z).setCell ⟨g, 3, none⟩ u) [(g, 24, #[x, y, z, u])] [] [] :=
  ⟨below_set4 h.bl (Nat.le_of_lt hl), fun p hp => by rw [List.mem_singleton.1 hp]; exact Blk.set4 hg, fun _ hp => (nomatch hp), fun _ hp => (nomatch hp)⟩
set_option maxHeartbeats 4000000 in
theorem Stream_good (s : St) (n : Nx) (k : Nat) (w : World) (ht : Tab w) (hk : k ≤ 65536) :
    Calls Tryz.prog 94 #[stV s, u64v n, .int .i64 k] w fun e w' => ∃ A c, e = .returned (.tuple #[.slice A k c, .int .i64 0]) ∧ OwnB w' w.heap.size (.slice A k c) (streamF s n k) ∧ Below w.heap.size w w' := by
  obtain ⟨i0, hi0, hz0, hz1, hz2⟩ := info_parts info5
  have X0 : Fx w (w.alloc (.cells (stC s) 24)) [(w.heap.size, 24, stC s)] [] [] := (Fx.nil w).newB w.heap.size rfl (stC s) 24
  have hk0 : ¬ (k : Int) < 0 := by omega
  have hk1 : ¬ (65536 : Int) < (k : Int) := by omega
  have hl8 := eight_len n
  have hq := fun va W (hb : Below w.heap.size w W) (h' : Bs 0 W.heap.size W va (eight n ++ [1])) => behind_any s (.slice none 0 0) va [] (eight n ++ [1]) W (ht.below hb (Nat.le_refl _)) h' (Bs.nil0 _) (by simp) (by simp [hl8])
  simp only [List.append_nil] at hq
  have hs := fun W (hb : Below w.heap.size w W) => Squeeze_good (absorbF s (eight n ++ [1])) k W (ht.below hb (Nat.le_refl _)) (by omega)
  have hF : streamF s n k = squeezeF (absorbF s (eight n ++ [1])) k := rfl
  rw [hF]
  generalize absorbF s (eight n ++ [1]) = S' at *
  have hl9 : (eight n ++ [1]).length = 8 + 1 := by rw [List.length_append, hl8]; rfl
  have ho2 := u8s_one [1]
  have b3 : 8 + 1 ≤ maxLen := by simp only [maxLen]; omega
  have b4 : (8 + 1) * 1 ≤ 140737488355328 := by omega
  generalize squeezeF S' k = out at *
  replace X0 := hide X0; replace hq := hide hq; replace hs := hide hs; replace hl9 := hide hl9; replace hl8 := hide hl8; replace ho2 := hide ho2; replace b3 := hide b3; replace b4 := hide b4
  clear hF ht
  go_enter Tryz.func94, Tryz.ntmps94
  go_upto_region 5 with (fail)
  generalize hW : World.alloc w _ = W at *
  clear hW
  have l0 : w.heap.size < W.heap.size := ((unhide X0).get 0 rfl).lt
  have c00 : W.cell? ⟨w.heap.size, 0, none⟩ = some (u32v s.a) := ((unhide X0).get 0 rfl).cell 0
  have c01 : W.cell? ⟨w.heap.size, 1, none⟩ = some (u32v s.b) := ((unhide X0).get 0 rfl).cell 1
  have c02 : W.cell? ⟨w.heap.size, 2, none⟩ = some (u32v s.c) := ((unhide X0).get 0 rfl).cell 2
  have c03 : W.cell? ⟨w.heap.size, 3, none⟩ = some (u32v s.d) := ((unhide X0).get 0 rfl).cell 3
  go_cut [8, 9] (fun s8 s9 wx => ∃ g, s8 = .pointer (some ⟨g, 0, none⟩) ∧ s9 = .int .i64 0 ∧ Hid (Fx w wx [(g, 24, stC S')] [] []))
  case first =>
    go_region_held3 (fun W => W.cell? ⟨w.heap.size, 0, none⟩ = some (u32v s.a) ∧ W.cell? ⟨w.heap.size, 1, none⟩ = some (u32v s.b) ∧ W.cell? ⟨w.heap.size, 2, none⟩ = some (u32v s.c) ∧ W.cell? ⟨w.heap.size, 3, none⟩ = some (u32v s.d)) (first | exact ⟨by with_reducible assumption, by with_reducible assumption, by with_reducible assumption, by with_reducible assumption⟩ | exact ⟨by go_simp, by go_simp, by go_simp, by go_simp⟩)
      (first
      | (go_at_call 60; refine (octets_any n W.drew).mono ?_; rintro e w5 ⟨v5, rfl, o5, hb5⟩
         obtain ⟨A5, c5, rfl⟩ : ∃ A c, v5 = .slice A 8 c := by obtain ⟨A, c, e⟩ := o5.form; exact ⟨A, c, by rw [e, unhide hl8]⟩
         have o5' : w5.ownsRow (w.heap.size + 1) 5 1 (.slice A5 8 c5) 8 ((eight n).map u8v) := own_n (ownsRow_mono (base' := w.heap.size + 1) o5 (Nat.succ_le_of_lt l0)) (unhide hl8)
         have X5 : Fx w w5 [(w.heap.size, 24, stC s)] [] [] := Fx.call (unhide X0).drew hb5
         have l5 : w.heap.size < w5.heap.size := (X5.get 0 rfl).lt
         have c50 : w5.cell? ⟨w.heap.size, 0, none⟩ = some (u32v s.a) := (X5.get 0 rfl).cell 0
         have c51 : w5.cell? ⟨w.heap.size, 1, none⟩ = some (u32v s.b) := (X5.get 0 rfl).cell 1
         have c52 : w5.cell? ⟨w.heap.size, 2, none⟩ = some (u32v s.c) := (X5.get 0 rfl).cell 2
         have c53 : w5.cell? ⟨w.heap.size, 3, none⟩ = some (u32v s.d) := (X5.get 0 rfl).cell 3
         replace X5 := hide X5; replace o5' := hide o5'
         clear o5 hb5)
      | (go_at_call 60; refine (octets_any n (W.drew.alloc (.cells #[u8v 1] 5))).mono ?_; rintro e w5 ⟨v5, rfl, o5, hb5⟩
         obtain ⟨A5, c5, rfl⟩ : ∃ A c, v5 = .slice A 8 c := by obtain ⟨A, c, e⟩ := o5.form; exact ⟨A, c, by rw [e, unhide hl8]⟩
         have o5' : w5.ownsRow (w.heap.size + 1) 5 1 (.slice A5 8 c5) 8 ((eight n).map u8v) := own_n (ownsRow_mono (base' := w.heap.size + 1) o5 (sz_alloc (Nat.succ_le_of_lt l0) (.cells #[u8v 1] 5))) (unhide hl8)
         have X5 : Fx w w5 [(w.heap.size, 24, stC s)] [] [] := Fx.call ((unhide X0).drew.alloc (.cells #[u8v 1] 5)) hb5
         have R5 : Blk w5 (W.heap.size) 5 #[u8v 1] := Blk.call (V := (W.drew.alloc (.cells #[u8v 1] 5))) (Blk.new (w := W.drew) (t := 5) (cs := #[u8v 1]) rfl) hb5
         replace R5 := hide R5
         have l5 : w.heap.size < w5.heap.size := (X5.get 0 rfl).lt
         have c50 : w5.cell? ⟨w.heap.size, 0, none⟩ = some (u32v s.a) := (X5.get 0 rfl).cell 0
         have c51 : w5.cell? ⟨w.heap.size, 1, none⟩ = some (u32v s.b) := (X5.get 0 rfl).cell 1
         have c52 : w5.cell? ⟨w.heap.size, 2, none⟩ = some (u32v s.c) := (X5.get 0 rfl).cell 2
         have c53 : w5.cell? ⟨w.heap.size, 3, none⟩ = some (u32v s.d) := (X5.get 0 rfl).cell 3
         replace X5 := hide X5; replace o5' := hide o5'
         clear o5 hb5)
      | (go_at_call 60; refine (octets_any n (W.drew.alloc (.cells zC 24))).mono ?_; rintro e w5 ⟨v5, rfl, o5, hb5⟩
         obtain ⟨A5, c5, rfl⟩ : ∃ A c, v5 = .slice A 8 c := by obtain ⟨A, c, e⟩ := o5.form; exact ⟨A, c, by rw [e, unhide hl8]⟩
         have o5' : w5.ownsRow (w.heap.size + 1) 5 1 (.slice A5 8 c5) 8 ((eight n).map u8v) := own_n (ownsRow_mono (base' := w.heap.size + 1) o5 (sz_alloc (Nat.succ_le_of_lt l0) (.cells zC 24))) (unhide hl8)
         have X5 : Fx w w5 [(w.heap.size, 24, stC s)] [] [] := Fx.call ((unhide X0).drew.alloc (.cells zC 24)) hb5
         have Z5 : Blk w5 (W.heap.size) 24 zC := Blk.call (V := (W.drew.alloc (.cells zC 24))) (Blk.new (w := W.drew) (t := 24) (cs := zC) rfl) hb5
         have n5 : w.heap.size < W.heap.size := by omega
         replace Z5 := hide Z5; replace n5 := hide n5
         have l5 : w.heap.size < w5.heap.size := (X5.get 0 rfl).lt
         have c50 : w5.cell? ⟨w.heap.size, 0, none⟩ = some (u32v s.a) := (X5.get 0 rfl).cell 0
         have c51 : w5.cell? ⟨w.heap.size, 1, none⟩ = some (u32v s.b) := (X5.get 0 rfl).cell 1
         have c52 : w5.cell? ⟨w.heap.size, 2, none⟩ = some (u32v s.c) := (X5.get 0 rfl).cell 2
         have c53 : w5.cell? ⟨w.heap.size, 3, none⟩ = some (u32v s.d) := (X5.get 0 rfl).cell 3
         replace X5 := hide X5; replace o5' := hide o5'
         clear o5 hb5)
      | (go_at_call 60; refine (octets_any n ((W.drew.alloc (.cells #[u8v 1] 5)).alloc (.cells zC 24))).mono ?_; rintro e w5 ⟨v5, rfl, o5, hb5⟩
         obtain ⟨A5, c5, rfl⟩ : ∃ A c, v5 = .slice A 8 c := by obtain ⟨A, c, e⟩ := o5.form; exact ⟨A, c, by rw [e, unhide hl8]⟩
         have o5' : w5.ownsRow (w.heap.size + 1) 5 1 (.slice A5 8 c5) 8 ((eight n).map u8v) := own_n (ownsRow_mono (base' := w.heap.size + 1) o5 (sz_alloc (sz_alloc (Nat.succ_le_of_lt l0) (.cells #[u8v 1] 5)) (.cells zC 24))) (unhide hl8)
         have X5 : Fx w w5 [(w.heap.size, 24, stC s)] [] [] := Fx.call (((unhide X0).drew.alloc (.cells #[u8v 1] 5)).alloc (.cells zC 24)) hb5
         have R5 : Blk w5 (W.heap.size) 5 #[u8v 1] := Blk.call (V := ((W.drew.alloc (.cells #[u8v 1] 5)).alloc (.cells zC 24))) (Blk.alloc (Blk.new (w := W.drew) (t := 5) (cs := #[u8v 1]) rfl) (.cells zC 24)) hb5
         replace R5 := hide R5
         have Z5 : Blk w5 (W.heap.size + 1) 24 zC := Blk.call (V := ((W.drew.alloc (.cells #[u8v 1] 5)).alloc (.cells zC 24))) (Blk.new (w := W.drew.alloc (.cells #[u8v 1] 5)) (t := 24) (cs := zC) (by simp)) hb5
         have n5 : w.heap.size < W.heap.size + 1 := by omega
         replace Z5 := hide Z5; replace n5 := hide n5
         have l5 : w.heap.size < w5.heap.size := (X5.get 0 rfl).lt
         have c50 : w5.cell? ⟨w.heap.size, 0, none⟩ = some (u32v s.a) := (X5.get 0 rfl).cell 0
         have c51 : w5.cell? ⟨w.heap.size, 1, none⟩ = some (u32v s.b) := (X5.get 0 rfl).cell 1
         have c52 : w5.cell? ⟨w.heap.size, 2, none⟩ = some (u32v s.c) := (X5.get 0 rfl).cell 2
         have c53 : w5.cell? ⟨w.heap.size, 3, none⟩ = some (u32v s.d) := (X5.get 0 rfl).cell 3
         replace X5 := hide X5; replace o5' := hide o5'
         clear o5 hb5)
      | (go_at_call 60; refine (octets_any n ((W.drew.alloc (.cells zC 24)).alloc (.cells #[u8v 1] 5))).mono ?_; rintro e w5 ⟨v5, rfl, o5, hb5⟩
         obtain ⟨A5, c5, rfl⟩ : ∃ A c, v5 = .slice A 8 c := by obtain ⟨A, c, e⟩ := o5.form; exact ⟨A, c, by rw [e, unhide hl8]⟩
         have o5' : w5.ownsRow (w.heap.size + 1) 5 1 (.slice A5 8 c5) 8 ((eight n).map u8v) := own_n (ownsRow_mono (base' := w.heap.size + 1) o5 (sz_alloc (sz_alloc (Nat.succ_le_of_lt l0) (.cells zC 24)) (.cells #[u8v 1] 5))) (unhide hl8)
         have X5 : Fx w w5 [(w.heap.size, 24, stC s)] [] [] := Fx.call (((unhide X0).drew.alloc (.cells zC 24)).alloc (.cells #[u8v 1] 5)) hb5
         have R5 : Blk w5 (W.heap.size + 1) 5 #[u8v 1] := Blk.call (V := ((W.drew.alloc (.cells zC 24)).alloc (.cells #[u8v 1] 5))) (Blk.new (w := W.drew.alloc (.cells zC 24)) (t := 5) (cs := #[u8v 1]) (by simp)) hb5
         replace R5 := hide R5
         have Z5 : Blk w5 (W.heap.size) 24 zC := Blk.call (V := ((W.drew.alloc (.cells zC 24)).alloc (.cells #[u8v 1] 5))) (Blk.alloc (Blk.new (w := W.drew) (t := 24) (cs := zC) rfl) (.cells #[u8v 1] 5)) hb5
         have n5 : w.heap.size < W.heap.size := by omega
         replace Z5 := hide Z5; replace n5 := hide n5
         have l5 : w.heap.size < w5.heap.size := (X5.get 0 rfl).lt
         have c50 : w5.cell? ⟨w.heap.size, 0, none⟩ = some (u32v s.a) := (X5.get 0 rfl).cell 0
         have c51 : w5.cell? ⟨w.heap.size, 1, none⟩ = some (u32v s.b) := (X5.get 0 rfl).cell 1
         have c52 : w5.cell? ⟨w.heap.size, 2, none⟩ = some (u32v s.c) := (X5.get 0 rfl).cell 2
         have c53 : w5.cell? ⟨w.heap.size, 3, none⟩ = some (u32v s.d) := (X5.get 0 rfl).cell 3
         replace X5 := hide X5; replace o5' := hide o5'
         clear o5 hb5)
      | (refine step_app rfl (.tmp 17) (.tmp 18) 29 rfl (w.heap.size + 1) 5 i0 _ 1 1 Tryz.underlying29 hi0 hz0 hz1 hz2 rfl (Nat.succ_pos _) _ 8 ((eight n).map u8v) rfl (unhide o5') _ 1 1 (([1] : List UInt8).map u8v) rfl rfl (one_row (unhide R5)) (unhide ho2) (unhide b3) (unhide b4) (Nat.succ_le_of_lt l5) ?_
         intro v6 w6 o6 hg6
         have X6 : Fx w w6 [(w.heap.size, 24, stC s)] [] [] := Fx.grown (unhide X5) (unhide o5') hg6 (Nat.le_succ _) (by simp)
         have y6 : Bs 0 w6.heap.size w6 v6 (eight n ++ [1]) := Bs.of_own0 (own_app o6 (by rw [unhide hl9]))
         obtain ⟨A6, c6, rfl⟩ : ∃ A c, v6 = .slice A (8 + 1) c := by obtain ⟨A, c, e⟩ := y6.form; exact ⟨A, c, by rw [e, unhide hl9]⟩
         (first | (have Z6 : Blk w6 (W.heap.size) 24 zC := Blk.grown (V := w5) (unhide Z5) (unhide o5') hg6 (by decide); have n6 : w.heap.size < W.heap.size := unhide n5; replace Z6 := hide Z6; replace n6 := hide n6) | skip)
         (first | (have Z6 : Blk w6 (W.heap.size + 1) 24 zC := Blk.grown (V := w5) (unhide Z5) (unhide o5') hg6 (by decide); have n6 : w.heap.size < W.heap.size + 1 := unhide n5; replace Z6 := hide Z6; replace n6 := hide n6) | skip)
         have l6 : w.heap.size < w6.heap.size := (X6.get 0 rfl).lt
         have c60 : w6.cell? ⟨w.heap.size, 0, none⟩ = some (u32v s.a) := (X6.get 0 rfl).cell 0
         have c61 : w6.cell? ⟨w.heap.size, 1, none⟩ = some (u32v s.b) := (X6.get 0 rfl).cell 1
         have c62 : w6.cell? ⟨w.heap.size, 2, none⟩ = some (u32v s.c) := (X6.get 0 rfl).cell 2
         have c63 : w6.cell? ⟨w.heap.size, 3, none⟩ = some (u32v s.d) := (X6.get 0 rfl).cell 3
         replace X6 := hide X6; replace y6 := hide y6
         clear o6 hg6)
      | (refine step_app rfl (.tmp 17) (.tmp 18) 29 rfl (w.heap.size + 1) 5 i0 _ 1 1 Tryz.underlying29 hi0 hz0 hz1 hz2 rfl (Nat.succ_pos _) _ 8 ((eight n).map u8v) rfl (World.ownsRow.alloc (unhide o5') (.cells #[u8v 1] 5)) _ 1 1 (([1] : List UInt8).map u8v) rfl rfl (one_src w5 1) (unhide ho2) (unhide b3) (unhide b4) (sz_alloc (Nat.succ_le_of_lt l5) (.cells #[u8v 1] 5)) ?_
         intro v6 w6 o6 hg6
         have X6 : Fx w w6 [(w.heap.size, 24, stC s)] [] [] := Fx.grown ((unhide X5).alloc (.cells #[u8v 1] 5)) (World.ownsRow.alloc (unhide o5') (.cells #[u8v 1] 5)) hg6 (Nat.le_succ _) (by simp)
         have y6 : Bs 0 w6.heap.size w6 v6 (eight n ++ [1]) := Bs.of_own0 (own_app o6 (by rw [unhide hl9]))
         obtain ⟨A6, c6, rfl⟩ : ∃ A c, v6 = .slice A (8 + 1) c := by obtain ⟨A, c, e⟩ := y6.form; exact ⟨A, c, by rw [e, unhide hl9]⟩
         (first | (have Z6 : Blk w6 (W.heap.size) 24 zC := Blk.grown (V := (w5.alloc (.cells #[u8v 1] 5))) (Blk.alloc (unhide Z5) (.cells #[u8v 1] 5)) (World.ownsRow.alloc (unhide o5') (.cells #[u8v 1] 5)) hg6 (by decide); have n6 : w.heap.size < W.heap.size := unhide n5; replace Z6 := hide Z6; replace n6 := hide n6) | skip)
         (first | (have Z6 : Blk w6 (W.heap.size + 1) 24 zC := Blk.grown (V := (w5.alloc (.cells #[u8v 1] 5))) (Blk.alloc (unhide Z5) (.cells #[u8v 1] 5)) (World.ownsRow.alloc (unhide o5') (.cells #[u8v 1] 5)) hg6 (by decide); have n6 : w.heap.size < W.heap.size + 1 := unhide n5; replace Z6 := hide Z6; replace n6 := hide n6) | skip)
         have l6 : w.heap.size < w6.heap.size := (X6.get 0 rfl).lt
         have c60 : w6.cell? ⟨w.heap.size, 0, none⟩ = some (u32v s.a) := (X6.get 0 rfl).cell 0
         have c61 : w6.cell? ⟨w.heap.size, 1, none⟩ = some (u32v s.b) := (X6.get 0 rfl).cell 1
         have c62 : w6.cell? ⟨w.heap.size, 2, none⟩ = some (u32v s.c) := (X6.get 0 rfl).cell 2
         have c63 : w6.cell? ⟨w.heap.size, 3, none⟩ = some (u32v s.d) := (X6.get 0 rfl).cell 3
         replace X6 := hide X6; replace y6 := hide y6
         clear o6 hg6)
      | (refine step_app rfl (.tmp 17) (.tmp 18) 29 rfl (w.heap.size + 1) 5 i0 _ 1 1 Tryz.underlying29 hi0 hz0 hz1 hz2 rfl (Nat.succ_pos _) _ 8 ((eight n).map u8v) rfl (World.ownsRow.alloc (unhide o5') (.cells zC 24)) _ 1 1 (([1] : List UInt8).map u8v) rfl rfl (one_row (Blk.alloc (unhide R5) (.cells zC 24))) (unhide ho2) (unhide b3) (unhide b4) (sz_alloc (Nat.succ_le_of_lt l5) (.cells zC 24)) ?_
         intro v6 w6 o6 hg6
         have X6 : Fx w w6 [(w.heap.size, 24, stC s)] [] [] := Fx.grown ((unhide X5).alloc (.cells zC 24)) (World.ownsRow.alloc (unhide o5') (.cells zC 24)) hg6 (Nat.le_succ _) (by simp)
         have y6 : Bs 0 w6.heap.size w6 v6 (eight n ++ [1]) := Bs.of_own0 (own_app o6 (by rw [unhide hl9]))
         obtain ⟨A6, c6, rfl⟩ : ∃ A c, v6 = .slice A (8 + 1) c := by obtain ⟨A, c, e⟩ := y6.form; exact ⟨A, c, by rw [e, unhide hl9]⟩
         have Z6 : Blk w6 (w5.heap.size) 24 zC := Blk.grown (V := (w5.alloc (.cells zC 24))) (Blk.new (w := w5) (t := 24) (cs := zC) rfl) (World.ownsRow.alloc (unhide o5') (.cells zC 24)) hg6 (by decide)
         have n6 : w.heap.size < w5.heap.size := by omega
         replace Z6 := hide Z6; replace n6 := hide n6
         have l6 : w.heap.size < w6.heap.size := (X6.get 0 rfl).lt
         have c60 : w6.cell? ⟨w.heap.size, 0, none⟩ = some (u32v s.a) := (X6.get 0 rfl).cell 0
         have c61 : w6.cell? ⟨w.heap.size, 1, none⟩ = some (u32v s.b) := (X6.get 0 rfl).cell 1
         have c62 : w6.cell? ⟨w.heap.size, 2, none⟩ = some (u32v s.c) := (X6.get 0 rfl).cell 2
         have c63 : w6.cell? ⟨w.heap.size, 3, none⟩ = some (u32v s.d) := (X6.get 0 rfl).cell 3
         replace X6 := hide X6; replace y6 := hide y6
         clear o6 hg6)
      | (refine step_app rfl (.tmp 17) (.tmp 18) 29 rfl (w.heap.size + 1) 5 i0 _ 1 1 Tryz.underlying29 hi0 hz0 hz1 hz2 rfl (Nat.succ_pos _) _ 8 ((eight n).map u8v) rfl (World.ownsRow.alloc (World.ownsRow.alloc (unhide o5') (.cells #[u8v 1] 5)) (.cells zC 24)) _ 1 1 (([1] : List UInt8).map u8v) rfl rfl (one_row (Blk.alloc (Blk.new (w := w5) (t := 5) (cs := #[u8v 1]) rfl) (.cells zC 24))) (unhide ho2) (unhide b3) (unhide b4) (sz_alloc (sz_alloc (Nat.succ_le_of_lt l5) (.cells #[u8v 1] 5)) (.cells zC 24)) ?_
         intro v6 w6 o6 hg6
         have X6 : Fx w w6 [(w.heap.size, 24, stC s)] [] [] := Fx.grown (((unhide X5).alloc (.cells #[u8v 1] 5)).alloc (.cells zC 24)) (World.ownsRow.alloc (World.ownsRow.alloc (unhide o5') (.cells #[u8v 1] 5)) (.cells zC 24)) hg6 (Nat.le_succ _) (by simp)
         have y6 : Bs 0 w6.heap.size w6 v6 (eight n ++ [1]) := Bs.of_own0 (own_app o6 (by rw [unhide hl9]))
         obtain ⟨A6, c6, rfl⟩ : ∃ A c, v6 = .slice A (8 + 1) c := by obtain ⟨A, c, e⟩ := y6.form; exact ⟨A, c, by rw [e, unhide hl9]⟩
         have Z6 : Blk w6 (w5.heap.size + 1) 24 zC := Blk.grown (V := ((w5.alloc (.cells #[u8v 1] 5)).alloc (.cells zC 24))) (Blk.new (w := w5.alloc (.cells #[u8v 1] 5)) (t := 24) (cs := zC) (by simp)) (World.ownsRow.alloc (World.ownsRow.alloc (unhide o5') (.cells #[u8v 1] 5)) (.cells zC 24)) hg6 (by decide)
         have n6 : w.heap.size < w5.heap.size + 1 := by omega
         replace Z6 := hide Z6; replace n6 := hide n6
         have l6 : w.heap.size < w6.heap.size := (X6.get 0 rfl).lt
         have c60 : w6.cell? ⟨w.heap.size, 0, none⟩ = some (u32v s.a) := (X6.get 0 rfl).cell 0
         have c61 : w6.cell? ⟨w.heap.size, 1, none⟩ = some (u32v s.b) := (X6.get 0 rfl).cell 1
         have c62 : w6.cell? ⟨w.heap.size, 2, none⟩ = some (u32v s.c) := (X6.get 0 rfl).cell 2
         have c63 : w6.cell? ⟨w.heap.size, 3, none⟩ = some (u32v s.d) := (X6.get 0 rfl).cell 3
         replace X6 := hide X6; replace y6 := hide y6
         clear o6 hg6)
      | (refine step_app rfl (.tmp 17) (.tmp 18) 29 rfl (w.heap.size + 1) 5 i0 _ 1 1 Tryz.underlying29 hi0 hz0 hz1 hz2 rfl (Nat.succ_pos _) _ 8 ((eight n).map u8v) rfl (World.ownsRow.alloc (World.ownsRow.alloc (unhide o5') (.cells zC 24)) (.cells #[u8v 1] 5)) _ 1 1 (([1] : List UInt8).map u8v) rfl rfl (one_row (Blk.new (w := w5.alloc (.cells zC 24)) (g := w5.heap.size + 1) (t := 5) (cs := #[u8v 1]) (by simp))) (unhide ho2) (unhide b3) (unhide b4) (sz_alloc (sz_alloc (Nat.succ_le_of_lt l5) (.cells zC 24)) (.cells #[u8v 1] 5)) ?_
         intro v6 w6 o6 hg6
         have X6 : Fx w w6 [(w.heap.size, 24, stC s)] [] [] := Fx.grown (((unhide X5).alloc (.cells zC 24)).alloc (.cells #[u8v 1] 5)) (World.ownsRow.alloc (World.ownsRow.alloc (unhide o5') (.cells zC 24)) (.cells #[u8v 1] 5)) hg6 (Nat.le_succ _) (by simp)
         have y6 : Bs 0 w6.heap.size w6 v6 (eight n ++ [1]) := Bs.of_own0 (own_app o6 (by rw [unhide hl9]))
         obtain ⟨A6, c6, rfl⟩ : ∃ A c, v6 = .slice A (8 + 1) c := by obtain ⟨A, c, e⟩ := y6.form; exact ⟨A, c, by rw [e, unhide hl9]⟩
         have Z6 : Blk w6 (w5.heap.size) 24 zC := Blk.grown (V := ((w5.alloc (.cells zC 24)).alloc (.cells #[u8v 1] 5))) (Blk.alloc (Blk.new (w := w5) (t := 24) (cs := zC) rfl) (.cells #[u8v 1] 5)) (World.ownsRow.alloc (World.ownsRow.alloc (unhide o5') (.cells zC 24)) (.cells #[u8v 1] 5)) hg6 (by decide)
         have n6 : w.heap.size < w5.heap.size := by omega
         replace Z6 := hide Z6; replace n6 := hide n6
         have l6 : w.heap.size < w6.heap.size := (X6.get 0 rfl).lt
         have c60 : w6.cell? ⟨w.heap.size, 0, none⟩ = some (u32v s.a) := (X6.get 0 rfl).cell 0
         have c61 : w6.cell? ⟨w.heap.size, 1, none⟩ = some (u32v s.b) := (X6.get 0 rfl).cell 1
         have c62 : w6.cell? ⟨w.heap.size, 2, none⟩ = some (u32v s.c) := (X6.get 0 rfl).cell 2
         have c63 : w6.cell? ⟨w.heap.size, 3, none⟩ = some (u32v s.d) := (X6.get 0 rfl).cell 3
         replace X6 := hide X6; replace y6 := hide y6
         clear o6 hg6)
      | (go_at_call 95; refine (unhide hq _ (w6.alloc (.cells zC 24)) (Fx.bl ((unhide X6).alloc (.cells zC 24))) ((unhide y6).to (bl_alloc (Below.refl w6.heap.size w6) (.cells zC 24)))).mono ?_; rintro e w7 ⟨rfl, hb7⟩
         have X7 : Fx w w7 [(w.heap.size, 24, stC s)] [] [] := Fx.call ((unhide X6).alloc (.cells zC 24)) hb7
         have Z7 : Blk w7 (w6.heap.size) 24 zC := Blk.call (V := w6.alloc (.cells zC 24)) (Blk.new (w := w6) (t := 24) (cs := zC) rfl) hb7
         have n7 : w.heap.size < w6.heap.size := l6
         have z70 : w7.cell? ⟨w6.heap.size, 0, none⟩ = some (.int .u32 0) := Z7.cell 0
         have f70 : w7.frozen? ⟨w6.heap.size, 0, none⟩ = false := Z7.frozen 0
         have z71 : w7.cell? ⟨w6.heap.size, 1, none⟩ = some (.int .u32 0) := Z7.cell 1
         have f71 : w7.frozen? ⟨w6.heap.size, 1, none⟩ = false := Z7.frozen 1
         have z72 : w7.cell? ⟨w6.heap.size, 2, none⟩ = some (.int .u32 0) := Z7.cell 2
         have f72 : w7.frozen? ⟨w6.heap.size, 2, none⟩ = false := Z7.frozen 2
         have z73 : w7.cell? ⟨w6.heap.size, 3, none⟩ = some (.int .u32 0) := Z7.cell 3
         have f73 : w7.frozen? ⟨w6.heap.size, 3, none⟩ = false := Z7.frozen 3
         have m70 : w.heap.size ≠ w6.heap.size := Nat.ne_of_lt n7
         have m71 : w6.heap.size ≠ w.heap.size := Nat.ne_of_gt n7
         replace Z7 := hide Z7; replace n7 := hide n7
         have l7 : w.heap.size < w7.heap.size := (X7.get 0 rfl).lt
         have c70 : w7.cell? ⟨w.heap.size, 0, none⟩ = some (u32v s.a) := (X7.get 0 rfl).cell 0
         have c71 : w7.cell? ⟨w.heap.size, 1, none⟩ = some (u32v s.b) := (X7.get 0 rfl).cell 1
         have c72 : w7.cell? ⟨w.heap.size, 2, none⟩ = some (u32v s.c) := (X7.get 0 rfl).cell 2
         have c73 : w7.cell? ⟨w.heap.size, 3, none⟩ = some (u32v s.d) := (X7.get 0 rfl).cell 3
         replace X7 := hide X7; clear hb7)
      | (go_at_call 95; refine (unhide hq _ w6 (Fx.bl (unhide X6)) (unhide y6)).mono ?_; rintro e w7 ⟨rfl, hb7⟩
         have X7 : Fx w w7 [(w.heap.size, 24, stC s)] [] [] := Fx.call (unhide X6) hb7
         (first | (have Z7 : Blk w7 (W.heap.size) 24 zC := Blk.call (unhide Z6) hb7
                   have n7 : w.heap.size < W.heap.size := unhide n6
                   have z70 : w7.cell? ⟨W.heap.size, 0, none⟩ = some (.int .u32 0) := Z7.cell 0
                   have f70 : w7.frozen? ⟨W.heap.size, 0, none⟩ = false := Z7.frozen 0
                   have z71 : w7.cell? ⟨W.heap.size, 1, none⟩ = some (.int .u32 0) := Z7.cell 1
                   have f71 : w7.frozen? ⟨W.heap.size, 1, none⟩ = false := Z7.frozen 1
                   have z72 : w7.cell? ⟨W.heap.size, 2, none⟩ = some (.int .u32 0) := Z7.cell 2
                   have f72 : w7.frozen? ⟨W.heap.size, 2, none⟩ = false := Z7.frozen 2
                   have z73 : w7.cell? ⟨W.heap.size, 3, none⟩ = some (.int .u32 0) := Z7.cell 3
                   have f73 : w7.frozen? ⟨W.heap.size, 3, none⟩ = false := Z7.frozen 3
                   have m70 : w.heap.size ≠ W.heap.size := Nat.ne_of_lt n7
                   have m71 : W.heap.size ≠ w.heap.size := Nat.ne_of_gt n7
                   replace Z7 := hide Z7; replace n7 := hide n7) | skip)
         (first | (have Z7 : Blk w7 (W.heap.size + 1) 24 zC := Blk.call (unhide Z6) hb7
                   have n7 : w.heap.size < W.heap.size + 1 := unhide n6
                   have z70 : w7.cell? ⟨W.heap.size + 1, 0, none⟩ = some (.int .u32 0) := Z7.cell 0
                   have f70 : w7.frozen? ⟨W.heap.size + 1, 0, none⟩ = false := Z7.frozen 0
                   have z71 : w7.cell? ⟨W.heap.size + 1, 1, none⟩ = some (.int .u32 0) := Z7.cell 1
                   have f71 : w7.frozen? ⟨W.heap.size + 1, 1, none⟩ = false := Z7.frozen 1
                   have z72 : w7.cell? ⟨W.heap.size + 1, 2, none⟩ = some (.int .u32 0) := Z7.cell 2
                   have f72 : w7.frozen? ⟨W.heap.size + 1, 2, none⟩ = false := Z7.frozen 2
                   have z73 : w7.cell? ⟨W.heap.size + 1, 3, none⟩ = some (.int .u32 0) := Z7.cell 3
                   have f73 : w7.frozen? ⟨W.heap.size + 1, 3, none⟩ = false := Z7.frozen 3
                   have m70 : w.heap.size ≠ W.heap.size + 1 := Nat.ne_of_lt n7
                   have m71 : W.heap.size + 1 ≠ w.heap.size := Nat.ne_of_gt n7
                   replace Z7 := hide Z7; replace n7 := hide n7) | skip)
         (first | (have Z7 : Blk w7 (w5.heap.size) 24 zC := Blk.call (unhide Z6) hb7
                   have n7 : w.heap.size < w5.heap.size := unhide n6
                   have z70 : w7.cell? ⟨w5.heap.size, 0, none⟩ = some (.int .u32 0) := Z7.cell 0
                   have f70 : w7.frozen? ⟨w5.heap.size, 0, none⟩ = false := Z7.frozen 0
                   have z71 : w7.cell? ⟨w5.heap.size, 1, none⟩ = some (.int .u32 0) := Z7.cell 1
                   have f71 : w7.frozen? ⟨w5.heap.size, 1, none⟩ = false := Z7.frozen 1
                   have z72 : w7.cell? ⟨w5.heap.size, 2, none⟩ = some (.int .u32 0) := Z7.cell 2
                   have f72 : w7.frozen? ⟨w5.heap.size, 2, none⟩ = false := Z7.frozen 2
                   have z73 : w7.cell? ⟨w5.heap.size, 3, none⟩ = some (.int .u32 0) := Z7.cell 3
                   have f73 : w7.frozen? ⟨w5.heap.size, 3, none⟩ = false := Z7.frozen 3
                   have m70 : w.heap.size ≠ w5.heap.size := Nat.ne_of_lt n7
                   have m71 : w5.heap.size ≠ w.heap.size := Nat.ne_of_gt n7
                   replace Z7 := hide Z7; replace n7 := hide n7) | skip)
         (first | (have Z7 : Blk w7 (w5.heap.size + 1) 24 zC := Blk.call (unhide Z6) hb7
                   have n7 : w.heap.size < w5.heap.size + 1 := unhide n6
                   have z70 : w7.cell? ⟨w5.heap.size + 1, 0, none⟩ = some (.int .u32 0) := Z7.cell 0
                   have f70 : w7.frozen? ⟨w5.heap.size + 1, 0, none⟩ = false := Z7.frozen 0
                   have z71 : w7.cell? ⟨w5.heap.size + 1, 1, none⟩ = some (.int .u32 0) := Z7.cell 1
                   have f71 : w7.frozen? ⟨w5.heap.size + 1, 1, none⟩ = false := Z7.frozen 1
                   have z72 : w7.cell? ⟨w5.heap.size + 1, 2, none⟩ = some (.int .u32 0) := Z7.cell 2
                   have f72 : w7.frozen? ⟨w5.heap.size + 1, 2, none⟩ = false := Z7.frozen 2
                   have z73 : w7.cell? ⟨w5.heap.size + 1, 3, none⟩ = some (.int .u32 0) := Z7.cell 3
                   have f73 : w7.frozen? ⟨w5.heap.size + 1, 3, none⟩ = false := Z7.frozen 3
                   have m70 : w.heap.size ≠ w5.heap.size + 1 := Nat.ne_of_lt n7
                   have m71 : w5.heap.size + 1 ≠ w.heap.size := Nat.ne_of_gt n7
                   replace Z7 := hide Z7; replace n7 := hide n7) | skip)
         have l7 : w.heap.size < w7.heap.size := (X7.get 0 rfl).lt
         have c70 : w7.cell? ⟨w.heap.size, 0, none⟩ = some (u32v s.a) := (X7.get 0 rfl).cell 0
         have c71 : w7.cell? ⟨w.heap.size, 1, none⟩ = some (u32v s.b) := (X7.get 0 rfl).cell 1
         have c72 : w7.cell? ⟨w.heap.size, 2, none⟩ = some (u32v s.c) := (X7.get 0 rfl).cell 2
         have c73 : w7.cell? ⟨w.heap.size, 3, none⟩ = some (u32v s.d) := (X7.get 0 rfl).cell 3
         replace X7 := hide X7; clear hb7))
    all_goals
      go_wp2_with (fail)
      go_meet
      refine ⟨_, rfl, rfl, hide ?_⟩
      first
      | with_reducible exact Fx.sub ((unhide X7).newB w7.heap.size rfl (stC S') 24) (by simp) (by simp) (by simp)
      | with_reducible exact Fx.put4 (unhide X7) (unhide Z7) (unhide n7)
  case rest =>
    obtain ⟨g, rfl, rfl, hcut⟩ := hcut
    have d0 : wc.cell? ⟨g, 0, none⟩ = some (u32v S'.a) := ((unhide hcut).get 0 rfl).cell 0
    have d1 : wc.cell? ⟨g, 1, none⟩ = some (u32v S'.b) := ((unhide hcut).get 0 rfl).cell 1
    have d2 : wc.cell? ⟨g, 2, none⟩ = some (u32v S'.c) := ((unhide hcut).get 0 rfl).cell 2
    have d3 : wc.cell? ⟨g, 3, none⟩ = some (u32v S'.d) := ((unhide hcut).get 0 rfl).cell 3
    go_wp2_with (first
      | (go_at_call 123; refine (unhide hs _ (unhide hcut).bl).mono ?_; rintro e w9 ⟨A9, c9, rfl, o9, hb9⟩)
      | fail)
    go_ret2
    exact ⟨A9, c9, rfl, (ownsRow_mono o9 (unhide hcut).bl.size), bl_call (unhide hcut).bl hb9⟩
end Go.Proofs.YthkccpemgmpadaaGreatDoor
