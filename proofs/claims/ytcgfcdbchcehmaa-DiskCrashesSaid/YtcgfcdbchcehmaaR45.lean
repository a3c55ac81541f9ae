import Derived.Test.YtcgfcdbchcehmaaR44
import Derived.Test.YtcgfcdbchcehmaaW11
namespace Go.Proofs.Ytcgfcdbchcehmaa
open Go.RowKit

theorem few_parts9 {d : Dk} (h : fewB d = true) : d.dry.length ≤ 1000000 ∧ d.wet.length ≤ 1000 ∧ ∀ (j : Nat) (q : Pg), d.wet[j]? = some q → q.b.length ≤ 1000000 := by
  simp only [fewB, Bool.and_eq_true, Bool.or_eq_true, decide_eq_true_eq, shortB, List.all_eq_true] at h
  refine ⟨by omega, by omega, fun j q hj => ?_⟩
  have := h.1.1 q (List.mem_of_getElem? hj)
  omega

theorem Dsk.grow9 {lo : Nat} {w w' : World} {v : Value} {d : Dk} (h : Dsk lo w.heap.size w v d) (hb : Below w.heap.size w w') : Dsk lo w'.heap.size w' v d := (h.below hb (Nat.le_refl _)).mono (Nat.le_refl _) hb.size
theorem DryOk.grow9 {w w' : World} {v : Value} (h : DryOk w v) (hb : Below w.heap.size w w') : DryOk w' v := fun g o n c r l e => by
  obtain ⟨cs, hk⟩ := h g o n c r l e
  exact ⟨cs, hk.below hb hk.lt⟩

/-- Cells that are octets, in a block that may be written. -/
def U8s (w : World) (M : Nat) (A : Option Addr) (L : Nat) : Prop := ∀ i, i < L → ∃ g o z, ∃ cs : Array Value, A = some ⟨g, o, none⟩ ∧ M ≤ g ∧ Blk w g 5 cs ∧ cs[o + i]? = some (.int .u8 z)
theorem U8s.put {w : World} {M g o L : Nat} {cs : Array Value} (h : U8s w M (some ⟨g, o, none⟩) L) (hk : Blk w g 5 cs) (j : Nat) (z : Int) : U8s (w.setCell ⟨g, o + j, none⟩ (.int .u8 z)) M (some ⟨g, o, none⟩) L := fun i hi => by
  obtain ⟨g', o', z', cs', e, hM, hk', hc⟩ := h i hi
  injection e with e
  injection e with e1 e2
  subst e1 e2
  have := hk.uniq hk'
  subst this
  by_cases hij : o + j = o + i
  · refine ⟨g, o, z, _, rfl, hM, hk.set (o + j) _, ?_⟩
    have hlt : o + i < cs.size := (Array.getElem?_eq_some_iff.1 hc).1
    rw [hij, Array.getElem?_setIfInBounds_self_of_lt hlt]
  · refine ⟨g, o, z', _, rfl, hM, hk.set (o + j) _, ?_⟩
    rw [Array.getElem?_setIfInBounds_ne hij]; exact hc

set_option maxRecDepth 100000 in
set_option maxHeartbeats 4000000 in
theorem crashes_gate (A A' A3 : Option Addr) (c c' c3 : Nat) (d : Dk) (nm : Nat) (w : World) (h : Dsk 0 w.heap.size w (.agg #[.slice A d.dry.length c, .slice A' d.wet.length c', .int .i64 d.left]) d)
    (hg : fewB d = false ∨ (fewB d = true ∧ 300 < (nm : Int))) :
    Calls Try.prog 4 #[.agg #[.slice A d.dry.length c, .slice A' d.wet.length c', .int .i64 d.left], .slice A3 nm c3] w fun e w' => e = .returned (.bool true) ∧ Below w.heap.size w w' := by
  have hfw : ∀ W, Below w.heap.size w W → Calls Try.prog 10 #[.agg #[.slice A d.dry.length c, .slice A' d.wet.length c', .int .i64 d.left]] W fun e w' => e = .returned (.bool (fewB d)) ∧ Below W.heap.size W w' :=
    fun W hB => few_any 0 _ d W ((h.below hB (Nat.le_refl _)).mono (Nat.le_refl _) hB.size)
  clear h
  generalize fewB d = fb at *
  replace hfw := hide hfw
  rcases hg with rfl | ⟨rfl, h1⟩
  all_goals
    go_enter Try.func4, Try.ntmps4
    go_wp2_with (first
      | (go_at_call 9; refine (live_any _).mono ?_; rintro e w1 ⟨rfl, hb1⟩; have HB1 : Below w.heap.size w w1 := bl_call (by (repeat (first | with_reducible exact Below.refl _ _ | with_reducible assumption | with_reducible refine Below.drew ?_ | with_reducible refine bl_alloc ?_ _ | with_reducible refine bl_call ?_ (by assumption) | (focus (with_reducible refine Below.setCell ?_ ?_ _; rotate_left; focus (first | omega | (simp <;> omega)))) | fail))) hb1
         have kb := Blk.below (g := w.heap.size) (t := 25) (cs := #[.slice A d.dry.length c, .slice A' d.wet.length c', .int .i64 d.left]) (Blk.new rfl) hb1 (by simp)
         have t0 := kb.cell 0; have t1 := kb.cell 1; have t2 := kb.cell 2; have y0 := kb.lt
         simp at t0 t1 t2)
      | (go_at_call 10; refine (unhide hfw _ HB1).mono ?_; rintro e w2 ⟨rfl, hb2⟩; have HB2 : Below w.heap.size w w2 := bl_call HB1 hb2)
      | fail)
    go_ret
    exact ⟨rfl, HB2⟩

set_option maxRecDepth 100000 in
set_option maxHeartbeats 8000000 in
theorem crashes_go (A A' A3 : Option Addr) (c c' c3 : Nat) (d : Dk) (ms : List UInt8) (w : World)
    (h : Dsk 0 w.heap.size w (.agg #[.slice A d.dry.length c, .slice A' d.wet.length c', .int .i64 d.left]) d) (hm : Bs 0 w.heap.size w (.slice A3 ms.length c3) ms) (hf : fewB d = true) (hl : ms.length ≤ 300) :
    Calls Try.prog 4 #[.agg #[.slice A d.dry.length c, .slice A' d.wet.length c', .int .i64 d.left], .slice A3 ms.length c3] w fun e w' => e = .returned (.bool true) ∧ Below w.heap.size w w' := by
  obtain ⟨fl, fw, fp⟩ := few_parts9 hf
  have hg : ∀ W, Below w.heap.size w W → Dsk 0 W.heap.size W (.agg #[.slice A d.dry.length c, .slice A' d.wet.length c', .int .i64 d.left]) d := fun W hB => (h.below hB (Nat.le_refl _)).mono (Nat.le_refl _) hB.size
  have hfw : ∀ W, Below w.heap.size w W → Calls Try.prog 10 #[.agg #[.slice A d.dry.length c, .slice A' d.wet.length c', .int .i64 d.left]] W fun e w' => e = .returned (.bool true) ∧ Below W.heap.size W w' :=
    fun W hB => by have := few_any 0 _ d W (hg W hB); rwa [hf] at this
  have hcp : ∀ W, Below w.heap.size w W → Calls Try.prog 11 #[.agg #[.slice A d.dry.length c, .slice A' d.wet.length c', .int .i64 d.left]] W fun e w' => ∃ v', e = .returned v' ∧ Dsk W.heap.size w'.heap.size w' v' d ∧ Below W.heap.size W w' :=
    fun W hB => (refcopy_any 0 _ d W (hg W hB) fl fw fp).mono fun e w' ⟨v', he, hc, hb⟩ => ⟨v', he, hc.dsk, hb⟩
  have hcr : ∀ W, Below w.heap.size w W → Calls Try.prog 27 #[.agg #[.slice A d.dry.length c, .slice A' d.wet.length c', .int .i64 d.left], .slice A3 ms.length c3] W fun e w' => ∃ v' E, e = .returned (.tuple #[v', .int .i64 E]) ∧ Dsk W.heap.size w'.heap.size w' v' (crD d ms).1 ∧ E = (crD d ms).2 ∧ DryOk w' v' ∧ Below W.heap.size W w' :=
    fun W hB => crash_any2 0 _ _ d ms W (hg W hB) ((hm.below hB (Nat.le_refl _)).mono (Nat.le_refl _) hB.size) fl fw
  have hrc : ∀ W, Below w.heap.size w W → Calls Try.prog 28 #[.agg #[.slice A d.dry.length c, .slice A' d.wet.length c', .int .i64 d.left], .slice A3 ms.length c3] W fun e w' => ∃ v' E, e = .returned (.tuple #[v', .int .i64 E]) ∧ Dsk W.heap.size w'.heap.size w' v' (crD d ms).1 ∧ E = (crD d ms).2 ∧ Below W.heap.size W w' :=
    fun W hB => refcrash_any 0 _ _ d ms W (hg W hB) ((hm.below hB (Nat.le_refl _)).mono (Nat.le_refl _) hB.size) fl fw
  have hsm : ∀ lo lo' v1 v2 W, Dsk lo W.heap.size W v1 (crD d ms).1 → Dsk lo' W.heap.size W v2 (crD d ms).1 → Calls Try.prog 22 #[v1, v2] W fun e w' => e = .returned (.bool true) ∧ Below W.heap.size W w' :=
    fun lo lo' v1 v2 W h1 h2 => refsame_true lo lo' v1 v2 _ W h1 h2 (by unfold crD; split <;> simp)
  have hsd : ∀ lo lo' v1 v2 W, Dsk lo W.heap.size W v1 d → Dsk lo' W.heap.size W v2 d → Calls Try.prog 22 #[v1, v2] W fun e w' => e = .returned (.bool true) ∧ Below W.heap.size W w' :=
    fun lo lo' v1 v2 W h1 h2 => refsame_true lo lo' v1 v2 d W h1 h2 (by omega)
  generalize (crD d ms).1 = X at *
  generalize (crD d ms).2 = EX at *
  have hl' : ¬ (300 : Int) < (ms.length : Int) := by omega
  replace hfw := hide hfw; replace hcp := hide hcp; replace hcr := hide hcr; replace hrc := hide hrc; replace hsm := hide hsm; replace hsd := hide hsd; replace hg := hide hg
  clear h hm hf fl fw fp
  have tok0 : True := trivial
  go_enter Try.func4, Try.ntmps4
  go_wp2_with (first
    | (go_at_call 9; refine (live_any _).mono ?_; rintro e w1 ⟨rfl, hb1⟩; have HB1 : Below w.heap.size w w1 := bl_call (by (repeat (first | with_reducible exact Below.refl _ _ | with_reducible assumption | with_reducible refine Below.drew ?_ | with_reducible refine bl_alloc ?_ _ | with_reducible refine bl_call ?_ (by assumption) | (focus (with_reducible refine Below.setCell ?_ ?_ _; rotate_left; focus (first | omega | (simp <;> omega)))) | fail))) hb1
       have kb := Blk.below (g := w.heap.size) (t := 25) (cs := #[.slice A d.dry.length c, .slice A' d.wet.length c', .int .i64 d.left]) (Blk.new rfl) hb1 (by simp)
       have t0 := kb.cell 0; have t1 := kb.cell 1; have t2 := kb.cell 2; have y0 := kb.lt
       simp at t0 t1 t2
       replace kb := hide kb; replace HB1 := hide HB1; clear hb1)
    | (go_at_call 10; refine (unhide hfw _ (unhide HB1)).mono ?_; rintro e w2 ⟨rfl, hb2⟩; have HB2 : Below w.heap.size w w2 := bl_call (unhide HB1) hb2
       have kb2 := (unhide kb).below hb2 y0
       clear t0 t1 t2 y0
       have t0 := kb2.cell 0; have t1 := kb2.cell 1; have t2 := kb2.cell 2; have y0 := kb2.lt
       simp at t0 t1 t2
       replace kb2 := hide kb2; replace HB2 := hide HB2; clear hb2)
    | (go_at_call 11; refine (unhide hcp _ (unhide HB2)).mono ?_; rintro e w3 ⟨v3, rfl, hd3, hb3⟩
       obtain ⟨Ac, cc, Bc, dc, rfl⟩ := hd3.form
       have HB3 : Below w.heap.size w w3 := bl_call (unhide HB2) hb3
       have kb3 := (unhide kb2).below hb3 y0
       clear t0 t1 t2 y0
       have t0 := kb3.cell 0; have t1 := kb3.cell 1; have t2 := kb3.cell 2; have y0 := kb3.lt
       simp at t0 t1 t2
       replace kb3 := hide kb3; replace HB3 := hide HB3; replace hd3 := hide hd3; clear hb3)
    | (go_at_call 27; refine (unhide hcr _ (bl_alloc (unhide HB3) _)).mono ?_; rintro e w4 ⟨v4, E4, rfl, hd4, rfl, hdry, hb4⟩
       obtain ⟨Ax, cx, Bx, dx, rfl⟩ := hd4.form
       have HB4 : Below w.heap.size w w4 := bl_call (bl_alloc (unhide HB3) _) hb4
       have kb4 := ((unhide kb3).alloc (.cells #[.slice Ac d.dry.length cc, .slice Bc d.wet.length dc, .int .i64 d.left] 25)).below hb4 (by simp; omega)
       have k64 : Blk w4 w3.heap.size 25 #[.slice Ac d.dry.length cc, .slice Bc d.wet.length dc, .int .i64 d.left] := (Blk.new rfl).below hb4 (by simp)
       have hw4 : Dsk w2.heap.size w3.heap.size w4 _ d := (unhide hd3).below (bl_call (bl_alloc (Below.refl _ _) _) hb4) (Nat.le_refl _)
       have hM4 := hb4.size
       simp at hM4
       clear t0 t1 t2 y0
       have t0 := kb4.cell 0; have t1 := kb4.cell 1; have t2 := kb4.cell 2; have y0 := kb4.lt
       have s0 := k64.cell 0; have s1 := k64.cell 1; have s2 := k64.cell 2; have y6 := k64.lt
       simp at t0 t1 t2 s0 s1 s2
       replace kb4 := hide kb4; replace k64 := hide k64; replace HB4 := hide HB4; replace hd4 := hide hd4; replace hdry := hide hdry; replace hw4 := hide hw4; clear hb4)
    | (go_at_call 28; refine (unhide hrc _ (bl_alloc (unhide HB4) _)).mono ?_; rintro e w5 ⟨v5, E5, rfl, hd5, rfl, hb5⟩
       obtain ⟨Ay, cy, By, dy, rfl⟩ := hd5.form
       have b45 : Below w4.heap.size w4 w5 := bl_call (bl_alloc (Below.refl _ _) _) hb5
       have HB5 : Below w.heap.size w w5 := bl_call (unhide HB4) b45
       have kb5 := (unhide kb4).below b45 y0
       have k65 := (unhide k64).below b45 y6
       have k75 : Blk w5 w4.heap.size 25 #[.slice Ax X.dry.length cx, .slice Bx X.wet.length dx, .int .i64 X.left] := (Blk.new rfl).below hb5 (by simp)
       have hw5 : Dsk w2.heap.size w3.heap.size w5 _ d := (unhide hw4).below b45 (Nat.le_of_lt y6)
       have hx5 := (unhide hd4).grow9 b45
       have ho5 := (unhide hdry).grow9 b45
       clear t0 t1 t2 y0 s0 s1 s2 y6
       have t0 := kb5.cell 0; have t1 := kb5.cell 1; have t2 := kb5.cell 2; have y0 := kb5.lt
       have s0 := k65.cell 0; have s1 := k65.cell 1; have s2 := k65.cell 2; have y6 := k65.lt
       have r0 := k75.cell 0; have r1 := k75.cell 1; have r2 := k75.cell 2; have y7 := k75.lt
       simp at t0 t1 t2 s0 s1 s2 r0 r1 r2
       have hx5' := hx5.grow9 (bl_alloc (Below.refl _ _) (.cells #[.slice Ay X.dry.length cy, .slice By X.wet.length dy, .int .i64 X.left] 25))
       have hy5' := hd5.grow9 (bl_alloc (Below.refl _ _) (.cells #[.slice Ay X.dry.length cy, .slice By X.wet.length dy, .int .i64 X.left] 25))
       replace kb5 := hide kb5; replace k65 := hide k65; replace k75 := hide k75; replace HB5 := hide HB5; replace hw5 := hide hw5; replace hx5 := hide hx5; replace ho5 := hide ho5; replace hx5' := hide hx5'; replace hy5' := hide hy5'; clear hb5 b45 hd5)
    | (go_at_call 22; have _t := tok0; clear tok0 _t; refine (unhide hsm _ _ _ _ _ (unhide hx5') (unhide hy5')).mono ?_; rintro e w6 ⟨rfl, hb6⟩
       have b56 : Below w5.heap.size w5 w6 := bl_call (bl_alloc (Below.refl _ _) _) hb6
       have HB6 : Below w.heap.size w w6 := bl_call (unhide HB5) b56
       have kb6 := (unhide kb5).below b56 y0
       have k66 := (unhide k65).below b56 y6
       have k76 := (unhide k75).below b56 y7
       have hw6 : Dsk w2.heap.size w3.heap.size w6 _ d := (unhide hw5).below b56 (Nat.le_of_lt y6)
       have y06 := kb6.lt
       have y66 := k66.lt
       have yb3 := (unhide kb3).lt
       have hx6 := (unhide hx5).grow9 b56
       have ho6 := (unhide ho5).grow9 b56
       clear t0 t1 t2 y0 s0 s1 s2 y6 r0 r1 r2 y7
       have r0 := k76.cell 0; have y7 := k76.lt
       simp at r0
       replace kb6 := hide kb6; replace k66 := hide k66; replace k76 := hide k76; replace HB6 := hide HB6; replace hw6 := hide hw6; replace hx6 := hide hx6; replace ho6 := hide ho6; clear hb6 b56)
    | fail)
  obtain ⟨M, hM⟩ : ∃ M, M = w3.heap.size + 1 := ⟨_, rfl⟩
  have hU : U8s w6 M Ax X.dry.length := by
    obtain ⟨va, vb, e, hbs, _⟩ := unhide hx6
    simp at e
    obtain ⟨rfl, _⟩ := e
    obtain ⟨A9, c9, e9, _, _, h9⟩ := hbs
    injection e9 with e91 _ e93
    subst e91 e93
    intro i hi
    obtain ⟨g, o, rfl, hlo, _, hc⟩ := h9 (by omega)
    obtain ⟨cs, hk⟩ := (unhide ho6) g o _ _ _ _ rfl
    have h1 := hc i hi
    rw [hk.cell] at h1
    exact ⟨g, o, _, cs, rfl, by simp at hlo; omega, hk, h1⟩
  obtain ⟨L, hL⟩ : ∃ L, L = X.dry.length := ⟨_, rfl⟩
  rw [← hL] at hU r0 ⊢
  have hLc : (L : Int) ≤ 9223372036854775807 := by
    obtain ⟨va, vb, e, hbs, _⟩ := unhide hx6
    simp at e
    obtain ⟨rfl, _⟩ := e
    obtain ⟨A9, c9, e9, h1, h2, _⟩ := hbs
    omega
  have k76' := unhide k76
  rw [← hL] at k76'
  have hwM : w.heap.size ≤ M := by omega
  have hw3M : w3.heap.size ≤ M := by omega
  have hbM : w.heap.size < M := by omega
  have h6M : w3.heap.size < M := by omega
  clear hx6 ho6 k76 kb kb2 kb3 kb4 kb5 k64 k65 k75 hw4 hw5 hx5 ho5 hx5' hy5' hd3 hd4 hdry HB1 HB2 HB3 HB4 HB5 hfw hcp hcr hrc hsm yb3 hM4
  replace hU := hide hU; replace k76' := hide k76'; replace hL := hide hL; replace hM := hide hM
  go_loopw [48] (fun i wr => ∃ k : Nat, k ≤ L ∧ i = .int .i64 k ∧ Hid (U8s wr M Ax L) ∧ Hid (Blk wr w4.heap.size 25 #[.slice Ax L cx, .slice Bx X.wet.length dx, .int .i64 X.left]) ∧ Hid (Below M w6 wr)) (fun i _ => L - (intOf i).toNat)
  case atStart => exact ⟨0, Nat.zero_le _, rfl, hU, k76', hide (Below.refl _ _)⟩
  case round =>
    clear hU k76' r0 y7
    obtain ⟨k, hk, rfl, hU, k7, hb⟩ := hrel
    have r0 := (unhide k7).cell 0
    simp at r0
    have y7 := (unhide k7).lt
    by_cases hlt : k < L
    · obtain ⟨g, o, z, cs, rfl, hMg, hkg, hc⟩ := unhide hU k hlt
      have c0 : wr.cell? ⟨g, o + k, none⟩ = some (.int .u8 z) := by rw [hkg.cell]; exact hc
      have c1 := hkg.frozen (o + k)
      have yg := hkg.lt
      have i1 : IntKind.i64.wrap ((k : Int) + 1) = (k : Int) + 1 := IntWalk.i64_in _ (by omega)
      obtain ⟨z1, hz1⟩ : ∃ z1, z1 = IntKind.u8.wrap (z + 1) := ⟨_, rfl⟩
      have hz2 := hz1.symm
      have hU' := (unhide hU).put hkg k z1
      have k7' := (unhide k7).far (p := ⟨g, o + k, none⟩) ((unhide k7).ne_ hkg (by decide)) (.int .u8 z1)
      have hb' := (unhide hb).setCell (p := ⟨g, o + k, none⟩) hMg (.int .u8 z1)
      replace hU' := hide hU'; replace k7' := hide k7'; replace hb' := hide hb'
      clear hz1 hkg hc
      go_wp2_with fail
      clear i1 hz2
      go_roundw
      case rel => exact ⟨k + 1, by omega, by go_num, hU', k7', hb'⟩
      case measure => simp [intOf]; omega
    · have hb0 := unhide hb
      have HBr : Below w.heap.size w wr := (unhide HB6).trans (hb0.mono hwM)
      have kbr := (unhide kb6).below hb0 hbM
      have k6r := (unhide k66).below hb0 h6M
      have hwr := (unhide hw6).below hb0 hw3M
      have t0 := kbr.cell 0; have t1 := kbr.cell 1; have t2 := kbr.cell 2; have y0 := kbr.lt
      have s0 := k6r.cell 0; have s1 := k6r.cell 1; have s2 := k6r.cell 2; have y6 := k6r.lt
      simp at t0 t1 t2 s0 s1 s2
      have hcall := unhide hsd _ _ _ _ _ (unhide hg wr HBr) (hwr.mono (Nat.le_refl _) (Nat.le_of_lt y6))
      replace hcall := hide hcall; replace HBr := hide HBr; replace kbr := hide kbr; replace k6r := hide k6r; replace hwr := hide hwr
      clear hb0 hb hU k7 r0
      go_wp2_with (first
        | (go_at_call 22; refine (unhide hcall).mono ?_; rintro e w7 ⟨rfl, hb7⟩)
        | fail)
      go_ret
      exact ⟨rfl, bl_call (unhide HBr) hb7⟩

theorem crashes_any (A A' : Option Addr) (c c' : Nat) (mv : Value) (d : Dk) (ms : List UInt8) (w : World)
    (h : Dsk 0 w.heap.size w (.agg #[.slice A d.dry.length c, .slice A' d.wet.length c', .int .i64 d.left]) d) (hm : Bs 0 w.heap.size w mv ms) :
    Calls Try.prog 4 #[.agg #[.slice A d.dry.length c, .slice A' d.wet.length c', .int .i64 d.left], mv] w fun e w' => e = .returned (.bool true) ∧ Below w.heap.size w w' := by
  obtain ⟨A3, c3, rfl, _⟩ := id hm
  cases hf : fewB d with
  | false => exact crashes_gate A A' A3 c c' c3 d ms.length w h (.inl hf)
  | true =>
    by_cases hl : ms.length ≤ 300
    · exact crashes_go A A' A3 c c' c3 d ms w h hm hf hl
    · exact crashes_gate A A' A3 c c' c3 d ms.length w h (.inr ⟨hf, by omega⟩)
end Go.Proofs.Ytcgfcdbchcehmaa
