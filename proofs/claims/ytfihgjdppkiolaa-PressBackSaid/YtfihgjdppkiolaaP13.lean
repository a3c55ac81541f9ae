import Derived.Test.YtfihgjdppkiolaaP12
namespace Go.Proofs.Ytfihgjdppkiolaa
set_option maxRecDepth 100000
open Go.RowKit

section
variable {base g gc cc gt ct : Nat} {w w' : World} {r : Rdr} {t : List Int}
theorem Rd1.alloc (h : Rd1 base g gc cc gt ct w r t) (o : Obj) : Rd1 base g gc cc gt ct (w.alloc o) r t := ⟨h.rd.alloc o, h.ok, h.used⟩
theorem Rd1.below (h : Rd1 base g gc cc gt ct w r t) (hb : Below w.heap.size w w') : Rd1 base g gc cc gt ct w' r t := ⟨h.rd.below hb, h.ok, h.used⟩
end
theorem Rdg.lt {base g gc cc gt ct : Nat} {w : World} {r : Rdr} {t : List Int} (h : Rdg base g gc cc gt ct w r t) (hc : 0 < r.c.length) : g < w.heap.size ∧ gc < w.heap.size := by
  refine ⟨h.blk.lt, ?_⟩
  obtain ⟨g', cur, e, _, hb⟩ := own_pos h.c hc
  injection e with e; injection e with e
  subst e
  exact hb.lt

theorem ret_tk {fn : Func} {p u : Tmp} {R : Ending → World → Prop} {a : Act} {w : World} (h : fn.results = #[.cell p 40, .tmp u]) (g : Nat) (x y z v : Value)
    (hp : a.tmps.getD p undef = .pointer (some ⟨g, 0, none⟩)) (hu : a.tmps.getD u undef = v) (hg : Blk w g 40 #[x, y, z]) (hd : a.defers = []) (hR : R (.returned (.tuple #[.agg #[x, y, z], v])) w) : bodyPost Try.prog fn R .ret a w := M.ret_tk h g x y z v hp hu hg hd hR
theorem but_new {w w' : World} {g gc gb : Nat} {o : Obj} {cs : Array Value} (hb : But [g, gc] (w.alloc o) w') (h1 : g < w.heap.size) (h2 : gc < w.heap.size) (hgb : gb = w.heap.size) (hB : Blk (w.alloc o) gb 40 cs) : Blk w' gb 40 cs ∧ But [g, gc] w w' :=
  ⟨hB.but hb (by simp; omega), ((But.refl _ _).alloc o).trans hb⟩

theorem But.far {S : List Nat} {a b : World} (h : But S a b) {p : Addr} (hp : a.heap.size ≤ p.block) (u : Value) : But S a (b.setCell p u) :=
  ⟨h.os, h.tape, h.output, by simpa [World.setCell] using h.size, fun k hk hS => (Below.heap_setCell _ _ _ _ (by omega)).trans (h.block k hk hS)⟩
theorem But.set3 {S : List Nat} {a b : World} (h : But S a b) {gb : Nat} (hp : a.heap.size ≤ gb) (x y z : Value) : But S a (((b.setCell ⟨gb, 0, none⟩ x).setCell ⟨gb, 1, none⟩ y).setCell ⟨gb, 2, none⟩ z) := ((h.far hp x).far hp y).far hp z
theorem Rdg.set1 {base g gc cc gt ct : Nat} {w : World} {r : Rdr} {t : List Int} {gb : Nat} {cs : Array Value} (h : Rdg base g gc cc gt ct w r t) (hB : Blk w gb 40 cs) (i : Nat) (u : Value) : Rdg base g gc cc gt ct (w.setCell ⟨gb, i, none⟩ u) r t :=
  ⟨h.blk.far (h.blk.ne_ hB (by decide)) u, own_far h.c hB (by decide) i u, own_far h.text hB (by decide) i u⟩
theorem Rd1.set3 {base g gc cc gt ct : Nat} {w : World} {r : Rdr} {t : List Int} {gb : Nat} {a b c : Value} (h : Rd1 base g gc cc gt ct w r t) (hB : Blk w gb 40 #[a, b, c]) (x y z : Value) : Rd1 base g gc cc gt ct (((w.setCell ⟨gb, 0, none⟩ x).setCell ⟨gb, 1, none⟩ y).setCell ⟨gb, 2, none⟩ z) r t :=
  ⟨((h.rd.set1 hB 0 x).set1 (hB.set 0 x) 1 y).set1 ((hB.set 0 x).set 1 y) 2 z, h.ok, h.used⟩

section
variable (base g gc cc gt ct : Nat) (r : Rdr) (t : List Int) (w : World) (hW : Rd1 base g gc cc gt ct w r t) (ht : okB t) (hl : t.length ≤ 1000000) (hcl : 0 < r.c.length)
set_option maxHeartbeats 1000000 in
include hW ht hl hcl in
theorem readAgain_none1 (h : treeR t 256 4 1 r = none) :
    Calls Try.prog 74 #[.pointer (some ⟨g, 0, none⟩)] w fun e w' => ∃ er : Int, (er == 0) = false ∧ e = .returned (.tuple #[tkV ⟨0, 0, 0⟩, .int .i64 er]) ∧ But [g, gc] w w' := by
  have hN1 := fun (W : World) (k : Rd1 base g gc cc gt ct W r t) => readNum_none base g gc cc gt ct 4 256 r t h W k ht hl (by omega) (by omega)
  obtain ⟨hg1, hg2⟩ := hW.rd.lt hcl
  replace hN1 := hide hN1; replace hW := hide hW; replace hg1 := hide hg1; replace hg2 := hide hg2
  clear hcl h
  go_enter Try.func74, Try.ntmps74
  go_wp2_with (first
    | (go_at_call 75; refine (unhide hN1 _ ((unhide hW).alloc _)).mono ?_; rintro e w1 ⟨er, he, rfl, hb1⟩
       obtain ⟨K1, B1⟩ := but_new hb1 (unhide hg1) (unhide hg2) rfl (Blk.new (cs := #[.int .u8 0, .int .i64 0, .int .i64 0]) rfl)
       have y0 := K1.lt
       have q0 := K1.cell 0; have q1 := K1.cell 1; have q2 := K1.cell 2
       have f0 := K1.frozen 0; have f1 := K1.frozen 1; have f2 := K1.frozen 2
       simp at q0 q1 q2
       clear hb1)
    | fail)
  exact ret_tk rfl w.heap.size (.int .u8 0) (.int .i64 0) (.int .i64 0) (.int .i64 er) rfl rfl K1.set3 rfl ⟨er, he, rfl, B1.set3 (Nat.le_refl _) _ _ _⟩

set_option maxHeartbeats 1000000 in
include hW ht hl hcl in
theorem readAgain_two (m : Nat) (r1 : Rdr) (h : treeR t 256 4 1 r = some (m, r1)) :
    Calls Try.prog 74 #[.pointer (some ⟨g, 0, none⟩)] w fun e w' =>
      ((∃ q r', treeR t 272 8 1 r1 = some (q, r') ∧ e = .returned (.tuple #[tkV ⟨0, (m : Int) - 16 + 3, (q : Int) - 256 + 1⟩, .int .i64 0]) ∧ Rd1 base g gc cc gt ct w' r' t) ∨ (treeR t 272 8 1 r1 = none ∧ ∃ er : Int, (er == 0) = false ∧ e = .returned (.tuple #[tkV ⟨0, 0, 0⟩, .int .i64 er]))) ∧ But [g, gc] w w' := by
  have hN1 := fun (W : World) (k : Rd1 base g gc cc gt ct W r t) => readNum_some base g gc cc gt ct 4 256 r t m r1 h W k ht hl (by omega) (by omega)
  have hge := treeR_ge 4 1 h
  simp at hge
  obtain ⟨hg1, hg2⟩ := hW.rd.lt hcl
  have hb4 : (m : Int) - 2 ^ 4 = (m : Int) - 16 := by omega
  rw [show ((4 : Nat) : Int) = 4 from rfl, hb4] at hN1
  cases h2 : treeR t 272 8 1 r1 with
  | none =>
    have hN2 := fun (W : World) (k : Rd1 base g gc cc gt ct W r1 t) => readNum_none base g gc cc gt ct 8 272 r1 t h2 W k ht hl (by omega) (by omega)
    replace hN1 := hide hN1; replace hN2 := hide hN2; replace hW := hide hW; replace hg1 := hide hg1; replace hg2 := hide hg2
    clear hcl h h2
    have tk0 : True := trivial
    go_enter Try.func74, Try.ntmps74
    go_wp2_with (first
      | (have _t := tk0; go_at_call 75; clear tk0 _t; refine (unhide hN1 _ ((unhide hW).alloc _)).mono ?_; rintro e w1 ⟨rfl, R1, hb1⟩
         obtain ⟨K1, B1⟩ := but_new hb1 (unhide hg1) (unhide hg2) rfl (Blk.new (cs := #[.int .u8 0, .int .i64 0, .int .i64 0]) rfl)
         replace R1 := hide R1; replace K1 := hide K1; replace B1 := hide B1
         clear hb1)
      | (go_at_call 75; refine (unhide hN2 _ (unhide R1)).mono ?_; rintro e w2 ⟨er, he, rfl, hb2⟩
         have K2 := (unhide K1).but hb2 (by have := unhide hg1; have := unhide hg2; simp; omega)
         have B2 := (unhide B1).trans hb2
         have y0 := K2.lt
         have q0 := K2.cell 0; have q1 := K2.cell 1; have q2 := K2.cell 2
         have f0 := K2.frozen 0; have f1 := K2.frozen 1; have f2 := K2.frozen 2
         simp at q0 q1 q2
         clear hb2)
      | fail)
    exact ret_tk rfl w.heap.size (.int .u8 0) (.int .i64 0) (.int .i64 0) (.int .i64 er) rfl rfl K2.set3 rfl ⟨.inr ⟨by simp, er, he, rfl⟩, B2.set3 (Nat.le_refl _) _ _ _⟩
  | some x =>
    obtain ⟨q, r2⟩ := x
    have hN2 := fun (W : World) (k : Rd1 base g gc cc gt ct W r1 t) => readNum_some base g gc cc gt ct 8 272 r1 t q r2 h2 W k ht hl (by omega) (by omega)
    have hge2 := treeR_ge 8 1 h2
    simp at hge2
    have hb8 : (q : Int) - 2 ^ 8 = (q : Int) - 256 := by omega
    rw [show ((8 : Nat) : Int) = 8 from rfl, hb8] at hN2
    replace hN1 := hide hN1; replace hN2 := hide hN2; replace hW := hide hW; replace hg1 := hide hg1; replace hg2 := hide hg2
    clear hcl h h2 hb4 hb8
    have tk0 : True := trivial
    go_enter Try.func74, Try.ntmps74
    go_wp2_with (first
      | (have _t := tk0; go_at_call 75; clear tk0 _t; refine (unhide hN1 _ ((unhide hW).alloc _)).mono ?_; rintro e w1 ⟨rfl, R1, hb1⟩
         obtain ⟨K1, B1⟩ := but_new hb1 (unhide hg1) (unhide hg2) rfl (Blk.new (cs := #[.int .u8 0, .int .i64 0, .int .i64 0]) rfl)
         replace R1 := hide R1; replace K1 := hide K1; replace B1 := hide B1
         clear hb1)
      | (go_at_call 75; refine (unhide hN2 _ (unhide R1)).mono ?_; rintro e w2 ⟨rfl, R2, hb2⟩
         have K2 := (unhide K1).but hb2 (by have := unhide hg1; have := unhide hg2; simp; omega)
         have B2 := (unhide B1).trans hb2
         have y0 := K2.lt
         have q0 := K2.cell 0; have q1 := K2.cell 1; have q2 := K2.cell 2
         have f0 := K2.frozen 0; have f1 := K2.frozen 1; have f2 := K2.frozen 2
         simp at q0 q1 q2
         clear hb2)
      | fail)
    exact ret_tk rfl w.heap.size (.int .u8 0) (.int .i64 ((m : Int) - 16 + 3)) (.int .i64 ((q : Int) - 256 + 1)) (.int .i64 0) rfl rfl K2.set3 rfl ⟨.inl ⟨q, r2, rfl, rfl, R2.set3 K2 _ _ _⟩, B2.set3 (Nat.le_refl _) _ _ _⟩
end
end Go.Proofs.Ytfihgjdppkiolaa
