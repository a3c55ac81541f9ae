import Derived.Test.YtnjepbehfioclaaR1
namespace Go.Proofs.Ytnjepbehfioclaa
open Go.RowKit
attribute [local go_sem] bz_size bz_toList run_store_float
set_option maxRecDepth 100000

theorem rank_some (g : Nat) (l : List UInt8) (w : World) (h : RdB g w l) (hn : 8 ≤ l.length) (he : ofE (numN (l.take 8)) = 0) :
    Calls Try.prog 55 #[.pointer (some ⟨g, 0, none⟩)] w fun e w' => e = .returned (.float .f64 (ofF (numN (l.take 8)))) ∧ RdB g w' (l.drop 8) ∧ But [g] w w' := by
  have h1 := take_some g 8 l w h hn
  have hlt : numN (l.take 8) < 18446744073709551616 := num_take_lt l 8
  have hnum := fun (A' : Option Addr) (c' : Nat) (W : World) (hW : Bs 0 g W (.slice A' 8 c') (l.take 8)) => number_any 0 g _ _ W hW (by rw [List.length_take]; omega)
  have hO := fun W => Of_any (numN (l.take 8)) hlt W
  have hN := fun W => need_ok W
  rw [he] at hO
  generalize numN (l.take 8) = q at *
  generalize ofF q = z at *
  replace h1 := hide h1; replace hnum := hide hnum; replace hO := hide hO; replace hN := hide hN
  clear h he hlt hn
  go_enter Try.func55, Try.ntmps55
  go_wp2_with (first
    | (go_at_call 54; refine (unhide h1).mono ?_; rintro e w1 ⟨A1, c1, rfl, b1, hR, hB⟩; replace b1 := hide b1; replace hR := hide hR; replace hB := hide hB)
    | (go_at_call 53; refine (unhide hnum _ _ _ (unhide b1)).mono ?_; rintro e w2 ⟨rfl, rfl⟩)
    | (go_at_call 59; refine (unhide hO _).mono ?_; rintro e w3 ⟨rfl, rfl⟩)
    | (go_at_call 43; refine (unhide hN _).mono ?_; rintro e w4 ⟨rfl, rfl⟩)
    | fail)
  go_ret
  exact ⟨rfl, unhide hR, unhide hB⟩
theorem rank_short (g : Nat) (l : List UInt8) (w : World) (h : RdB g w l) (hn : l.length < 8) :
    Calls Try.prog 55 #[.pointer (some ⟨g, 0, none⟩)] w fun e w' => e = stopE ∧ But [g] w w' := by
  have h1 := take_none g 8 l w h hn
  replace h1 := hide h1
  clear h hn
  go_enter Try.func55, Try.ntmps55
  go_wp2_with (first
    | (go_at_call 54; refine (unhide h1).mono ?_; rintro e w1 ⟨rfl, rfl⟩)
    | fail)
  exact ⟨rfl, rfl, But.refl _ _⟩
theorem rank_bad (g : Nat) (l : List UInt8) (w : World) (h : RdB g w l) (hn : 8 ≤ l.length) (he : ofE (numN (l.take 8)) ≠ 0) :
    Calls Try.prog 55 #[.pointer (some ⟨g, 0, none⟩)] w fun e w' => e = stopE ∧ But [g] w w' := by
  have h1 := take_some g 8 l w h hn
  have hlt : numN (l.take 8) < 18446744073709551616 := num_take_lt l 8
  have hnum := fun (A' : Option Addr) (c' : Nat) (W : World) (hW : Bs 0 g W (.slice A' 8 c') (l.take 8)) => number_any 0 g _ _ W hW (by rw [List.length_take]; omega)
  have hO := fun W => Of_any (numN (l.take 8)) hlt W
  have hN := fun W => need_no W
  have h2 : (ofE (numN (l.take 8)) == 0) = false := by simpa using he
  generalize numN (l.take 8) = q at *
  generalize ofE q = er at *
  generalize ofF q = z at *
  replace h1 := hide h1; replace hnum := hide hnum; replace hO := hide hO; replace hN := hide hN
  clear h he hlt hn
  go_enter Try.func55, Try.ntmps55
  go_wp2_with (first
    | (go_at_call 54; refine (unhide h1).mono ?_; rintro e w1 ⟨A1, c1, rfl, b1, hR, hB⟩; replace b1 := hide b1; replace hR := hide hR; replace hB := hide hB)
    | (go_at_call 53; refine (unhide hnum _ _ _ (unhide b1)).mono ?_; rintro e w2 ⟨rfl, rfl⟩)
    | (go_at_call 59; refine (unhide hO _).mono ?_; rintro e w3 ⟨rfl, rfl⟩)
    | (go_at_call 43; refine (unhide hN _).mono ?_; rintro e w4 ⟨rfl, rfl⟩)
    | fail)
  exact ⟨rfl, rfl, unhide hB⟩

theorem RdB.far {g : Nat} {W : World} {l : List UInt8} (h : RdB g W l) {p : Addr} (hp : g < p.block) (u : Value) : RdB g (W.setCell p u) l := by
  obtain ⟨A, c, h1, h2⟩ := h
  have hb : Below p.block W (W.setCell p u) := Below.setCell (Below.refl _ _) (Nat.le_refl _) u
  exact ⟨A, c, h1.far (by omega) u, h2.below hb (by omega)⟩
theorem RdB.alloc {g : Nat} {W : World} {l : List UInt8} (h : RdB g W l) (o : Obj) : RdB g (W.alloc o) l := h.but ((Below.refl _ _).alloc (Nat.le_refl _) o)
theorem ret_file {fn : Func} {p : Tmp} {R : Ending → World → Prop} {a : Act} {w : World} (h : fn.results = #[.cell p 26]) (g : Nat) (cs : Array Value) (hs : cs.size = 6)
    (hp : a.tmps.getD p undef = .pointer (some ⟨g, 0, none⟩)) (hg : Blk w g 26 cs) (hd : a.defers = []) (hR : R (.returned (.agg cs)) w) : bodyPost Try.prog fn R .ret a w :=
  bodyPost_ret (results_cell_row h a.tmps w g 26 cs (0, 0) _ hp hg Try.underlying26 rfl ((by kernel_rfl : (Try.prog.info? 26).map (·.size) = some 6).trans (by rw [hs]))) hd hR
/-- A call that reads, and one that stops. -/
def Reads (f g : Nat) (args : Array Value) (l l' : List UInt8) (v : Value) : Prop := ∀ W, RdB g W l → Calls Try.prog f args W fun e w' => e = .returned v ∧ RdB g w' l' ∧ But [g] W w'
def Stops (f g : Nat) (args : Array Value) (l : List UInt8) : Prop := ∀ W, RdB g W l → Calls Try.prog f args W fun e w' => e = stopE ∧ But [g] W w'
def Takes (g n : Nat) (l l' nm : List UInt8) : Prop := ∀ W, RdB g W l → Calls Try.prog 54 #[.pointer (some ⟨g, 0, none⟩), .int .i64 (n : Int)] W fun e w' => ∃ A c, e = .returned (.slice A n c) ∧ Bs 0 g w' (.slice A n c) nm ∧ RdB g w' l' ∧ But [g] W w'
theorem rd_cells {W : World} {g : Nat} {a0 a1 a2 a3 a4 a5 : Value} (h : Blk W g 26 #[a0, a1, a2, a3, a4, a5]) : (W.cell? ⟨g, 0, none⟩ = some a0 ∧ W.cell? ⟨g, 1, none⟩ = some a1 ∧ W.cell? ⟨g, 2, none⟩ = some a2 ∧ W.cell? ⟨g, 3, none⟩ = some a3 ∧ W.cell? ⟨g, 4, none⟩ = some a4 ∧ W.cell? ⟨g, 5, none⟩ = some a5) ∧
    (W.frozen? ⟨g, 0, none⟩ = false ∧ W.frozen? ⟨g, 1, none⟩ = false ∧ W.frozen? ⟨g, 2, none⟩ = false ∧ W.frozen? ⟨g, 3, none⟩ = false ∧ W.frozen? ⟨g, 4, none⟩ = false ∧ W.frozen? ⟨g, 5, none⟩ = false) :=
  ⟨⟨h.cell 0, h.cell 1, h.cell 2, h.cell 3, h.cell 4, h.cell 5⟩, ⟨h.frozen 0, h.frozen 1, h.frozen 2, h.frozen 3, h.frozen 4, h.frozen 5⟩⟩
theorem set6_blk {W : World} {p : Nat} {t : TypeId} {a0 a1 a2 a3 a4 a5 : Value} (h : Blk W p t #[a0, a1, a2, a3, a4, a5]) (x0 x1 x2 x3 x4 x5 : Value) : Blk ((((((W.setCell ⟨p, 0, none⟩ x0).setCell ⟨p, 1, none⟩ x1).setCell ⟨p, 2, none⟩ x2).setCell ⟨p, 3, none⟩ x3).setCell ⟨p, 4, none⟩ x4).setCell ⟨p, 5, none⟩ x5) p t #[x0, x1, x2, x3, x4, x5] := by
  simpa using (((((h.set 0 x0).set 1 x1).set 2 x2).set 3 x3).set 4 x4).set 5 x5
theorem set6_rd {W : World} {g p : Nat} {l : List UInt8} (h : RdB g W l) (hp : g < p) (x0 x1 x2 x3 x4 x5 : Value) : RdB g ((((((W.setCell ⟨p, 0, none⟩ x0).setCell ⟨p, 1, none⟩ x1).setCell ⟨p, 2, none⟩ x2).setCell ⟨p, 3, none⟩ x3).setCell ⟨p, 4, none⟩ x4).setCell ⟨p, 5, none⟩ x5) l :=
  (((((h.far (p := ⟨p, 0, none⟩) hp x0).far (p := ⟨p, 1, none⟩) hp x1).far (p := ⟨p, 2, none⟩) hp x2).far (p := ⟨p, 3, none⟩) hp x3).far (p := ⟨p, 4, none⟩) hp x4).far (p := ⟨p, 5, none⟩) hp x5
theorem set6_but {W w : World} {S : List Nat} {p : Nat} (h : But S w W) (hp : w.heap.size ≤ p) (x0 x1 x2 x3 x4 x5 : Value) : But S w ((((((W.setCell ⟨p, 0, none⟩ x0).setCell ⟨p, 1, none⟩ x1).setCell ⟨p, 2, none⟩ x2).setCell ⟨p, 3, none⟩ x3).setCell ⟨p, 4, none⟩ x4).setCell ⟨p, 5, none⟩ x5) :=
  (((((h.far (p := ⟨p, 0, none⟩) hp x0).far (p := ⟨p, 1, none⟩) hp x1).far (p := ⟨p, 2, none⟩) hp x2).far (p := ⟨p, 3, none⟩) hp x3).far (p := ⟨p, 4, none⟩) hp x4).far (p := ⟨p, 5, none⟩) hp x5
end Go.Proofs.Ytnjepbehfioclaa
